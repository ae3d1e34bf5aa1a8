/- Texts, joined. -/
import Derived.Test.YtlahonjmfecikaaGreatDoorXc
set_option maxRecDepth 100000
set_option maxHeartbeats 64000000
set_option linter.unusedVariables false
set_option linter.unusedSimpArgs false
open Go.Proofs.Tryz
namespace Go.Proofs.YtlahonjmfecikaaGreatDoor.jG
open Go.RowKit bg aA gK oq Gh
open aC (Fr dF nI aQ bn eF)
open aG (iy)
section
variable {W:World}
def ID (r:Ms×Option Ev):Value:=.tuple #[X0 r.2,.bool r.2.isSome,.int .i64 (r.1.bj:Int)]
theorem rV {fn:Func} {p u x:Tmp} (h:fn.results=#[.cell p 52,.tmp u,.tmp x]) (tmps:Array Value) (w:World) (g:Nat) (t:TypeId) (cs:Array Value) (fr:Nat×Nat)
 (hp:tmps.getD p undef=.pointer (some ⟨g,0,none⟩)) (hg:w.heap[g]? = some (.cells cs t fr)) (hs:cs.size=3) :
 (results fn tmps).run prog w=.ok (.tuple #[.agg cs,tmps.getD u undef,tmps.getD x undef]) w:=by
 have hi:(prog.info? 52).map (·.size)=some cs.size:=lU hs;have A3:tmps[p]?.getD undef=.pointer (some ⟨g,0,none⟩):=by simpa using hp
 simp only [results,h];simp [Result.andThen,A3,asAddr,UR (P:=prog) w g t 52 cs fr _ hg underlying52 rfl hi]
theorem Vz (n:FuncId) (cs:Array Value) (V:World):(binOp BinOp.eql 142 (Value.func (Fn.func n) #[] cs) Value.nilFunc).run prog V=.ok (.bool false) V:=by kernel_rfl
theorem Tm (V:World):(binOp BinOp.eql 142 Value.nilFunc Value.nilFunc).run prog V=.ok (.bool true) V:=by kernel_rfl
theorem Gt {w0 w3:World} {b q:Nat} {ae op:Int} {aT:List Nat} {o:Option St} {bj:Nat} {aL:Bool} {v p v' p':Value} {t:TypeId} {oB:Array Value} (hm:qZ w0 w3 b ae op aT o bj aL v' p') (hg:iC W w3 b v p v' p') (_:w3.heap[q]? = some (.cells oB t (0,0))) (hn:∀ k,gQ b v' p' k→k≠q) (hl:W.heap.size≤q) (h0:w0.heap.size≤W.heap.size) (cs:Array Value) :
 qZ w0 (w3.setRow q cs) b ae op aT o bj aL v' p'∧iC W (w3.setRow q cs) b v p v' p':=by
 have hk:bM (fun k=>k=q) w3 (w3.setRow q cs):=.grown (bZ w3 q cs) (fun k hk=>by injection hk with hk;exact hk.symm);refine ⟨hm.pZ hk hn ?_,⟨hg.kept.trans hk (fun j hj e=>?_),hg.dy⟩⟩
 ·refine below_setRow hm.L ?_ _
  omega
 ·omega
section
variable {w0 W:World} {b:Nat} {ae:Int} {st:Ms} {v p:Value}
theorem BN (h:gU w0 W b ae st v p) (hg:oq.bD w0) (aN:Bool) (op:Int) (m:Bool) (ka kb kc kd:Nat) (s:ByteArray) (hk:aU 256 [ka,kb,kc,kd]) (hs:s.size≤100000) :
 Calls prog 52 #[.pointer (some ⟨b,0,none⟩),(.agg (zV aN op m ka kb kc kd s))] W fun e w'=>∃ v' p',e=.returned (ID (aA.take ae st (⟨aN,op,m,[ka,kb,kc,kd],bytes s⟩:Fr))) ∧
  Sl (gU w0 w' b ae (aA.take ae st (⟨aN,op,m,[ka,kb,kc,kd],bytes s⟩:Fr)).1 v' p')∧Sl (iC W w' b v p v' p'):=by
 obtain ⟨r,hr⟩:=zX (aA.take ae st (⟨aN,op,m,[ka,kb,kc,kd],bytes s⟩:Fr));have BT:Sl (vP ae r.1):=⟨by rw [← hr];exact nV (by have:=h.lo;omega) h.f (aJ s)⟩;rw [hr];obtain ⟨W1,Ay⟩:=zX (W.alloc (.cells (zV aN op m ka kb kc kd s) 61));obtain ⟨W2,hW2⟩:=zX (W1.alloc (.cells #[.int .i64 0,.int .i64 0,.string {data:=#[]}] 52));obtain ⟨g,AC⟩:=zX W.heap.size;obtain ⟨q,Zc⟩:=zX W1.heap.size;have nf:q=g+1:=by rw [← Zc,← Ay,aP,AC]
 have ir:W1.heap[g]? = some (.cells (zV aN op m ka kb kc kd s) 61 (0,0)):=by rw [← Ay];exact aI _ _ _ AC.symm
 have bi:Below W.heap.size W W1:=by rw [← Ay];exact (dW _ _).alloc (aY _) _
 have bk:Below W1.heap.size W1 W2:=by rw [← hW2];exact (dW _ _).alloc (aY _) _
 have nz:Sl (W2.heap[g]? = some (.cells (zV aN op m ka kb kc kd s) 61 (0,0))):=⟨ay ir bk⟩;have lr:Sl (W2.heap[q]? = some (.cells #[.int .i64 0,.int .i64 0,.string {data:=#[]}] 52 (0,0))):=⟨by rw [← hW2];exact aI _ _ _ Zc.symm⟩;have HB:Sl (Below W.heap.size W W2):=⟨bi.trans (bk.mono bi.size)⟩;have DS:Sl (∀ k,gQ b v p k→k<g):=⟨fun k hk=>by rw [← AC];exact (h.m.lu hk).2⟩;have qD:=Sl.mk (h.below HB.ah);have cA:=Sl.mk h;have yf:Sl (W.heap.size≤q∧q<W2.heap.size∧W.heap.size=g):=⟨by rw [AC];omega,(zl lr.ah),AC⟩;have HI:=lU (cs:=#[.int .i64 0,.int .i64 0,.string {data:=#[]}]) rfl;have HG:=Sl.mk hg;have HS:=Sl.mk hs;have HR:=Sl.mk hr;have HK:=Sl.mk hk;obtain ⟨_,_,_,_,e4,e5⟩:=qD.ah.m.cells;clear hr hg hs hk h nf ir bi bk;by_cases hstop:st.bj≠0∨st.aL=true
 ·have gC:Sl (r=(st,none)):=⟨by rw [← HR.ah];exact sZ ae hstop _⟩
  by_cases he:st.bj=0
  ·have eJ:st.aL=true:=by
    rcases hstop with h | h
    ·exact absurd he h
    ·exact h
   have HE:=Sl.mk he;rw [he] at e4;rw [eJ] at e5;clear hstop he eJ;have HXM:=qD.ah.m.X;go_enter func52,ntmps52;go_upto_region 2 with fail
   refine zG (S:=fun V=>V.cell? ⟨b,4,none⟩=some (.int .i64 ((0:Nat):Int))) (by kernel_rfl) (fun Rw aM=>?_);have al:Rw.cell? ⟨b,4,none⟩=some (.int .i64 ((0:Nat):Int)):=(aM.cell (p:=⟨b,4,none⟩) qD.ah.m.lt).trans e4;have Pt:=ay lr.ah aM;refine zT 0 (some 20) (.build 52 #[]) _ al ?_;simp only [zA,zB,zS];refine zT 1 (some 21) (.move (.tmp 0)) _ al ?_;simp only [zA,zB,zS];refine zT 2 (some 22) (.nilCheck (.tmp 21)) _ al ?_;simp only [zA,zB,zS];refine zT 3 (some 23) (.fieldAddr 124 (.tmp 22) 2) _ al ?_;simp only [zA,zB,zS];refine zT 4 (some 24) (.load 31 (.tmp 23)) _ al ?_ (hy:=fun o' ho W hS=>by have hc:=hS;simp only [execOp,ho];go_simp;try rfl);simp only [zA,zB,zS];obtain ⟨w3,cH⟩:=zX (Rw.setRow q #[.int .i64 0,.int .i64 0,.string {data:=#[]}]);have yk:Sl (w3.heap[q]? = some (.cells #[.int .i64 0,.int .i64 0,.string {data:=#[]}] 52 (0,0))):=⟨by rw [← cH];exact gY _ _ _ _ _ _ Pt⟩;have LN:b≠q:=by have h1:=DS.ah b (.inl rfl);have h2:=yf.ah;omega
   have da:w3.cell? ⟨b,4,none⟩=some (.int .i64 ((0:Nat):Int)):=by rw [DV (w:=Rw) (a:=⟨b,4,none⟩) (by rw [← cH];exact qC _ _ _ _ LN)];exact al
   have Hx:Sl (Below W.heap.size W w3):=⟨by rw [← cH];exact below_setRow (HB.ah.trans (aM.mono HB.ah.size)) yf.ah.1 _⟩;refine zW 5 none (.store 52 (.tmp 4) (.tmp 20)) 0 w3 da ?_ (hy:=fun o' ho ht=>by rw [← cH];exact rQ ho (by rfl) (by rfl) Pt rfl HI (o8 _ _ _));simp only [Act.put];refine zT 6 (some 5) (.assign (.const (.bool false))) _ da ?_;simp only [zA,zB,zS];refine zT 7 (some 6) (.assign (.tmp 24)) _ da ?_;simp only [zA,zB,zS];refine zE (by kernel_rfl) ?_;clear al da Pt cH LN aM HXM;go_wp2;refine gX (rV rfl _ _ q 52 _ (0,0) rfl yk.ah rfl) rfl ?_;have BS:=gC.ah;subst BS;exact ⟨v,p,by unfold ID;rw [HE.ah];rfl,⟨cA.ah.below Hx.ah⟩,⟨iC.below b v p Hx.ah⟩⟩
  ·have hq:((st.bj:Int) != 0)=true:=by simpa using he
   clear hstop he;have HXM:=qD.ah.m.X;go_enter func52,ntmps52;go_upto_region 2 with fail
   refine zG (S:=fun V=>V.cell? ⟨b,4,none⟩=some (.int .i64 (st.bj:Int))) (by kernel_rfl) (fun Rw aM=>?_);have al:Rw.cell? ⟨b,4,none⟩=some (.int .i64 (st.bj:Int)):=(aM.cell (p:=⟨b,4,none⟩) qD.ah.m.lt).trans e4;have Pt:=ay lr.ah aM;refine zT 0 (some 20) (.build 52 #[]) _ al ?_;simp only [zA,zB,zS];refine zT 1 (some 21) (.move (.tmp 0)) _ al ?_;simp only [zA,zB,zS];refine zT 2 (some 22) (.nilCheck (.tmp 21)) _ al ?_;simp only [zA,zB,zS];refine zT 3 (some 23) (.fieldAddr 124 (.tmp 22) 2) _ al ?_;simp only [zA,zB,zS];refine zT 4 (some 24) (.load 31 (.tmp 23)) _ al ?_ (hy:=fun o' ho W hS=>by have hc:=hS;simp only [execOp,ho];go_simp;try rfl);simp only [zA,zB,zS];obtain ⟨w3,cH⟩:=zX (Rw.setRow q #[.int .i64 0,.int .i64 0,.string {data:=#[]}]);have yk:Sl (w3.heap[q]? = some (.cells #[.int .i64 0,.int .i64 0,.string {data:=#[]}] 52 (0,0))):=⟨by rw [← cH];exact gY _ _ _ _ _ _ Pt⟩;have LN:b≠q:=by have h1:=DS.ah b (.inl rfl);have h2:=yf.ah;omega
   have da:w3.cell? ⟨b,4,none⟩=some (.int .i64 (st.bj:Int)):=by rw [DV (w:=Rw) (a:=⟨b,4,none⟩) (by rw [← cH];exact qC _ _ _ _ LN)];exact al
   have Hx:Sl (Below W.heap.size W w3):=⟨by rw [← cH];exact below_setRow (HB.ah.trans (aM.mono HB.ah.size)) yf.ah.1 _⟩;refine zW 5 none (.store 52 (.tmp 4) (.tmp 20)) 0 w3 da ?_ (hy:=fun o' ho ht=>by rw [← cH];exact rQ ho (by rfl) (by rfl) Pt rfl HI (o8 _ _ _));simp only [Act.put];refine zT 6 (some 5) (.assign (.const (.bool false))) _ da ?_;simp only [zA,zB,zS];refine zT 7 (some 6) (.assign (.tmp 24)) _ da ?_;simp only [zA,zB,zS];refine zE (by kernel_rfl) ?_;clear al da Pt cH LN aM HXM;go_wp2;refine gX (rV rfl _ _ q 52 _ (0,0) rfl yk.ah rfl) rfl ?_;have BS:=gC.ah;subst BS;exact ⟨v,p,rfl,⟨cA.ah.below Hx.ah⟩,⟨iC.below b v p Hx.ah⟩⟩
 ·have he:st.bj=0:=by
   by_cases h:st.bj=0
   ·exact h
   ·exact absurd (.inl h) hstop
  have eJ:st.aL=false:=by
   cases h:st.aL with
   | true=>exact absurd (.inr h) hstop
   | false=>rfl
  have gN:Sl (aA.step ae st (⟨aN,op,m,[ka,kb,kc,kd],bytes s⟩:Fr)=r):=⟨by rw [← HR.ah,oL ae he eJ]⟩;have CR:=rU qD.ah he eJ HG.ah aN op m ka kb kc kd s HK.ah HS.ah;rw [gN.ah] at CR;have ph:Sl (r.1.bj≠0→r.2=none):=⟨fun eW=>by
   by_cases h:r.2=none
   ·exact h
   ·have h2:=wF (ae:=ae) (f:=(⟨aN,op,m,[ka,kb,kc,kd],bytes s⟩:Fr)) he (by rw [gN.ah];exact h)
    rw [gN.ah] at h2;exact absurd h2 eW⟩
  rw [he] at e4;rw [eJ] at e5;obtain ⟨g0,g1,g2,g3,g4,g5,g6,g7⟩:=oZ nz.ah;clear hstop he eJ;go_enter func52,ntmps52;go_wp2_with fail
  refine CR.mono ?_;rintro e w3 ⟨v',p',tv,rfl,D1⟩;clear CR g0 g1 g2 g3 g4 g5 g6 g7;have yk:Sl (w3.heap[q]? = some (.cells #[.int .i64 0,.int .i64 0,.string {data:=#[]}] 52 (0,0))):=⟨by
   rw [D1.ah.ou.kept.block q yf.ah.2.1 (fun e=>by have h1:=DS.ah q e;have h2:=yf.ah;omega)];exact lr.ah⟩
  have AS:Sl (iC W w3 b v p v' p'):=⟨(iC.below b v p HB.ah).trans D1.ah.ou⟩;have HQN:Sl (∀ k,gQ b v' p' k→k≠q):=⟨fun k hk e=>by
   subst e;have h2:=yf.ah;rcases D1.ah.ou.dy k hk with h | h
   ·have:=DS.ah k h;omega
   ·omega⟩
  by_cases hz:r.1.bj=0
  ·obtain ⟨op',pC,o',hm,D2⟩:=D1.ah.mac
   obtain ⟨q1,q2,q3⟩:=D2 hz;subst q1 q2 q3;have ei:=Sl.mk hm;have ht:=D1.ah.Td hz;have HZ:=Sl.mk hz;clear hm D2;cases mS:r.2 with
   | none =>
     rw [mS] at ht;have mL:tv=.nilFunc:=ht;subst mL;have Id:=Sl.mk mS;rw [hz];clear mS ht hz e4 e5;have hny:=Tm;go_wp2_with (refine fG rfl 52 (.tmp 4) (.tmp 45) rfl q #[.int .i64 0,.int .i64 0,.string {data:=#[]}] rfl rfl 52 #[.int .i64 0,.int .i64 0,.string {data:=#[]}] yk.ah HI rfl (o8 _ _ _) ?_)
     refine gX (rV rfl _ _ q 52 _ (0,0) rfl (gY _ _ _ _ _ _ yk.ah) rfl) rfl ?_;have hE:=Id.ah;obtain ⟨r1,r2⟩:=r;simp only at hE;subst hE;have hz:=HZ.ah;simp only at hz;obtain ⟨LO,Pu⟩:=Gt ei.ah AS.ah yk.ah HQN.ah yf.ah.1 cA.ah.m.L.size #[.int .i64 0,.int .i64 0,.string {data:=#[]}];exact ⟨v',p',by unfold ID;rw [hz];rfl,⟨⟨by rw [hz];exact LO,BT.ah,cA.ah.lo,cA.ah.hi⟩⟩,⟨Pu⟩⟩
   | some x =>
     rw [mS] at ht;obtain ⟨n,cs,vq,xF,hca⟩:=ht;subst vq;have Id:=Sl.mk mS;rw [hz];clear mS hz e4 e5;have hnf:=Vz n cs;go_wp2_with fail
     refine hca.mono ?_;rintro e w4 ⟨rfl,br⟩;have sE:Sl (w4.heap[q]? = some (.cells #[.int .i64 0,.int .i64 0,.string {data:=#[]}] 52 (0,0))):=⟨ay yk.ah br.ah⟩;have m4:=lU (cs:=evC x.op x.ao (aF x.data)) rfl;clear hca xF hnf HI;go_wp2_with (refine fG rfl 52 (.tmp 4) (.tmp 47) rfl q (evC x.op x.ao (aF x.data)) rfl rfl 52 #[.int .i64 0,.int .i64 0,.string {data:=#[]}] sE.ah m4 rfl (o8 _ _ _) ?_)
     refine gX (rV rfl _ _ q 52 _ (0,0) rfl (gY _ _ _ _ _ _ sE.ah) rfl) rfl ?_;have hE:=Id.ah;obtain ⟨r1,r2⟩:=r;simp only at hE;subst hE;have hz:=HZ.ah;simp only at hz;obtain ⟨LO,Pu⟩:=Gt (ei.ah.below br.ah) (AS.ah.trans (iC.below b _ _ br.ah)) sE.ah HQN.ah yf.ah.1 cA.ah.m.L.size (evC x.op x.ao (aF x.data));exact ⟨v',p',by unfold ID;rw [hz];rfl,⟨⟨by rw [hz];exact LO,BT.ah,cA.ah.lo,cA.ah.hi⟩⟩,⟨Pu⟩⟩
  ·have hzq:((r.1.bj:Int) != 0)=true:=by simpa using hz
   obtain ⟨op',pC,o',hm,_⟩:=D1.ah.mac;have eJ:r.1.aL=false:=by rw [BT.ah.bj hz];rfl
   rw [eJ] at hm;have ei:=Sl.mk hm;obtain ⟨_,d1,d2,d3,d4,_⟩:=hm.cells;have f1:=hm.fF 1;have f2:=hm.fF 2;have f3:=hm.fF 3;have f4:=hm.fF 4;have HZ:=Sl.mk hz;have hX:(w3.setCell ⟨b,4,none⟩ (.int .i64 (r.1.bj:Int))).heap[b]? = some (.cells #[.int .i64 ae,.int .i64 op',v',p',.int .i64 (r.1.bj:Int),.bool false] 124 (0,0)):=by
    rw [lF _ _ _ _ _ _ hm.X];rfl
   obtain ⟨LO,Pu,Vi⟩:=MS hm (aH _ _ _ _) hX;obtain ⟨w4,cS⟩:=zX ((((w3.setCell ⟨b,4,none⟩ (.int .i64 (r.1.bj:Int))).setCell ⟨b,1,none⟩ (.int .i64 0)).setCell ⟨b,2,none⟩ (.slice none 0 0)).setCell ⟨b,3,none⟩ (.pointer none));rw [cS] at LO Pu Vi;have LN:b≠q:=by have h1:=DS.ah b (.inl rfl);have h2:=yf.ah;omega
   have sE:Sl (w4.heap[q]? = some (.cells #[.int .i64 0,.int .i64 0,.string {data:=#[]}] 52 (0,0))):=⟨by rw [Vi.block q (zl yk.ah) (fun e=>LN (by injection e with e;exact e.symm))];exact yk.ah⟩;have gS:=Sl.mk LO;have oF:=Sl.mk (AS.ah.trans Pu);clear hm eJ hz hX LO Pu Vi LN e4 e5;go_upto_region 6 with fail
   clear cS d1 d2 d3 d4 f1 f2 f3 f4;go_wp2_with (refine fG rfl 52 (.tmp 4) (.tmp 41) rfl q #[.int .i64 0,.int .i64 0,.string {data:=#[]}] rfl rfl 52 #[.int .i64 0,.int .i64 0,.string {data:=#[]}] sE.ah HI rfl (o8 _ _ _) ?_)
   refine gX (rV rfl _ _ q 52 _ (0,0) rfl (gY _ _ _ _ _ _ sE.ah) rfl) rfl ?_;have hz:=HZ.ah;have hE:=ph.ah hz;have hb:=BT.ah.bj hz;obtain ⟨r1,r2⟩:=r;simp only at hE hb hz;subst hE;obtain ⟨vo,xd⟩:=Gt gS.ah oF.ah sE.ah (fun k hk e=>by have:=mq hk;have h1:=DS.ah b (.inl rfl);have h2:=yf.ah;omega) yf.ah.1 cA.ah.m.L.size #[.int .i64 0,.int .i64 0,.string {data:=#[]}];refine ⟨_,_,rfl,⟨⟨?_,BT.ah,cA.ah.lo,cA.ah.hi⟩⟩,⟨xd⟩⟩;rw [hb];exact vo
end
open Go.RowKit bg aA gK oq Gh
open aC (Fr dF nI aQ bn eF)
open aG (iy)
theorem VA (x:Option Ev):∃ o c t,X0 x=.agg #[.int .i64 o,.int .i64 c,.string t]:=by
 cases x with
 | none=>exact ⟨_,_,_,rfl⟩
 | some e=>exact ⟨_,_,_,rfl⟩
theorem iq {g:Nat} {o c:Int} {s:ByteArray} (h:W.heap[g]? = some (.cells #[.int .i64 o,.int .i64 c,.string s] 52 (0,0))):W.cell? ⟨g,0,none⟩=some (.int .i64 o)∧W.cell? ⟨g,1,none⟩=some (.int .i64 c)∧W.cell? ⟨g,2,none⟩=some (.string s):=by
 refine ⟨?_,?_,?_⟩<;>(rw [jg _ _ _ _ _ _ h];rfl)
section
variable {w0 W:World} {b:Nat} {ae:Int} {st:Ms} {v p:Value}
theorem tZ (h:gU w0 W b ae st v p) (hg:oq.bD w0) (aN:Bool) (op:Int) (m:Bool) (ka kb kc kd:Nat) (s:ByteArray) (hk:aU 256 [ka,kb,kc,kd]) (hs:s.size≤100000) (fv:Value) (hf:(.agg (zV aN op m ka kb kc kd s))=fv)
 (fp:Ms) (x:Option Ev) (hr:aA.take ae st (⟨aN,op,m,[ka,kb,kc,kd],bytes s⟩:Fr)=(fp,x)) (o c:Int) (t:ByteArray) (hx:X0 x=.agg #[.int .i64 o,.int .i64 c,.string t]) (d:Bool) (hd:x.isSome=d) (k:Int) (tW:(fp.bj:Int)=k) :
 Calls prog 52 #[.pointer (some ⟨b,0,none⟩),fv] W fun e w'=>∃ v' p',e=.returned (.tuple #[.agg #[.int .i64 o,.int .i64 c,.string t],.bool d,.int .i64 k]) ∧
  Sl (gU w0 w' b ae fp v' p')∧Sl (iC W w' b v p v' p'):=by
 subst hf;refine (BN h hg aN op m ka kb kc kd s hk hs).mono ?_;rintro e w' ⟨v',p',rfl,h1,h2⟩;refine ⟨v',p',?_,by rw [hr] at h1;exact h1,h2⟩;rw [hr];unfold ID;rw [hx,hd,tW]
end
end
end Go.Proofs.YtlahonjmfecikaaGreatDoor.jG
namespace Go.Proofs.YtlahonjmfecikaaGreatDoor.iL
open Go.RowKit aO jF gK jS cO
open aC (Fr dn dF nI aQ bn)
section
variable {W:World} {a:Option Addr} {k:Nat} {fs:List Fr}
theorem wY (w:World) (base:Nat) (hb:base≤w.heap.size):gZ (w.alloc (.cells #[] 61)) base (.slice (some ⟨w.heap.size,0,none⟩) 0 0) [] :=
 World.ownsRow_made w #[] 0 hb (by unfold maxLen;omega) rfl
def kG (a:Option Addr) (k cap:Nat):Option Addr:=if cap=k then a else a.map (·.add (k*8))
theorem size44 (V:World):(sizeOf 61).run prog V=.ok 8 V:=by
 obtain ⟨i0,hi,ic,eI,dz⟩:=info43;simp [sizeOf,typeInfo,hi,eI]
theorem EG (V:World) (a:Option Addr) (n cap k:Nat) (hk:k≤cap):(Instr.slice 34 (.slice a n cap) none (some (.int .i64 (k:Int))) none).run prog V=.ok (.slice a k cap) V:=by
 rw [run_slice_h (ht:=underlying34) (h0:=by omega) (h2:=by omega),show prog.elem 34=61 from rfl,size44];cases a<;>simp [Result.andThen,sliced,Addr.add]
theorem zx (V:World) (a:Option Addr) (n cap k:Nat) (hk:k≤n):(Instr.slice 34 (.slice a n cap) (some (.int .i64 (k:Int))) none none).run prog V=.ok (.slice (kG a k cap) (n-k) (cap-k)) V:=by
 rw [run_slice_l (ht:=underlying34) (h0:=by omega) (h1:=by omega),show prog.elem 34=61 from rfl,size44];simp [Result.andThen,sliced,kG]
theorem aS.to {n cap:Nat} (h:aS W (.slice a n cap) fs) (hk:k≤n):aS W (.slice a k cap) (fs.take k):=by
 obtain ⟨a',c',sb,so,he,h1,h2,h3⟩:=h;injection he with e1 e2 e3
 subst e1 e2 e3;have hl:(fs.take k).length=k:=by rw [kQ];omega
 refine ⟨a,cap,sb,so,by rw [hl],by rw [hl];omega,fun hp=>h2 (by rw [hl] at hp;omega),fun i hi j hj=>?_⟩;rw [hl] at hi;rw [h3 i (by omega) j hj];congr 2;rw [iw,iw,NP hi]
theorem aS.from {n cap:Nat} (h:aS W (.slice a n cap) fs) (hk:k≤n):aS W (.slice (kG a k cap) (n-k) (cap-k)) (fs.drop k):=by
 obtain ⟨a',c',sb,so,he,h1,h2,h3⟩:=h;injection he with e1 e2 e3
 subst e1 e2 e3;have hl:(fs.drop k).length=fs.length-k:=iP ..;refine ⟨_,_,sb,so+k*8,by rw [hl],by rw [hl];omega,fun hp=>?_,fun i hi j hj=>?_⟩
 ·rw [hl] at hp
  unfold kG;rw [if_neg (by omega),h2 (by omega),Dy,DD]
 ·rw [hl] at hi
  have h4:=h3 (k+i) (by omega) j hj;rw [show so+(k+i)*8+j=so+k*8+i*8+j from by omega] at h4;rw [h4];congr 2;rw [iw,iw,LW]
open Go.RowKit aO jF gK jS cO
open aC (Fr dn dF nI aQ bn)
theorem Tn:type_of% @Go.Proofs.YtlahonjmfecikaaGreatDoor.iL.wY:=@Go.Proofs.YtlahonjmfecikaaGreatDoor.iL.wY
def OS (v:Value):Nat:=match v with | .string s=>s.size | _=>0
open Go.RowKit aO jF gK jS cO
open aC (Fr dn dF nI aQ bn)
theorem EH:aF []={data:=#[]}:=by decide +kernel
end
open aC (aT iJ kD)
open jG (gQ bM iC gU X0)
open aA (Ms M0 Ev)
section
variable {W W':World} {S:Nat→Prop} {base:Nat} {v:Value} {xs:List Value}
theorem kJ {n:Nat} {e:TypeId} {size:Nat} (h:W.ownsRow base e size v n xs) (k:bM S W W') (hn:∀ g,v.ownBlock=some g→¬ S g):W'.ownsRow base e size v n xs:=by
 refine ⟨h.1,?_⟩;rcases h.2 with hz | ⟨g,cap,fI,rfl,hb,hg,r⟩
 ·exact .inl hz
 ·exact .inr ⟨g,cap,fI,rfl,hb,by rw [k.block g (zl hg) (hn g (by simp [Value.ownBlock]))];exact hg,r⟩
theorem CY {n:Nat} {e:TypeId} {size:Nat} (h:W.ownsRow base e size v n xs) {g:Nat} (hg:v.ownBlock=some g):base≤g∧∃ cs,W.heap[g]? = some (.cells cs e (0,0)):=by
 rcases h.2 with ⟨rfl,_⟩ | ⟨k,cap,fI,rfl,hb,hh,_⟩
 ·cases hg
 ·have:k=g:=by simpa [Value.ownBlock] using hg
  subst this;exact ⟨hb,_,hh⟩
theorem nS {w0:World} {b:Nat} {af:Bool} {ae:Int} {part:List Nat} {bj:Nat} (h:dG w0 W b af ae part bj v) (k:bM S W W') (h1:¬ S b) (h2:∀ g,v.ownBlock=some g→¬ S g) (hL:Below w0.heap.size w0 W'):dG w0 W' b af ae part bj v :=
 ⟨by rw [k.block b h.lt h1];exact h.X,kJ h.O k h2,h.B,hL⟩
section
variable {wB W W':World} {bs bm:Nat} {part ahW:List Nat} {vS vS':Value} {st fp:Ms} {vM pM vM' pM' tv cP:Value} {nt nt':Nat} {ev ev':List Value}
end
open Go.RowKit aO jF gK jS cO
open aC (Fr dn dF nI aQ bn)
open aV (all)
open aA (Ms M0 Ev)
end
end Go.Proofs.YtlahonjmfecikaaGreatDoor.iL
namespace Go.Proofs.YtlahonjmfecikaaGreatDoor.OT
section
variable {w w':World} {b p a L k:Nat} {l:List Nat}
def ru (L a i:Nat):Nat:=if a+i<L then a+i else a+i-L
def eU (l:List Nat) (a n:Nat):List Nat:=(List.range n).map fun i=>l.getD (ru l.length a i) 0
@[simp] theorem jM (l:List Nat) (a n:Nat):(eU l a n).length=n:=by simp [eU]
theorem ng (l:List Nat) (a n i:Nat) (h:i<n):(eU l a n).getD i 0=l.getD (ru l.length a i) 0:=by
 simp [eU,iw,h]
theorem Gu (l c:List Nat) (a n:Nat) (_ha:a<l.length) (hn:n+c.length≤l.length) (e:Nat) (he:e=ru l.length a n) (km:e+c.length≤l.length) :
 eU (splice l e c) a (n+c.length)=eU l a n++c:=by
 have hL:=dB l c e km;apply pP (by simp);intro i hi;rw [jM] at hi;rw [ng _ _ _ _ hi,hL,uV l c e _ km];by_cases h1:i<n
 ·rw [lK (by rw [jM];exact h1),ng _ _ _ _ h1]
  rw [if_neg];rw [he];unfold ru;split<;>split<;>omega
 ·rw [kR (by rw [jM];omega),jM]
  have hp:e≤ru l.length a i∧ru l.length a i<e+c.length∧ru l.length a i-e=i-n:=by
   rw [he] at km ⊢;unfold ru at *;split at km<;>split<;>split<;>omega
  rw [if_pos ⟨hp.1,hp.2.1⟩,hp.2.2]
theorem OU (l:List Nat) (a n k:Nat) (ha:a<l.length) (hk:k≤n) (hn:n≤l.length) (b:Nat) (hb:b=ru l.length a k∨(n=k)) (fe:b<l.length):eU l b (n-k)=(eU l a n).drop k:=by
 apply pP (by simp);intro i hi;rw [jM] at hi;have e:((eU l a n).drop k).getD i 0=(eU l a n).getD (k+i) 0:=by simp [iw,LW]
 rw [e,ng _ _ _ _ hi,ng _ _ _ _ (by omega)];congr 1;rcases hb with rfl | h
 ·unfold ru at *;split at fe<;>split<;>split<;>split<;>omega
 ·omega
theorem EI (l:List Nat) (a n k:Nat) (hk:k≤n):(eU l a n).take k=eU l a k:=by
 apply pP (by simp;omega);intro i hi;have lB:i<k:=by simp at hi;omega
 have e:((eU l a n).take k).getD i 0=(eU l a n).getD i 0:=by simp [iw,lB]
 rw [e,ng _ _ _ _ (by omega),ng _ _ _ _ lB]
theorem Tq (l:List Nat) (a k:Nat) (h:a+k≤l.length):eU l a k=(l.drop a).take k:=by
 apply pP (by simp;omega);intro i hi;rw [jM] at hi;have e:((l.drop a).take k).getD i 0=l.getD (a+i) 0:=by simp [iw,LW,hi]
 rw [ng _ _ _ _ hi,e];congr 1;unfold ru;rw [if_pos (by omega)]
theorem Tt (l:List Nat) (a k:Nat) (ha:a<l.length) (hk:k≤l.length) (h:l.length≤a+k):eU l a k=l.drop a++l.take (a+k-l.length):=by
 apply pP (by simp;omega);intro i hi;rw [jM] at hi;rw [ng _ _ _ _ hi];by_cases h1:a+i<l.length
 ·rw [lK (by rw [iP];omega)]
  simp only [iw,LW];unfold ru;rw [if_pos h1]
 ·rw [kR (by rw [iP];omega),iP]
  simp only [iw,List.getElem?_take];unfold ru;rw [if_neg h1,if_pos (by omega)];congr 2;omega
theorem VB (l c d:List Nat) (a n:Nat) (ha:a<l.length) (hn:n+c.length+d.length≤l.length) (e:Nat) (he:e=ru l.length a n) (hc:e+c.length=l.length) (hd:c.length≤l.length→ru l.length a (n+c.length)=0∨d=[]) :
 eU (splice (splice l e c) 0 d) a (n+(c++d).length)=eU l a n++(c++d):=by
 have h1:=Gu l c a n ha (by omega) e he (by omega);have hL:=dB l c e (by omega);rcases hd (by omega) with hp | hp
 ·have h2:=Gu (splice l e c) d a (n+c.length) (by omega) (by omega) 0 (by rw [hL,hp]) (by omega)
  rw [jB,← UO,h2,h1,Ae]
 ·subst hp
  have e0:splice (splice l e c) 0 []=splice l e c:=by simp [splice]
  rw [e0,yC,h1]
open Go.RowKit
structure dM (w:World) (b p:Nat) (l:List Nat) (a n:Nat):Prop where
 hb:w.heap[b]? = some (.cells #[.slice (some ⟨p,0,none⟩) l.length l.length,.int .i64 a,.int .i64 n] 126 (0,0))
 hp:w.heap[p]? = some (.cells (dZ l).toArray 5 (0,0))
 ne:b≠p
 lt:a<l.length
 le:n≤l.length
 vr:l.length≤65536
 fO:aU 256 l
def jf (w w':World):Prop:=∃ m,w'=w.drewN m
theorem jf.heap (h:jf w w'):w'.heap=w.heap:=by obtain ⟨m,rfl⟩:=h;rfl
theorem jf.below (h:jf w w'):Below w.heap.size w w':=by obtain ⟨m,rfl⟩:=h;exact ⟨rfl,rfl,rfl,aY _,fun _ _=>rfl⟩
theorem dM.still {n:Nat} (h:dM w b p l a n) (k:jf w w'):dM w' b p l a n :=
 ⟨by rw [k.heap];exact h.hb,by rw [k.heap];exact h.hp,h.ne,h.lt,h.le,h.vr,h.fO⟩
theorem dM.c0 {n:Nat} (h:dM w b p l a n):w.cell? ⟨b,0,none⟩=some (.slice (some ⟨p,0,none⟩) l.length l.length):=by rw [jg _ _ _ _ _ _ h.hb];rfl
theorem dM.c1 {n:Nat} (h:dM w b p l a n):w.cell? ⟨b,1,none⟩=some (.int .i64 a):=by rw [jg _ _ _ _ _ _ h.hb];rfl
theorem dM.c2 {n:Nat} (h:dM w b p l a n):w.cell? ⟨b,2,none⟩=some (.int .i64 n):=by rw [jg _ _ _ _ _ _ h.hb];rfl
theorem VC (ha:a<L) (hk:k≤L):((a:Int)+(k:Int)) % (L:Int)=(ru L a k:Nat):=by
 unfold ru;split
 ·rw [Int.emod_eq_of_lt (by omega) (by omega)];omega
 ·have e:((a:Int)+(k:Int))=((a+k-L:Nat):Int)+(L:Int):=by omega
  rw [e,Int.add_emod_right,Int.emod_eq_of_lt (by omega) (by omega)]
theorem qK (ha:a<L) (hk:k≤L):ru L a k<L:=by unfold ru;split<;>omega
theorem VD (b p a n:Nat) (l:List Nat) (w:World) (h:dM w b p l a n):Calls prog 95 #[.pointer (some ⟨b,0,none⟩)] w fun e w'=>e=.returned (.int .i64 n)∧w=w':=by
 have c2:=h.c2;clear h;go_enter func95,ntmps95;go_wp2;go_ret;exact ⟨rfl,rfl⟩
theorem IE (b p a n:Nat) (l:List Nat) (w:World) (h:dM w b p l a n):Calls prog 145 #[.pointer (some ⟨b,0,none⟩)] w fun e w'=>e=.returned (.int .i64 ((l.length-n:Nat):Int))∧jf w w':=by
 have c0:=h.c0;have c2:=h.c2;have h1:=h.le;have h2:=h.vr;clear h;generalize l.length=L at *;go_enter func145,ntmps145;go_wp2;go_quiet (fail)
 go_wp2;go_ret;exact ⟨oN (by omega),⟨_,rfl⟩⟩
theorem uf (b p a n k:Nat) (l:List Nat) (w:World) (h:dM w b p l a n) (hk:k≤l.length):Calls prog 123 #[.pointer (some ⟨b,0,none⟩),.int .i64 k] w fun e w'=>e=.returned (.int .i64 (ru l.length a k:Nat))∧jf w w':=by
 have c0:=h.c0;have c1:=h.c1;have h1:=h.lt;have h2:=h.vr;clear h;generalize l.length=L at *;have HM:=Sl.mk (VC h1 hk);go_enter func123,ntmps123;go_wp2;go_quiet (fail)
 go_wp2;go_ret;exact ⟨oN HM.ah,⟨_,rfl⟩⟩
open Go.RowKit
def X3 (w:World) (p e x y:Nat) (en:Ending) (w':World):Prop :=
 ∃ d:Addr,en=.returned (.tuple #[.slice (some d) x x,.slice (some ⟨p,0,none⟩) y y])∧(0<x→d=⟨p,e,none⟩)∧(x=0→d=⟨p,0,none⟩)∧jf w w'
theorem Gv {d:Addr} {x x' y y':Nat} (hx:x=x') (hy:y=y'):Ending.returned (.tuple #[.slice (some d) x x,.slice (some ⟨p,0,none⟩) y y])=.returned (.tuple #[.slice (some d) x' x',.slice (some ⟨p,0,none⟩) y' y']):=by rw [hx,hy]
theorem jf.drewN (h:jf w w') (n:Nat):jf w (w'.drewN n):=by
 obtain ⟨m,rfl⟩:=h;exact ⟨m+n,by rw [World.drewN_drewN]⟩
theorem Kw (b p a n k m e:Nat) (l:List Nat) (w:World) (h:dM w b p l a n) (hk:k≤l.length) (he:ru l.length a k=e) (hm:0<m) (hf:e+m≤l.length) :
 Calls prog 96 #[.pointer (some ⟨b,0,none⟩),.int .i64 k,.int .i64 m] w (X3 w p e m 0):=by
 have HP:Sl (Calls prog 123 #[.pointer (some ⟨b,0,none⟩),.int .i64 k] w fun e' w'=>e'=.returned (.int .i64 e)∧jf w w'):=⟨by rw [← he];exact uf b p a n k l w h hk⟩;have H:=Sl.mk h;have h2:=h.vr;have h3:e<l.length:=by rw [← he];exact qK h.lt hk
 clear h he;go_enter func96,ntmps96;go_wp2_with fail
 refine HP.ah.mono ?_;rintro e1 w1 ⟨rfl,k1⟩;have h1:=H.ah.still k1;have c0:=h1.c0;have K1:=Sl.mk k1;clear h1 k1;generalize l.length=L at *;have g1:¬ (L:Int)<(e:Int)+(m:Int):=by omega
 have g2:¬ ((e:Int)+(m:Int)=(e:Int)):=by omega
 go_wp2;go_quiet (fail)
 go_wp2;go_ret2;exact ⟨_,Gv (by omega) rfl,fun _=>rfl,fun h=>by omega,K1.ah.drewN _⟩
theorem IF (b p a n k m e:Nat) (l:List Nat) (w:World) (h:dM w b p l a n) (hk:k≤l.length) (he:ru l.length a k=e) (hm:m=0) :
 Calls prog 96 #[.pointer (some ⟨b,0,none⟩),.int .i64 k,.int .i64 m] w (X3 w p e 0 0):=by
 have HP:Sl (Calls prog 123 #[.pointer (some ⟨b,0,none⟩),.int .i64 k] w fun e' w'=>e'=.returned (.int .i64 e)∧jf w w'):=⟨by rw [← he];exact uf b p a n k l w h hk⟩;have H:=Sl.mk h;have h2:=h.vr;have h3:e<l.length:=by rw [← he];exact qK h.lt hk
 clear h he;go_enter func96,ntmps96;go_wp2_with fail
 refine HP.ah.mono ?_;rintro e1 w1 ⟨rfl,k1⟩;have h1:=H.ah.still k1;have c0:=h1.c0;have K1:=Sl.mk k1;clear h1 k1;generalize l.length=L at *;subst hm;have g1:¬ (L:Int)<(e:Int):=by omega
 go_wp2;go_quiet (fail)
 go_wp2;go_ret2;exact ⟨_,Gv (by omega) (by omega),fun h=>by omega,fun _=>rfl,K1.ah.drewN _⟩
theorem IG (b p a n k m e:Nat) (l:List Nat) (w:World) (h:dM w b p l a n) (hk:k≤l.length) (he:ru l.length a k=e) (hf:l.length<e+m) (hm:m≤l.length) :
 Calls prog 96 #[.pointer (some ⟨b,0,none⟩),.int .i64 k,.int .i64 m] w (X3 w p e (l.length-e) (e+m-l.length)):=by
 have HP:Sl (Calls prog 123 #[.pointer (some ⟨b,0,none⟩),.int .i64 k] w fun e' w'=>e'=.returned (.int .i64 e)∧jf w w'):=⟨by rw [← he];exact uf b p a n k l w h hk⟩;have H:=Sl.mk h;have h2:=h.vr;have h3:e<l.length:=by rw [← he];exact qK h.lt hk
 clear h he;go_enter func96,ntmps96;go_wp2_with fail
 refine HP.ah.mono ?_;rintro e1 w1 ⟨rfl,k1⟩;have h1:=H.ah.still k1;have c0:=h1.c0;have K1:=Sl.mk k1;clear h1 k1;generalize l.length=L at *;have g1:(L:Int)<(e:Int)+(m:Int):=by omega
 have g2:¬ (L=e):=by omega
 have g3:((e:Int)+(m:Int)-(L:Int))≤(L:Int):=by omega
 go_wp2;go_quiet (fail)
 go_wp2;go_ret2;exact ⟨_,Gv (by omega) (by omega),fun _=>rfl,fun h=>by omega,K1.ah.drewN _⟩
theorem oz (b p a n k m e x y:Nat) (l:List Nat) (w:World) (h:dM w b p l a n) (hk:k≤l.length) (hm:m≤l.length) (he:ru l.length a k=e) (hx:x=min m (l.length-e)) (hy:y=m-x) :
 Calls prog 96 #[.pointer (some ⟨b,0,none⟩),.int .i64 k,.int .i64 m] w (X3 w p e x y):=by
 have h3:e<l.length:=by rw [← he];exact qK h.lt hk
 by_cases h0:m=0
 ·obtain rfl:x=0:=by omega
  obtain rfl:y=0:=by omega
  exact IF b p a n k m e l w h hk he h0
 ·by_cases hf:e+m≤l.length
  ·obtain rfl:x=m:=by omega
   obtain rfl:y=0:=by omega
   exact Kw b p a n k x e l w h hk he (by omega) hf
  ·obtain rfl:x=l.length-e:=by omega
   obtain rfl:y=e+m-l.length:=by omega
   exact IG b p a n k m e l w h hk he (by omega) hm
def pd (p e x:Nat):Addr:=if x=0 then ⟨p,0,none⟩ else ⟨p,e,none⟩
theorem II (b p a n k m e x y:Nat) (l:List Nat) (w:World) (h:dM w b p l a n) (hk:k≤l.length) (hm:m≤l.length) (he:ru l.length a k=e) (hx:x=min m (l.length-e)) (hy:y=m-x) :
 Calls prog 96 #[.pointer (some ⟨b,0,none⟩),.int .i64 k,.int .i64 m] w fun en w'=>en=.returned (.tuple #[.slice (some (pd p e x)) x x,.slice (some ⟨p,0,none⟩) y y])∧∃ m,w'=w.drewN m :=
 (oz b p a n k m e x y l w h hk hm he hx hy).mono fun en w' ⟨d,h1,h2,h3,h4⟩=>⟨by
  rw [h1];have:d=pd p e x:=by
   unfold pd;by_cases h0:x=0
   ·rw [if_pos h0];exact h3 h0
   ·rw [if_neg h0];exact h2 (by omega)
  rw [this],h4⟩
open Go.RowKit
theorem dM.cell {n:Nat} (h:dM w b p l a n) (i:Nat) (hi:i<l.length):w.cell? ⟨p,i,none⟩=some (.int .u8 ((l.getD i 0:Nat):Int)):=by
 rw [jg _ _ _ _ _ _ h.hp,Ed];exact jl l i hi
theorem dM.VE {n:Nat} (h:dM w b p l a n):p<w.heap.size:=(zl h.hp)
theorem dM.Ky {n:Nat} (h:dM w b p l a n):b<w.heap.size:=(zl h.hb)
theorem dM.below {n:Nat} (h:dM w b p l a n) (k:Below w.heap.size w w'):dM w' b p l a n :=
 ⟨by rw [k.block _ h.Ky];exact h.hb,by rw [k.block _ h.VE];exact h.hp,h.ne,h.lt,h.le,h.vr,h.fO⟩
theorem zy (s1 s2:List Nat) (c x y:Nat) (h1:s1.length=x) (h2:s2.length=y) (h:x+y=c):splice (splice (zs c) 0 s1) x s2=s1++s2:=by
 apply pP
 ·rw [dB _ _ _ (by rw [dB _ _ _ (by simp;omega)];simp;omega),dB _ _ _ (by simp;omega)];simp;omega
 ·intro i hi
  rw [dB _ _ _ (by rw [dB _ _ _ (by simp;omega)];simp;omega),dB _ _ _ (by simp;omega),Em] at hi;rw [uV _ _ _ _ (by rw [dB _ _ _ (by simp;omega)];simp;omega),uV _ _ _ _ (by simp;omega)];by_cases hc:i<x
  ·rw [if_neg (by omega),if_pos (by omega),lK (by omega)];simp
  ·rw [if_pos (by omega),kR (by omega),h1]
theorem Cb (l:List Nat) (a c x y:Nat) (ha:a<l.length) (hc:c≤l.length) (hx:x=min c (l.length-a)) (hy:y=c-x):eU l a c=(l.drop a).take x++l.take y:=by
 by_cases h:a+c≤l.length
 ·obtain rfl:x=c:=by omega
  obtain rfl:y=0:=by omega
  rw [Tq l a x h];simp
 ·obtain rfl:x=l.length-a:=by omega
  have e1:(l.drop a).take (l.length-a)=l.drop a:=nC (by rw [iP];exact aY _);have e2:a+c-l.length=y:=by omega
  rw [Tt l a c ha hc (by omega),e1,e2]
theorem Tu (b p a n c x y:Nat) (z:Int) (l:List Nat) (w:World) (h:dM w b p l a n) (h1:¬ (n:Int)<z) (h2:0<z) (hz:z=c) (hx:x=min c (l.length-a)) (hy:y=c-x) :
 Calls prog 66 #[.pointer (some ⟨b,0,none⟩),.int .i64 z] w fun e w'=>e=.returned (.slice (some ⟨w.heap.size,0,none⟩) c c)∧Sl (w'.heap[w.heap.size]? = some (.cells (dZ (eU l a c)).toArray 5 (0,0)))∧Sl (Below w.heap.size w w'):=by
 have hn:=h.le;have ha:=h.lt;have ht:=h.vr;have HP:=Sl.mk (oz b p a n 0 c a x y l w h (by omega) (by omega) (by unfold ru;rw [if_pos (by omega)];omega) hx hy);have H:=Sl.mk h;have c2:=h.c2;have iu:Sl (x+y=c):=⟨by omega⟩;have h3:y≤65536:=by omega
 have h4:x≤65536:=by omega
 obtain ⟨s1,kp⟩:∃ s1,s1=(l.drop a).take x:=⟨_,rfl⟩;obtain ⟨s2,lR⟩:∃ s2,s2=l.take y:=⟨_,rfl⟩;have L1:Sl (s1.length=x):=⟨by rw [kp];simp;omega⟩;have L2:Sl (s2.length=y):=⟨by rw [lR];simp;omega⟩;have HH:Sl (eU l a c=s1++s2):=⟨by rw [kp,lR];exact Cb l a c x y ha (by omega) hx hy⟩;have G1:Sl (∀ j,j<x→s1.getD j 0=l.getD (a+j) 0):=⟨fun j hj=>by rw [kp];simp [iw,LW,hj]⟩;have G2:Sl (∀ j,j<y→s2.getD j 0=l.getD j 0):=⟨fun j hj=>by rw [lR];simp [iw,hj]⟩;have X1:Sl (x≤l.length-a∧y≤l.length):=⟨by omega⟩;clear h hx hy kp lR;subst hz;go_enter func66,ntmps66;go_wp2_with fail
 refine HP.ah.mono ?_;rintro e1 w1 ⟨d,rfl,hd,-,k1⟩;have pA:=oO ((x:Int)+(y:Int)) c (by have:=iu.ah;omega) (by have:=iu.ah;omega) w1;have HD:=Sl.mk hd;have K1:=Sl.mk k1;have gh:w1.heap.size=w.heap.size:=by rw [k1.heap]
 have bS:=Sl.mk gh;have R1:=Sl.mk (H.ah.still k1);clear hd k1 gh;go_wp2_with (with_reducible refine fU rfl (.tmp 26) (.tmp 27) 49 49 rfl 5 underlying49 size5 _ _ _ _ _ _ rfl rfl w1.heap.size 0 x (zs c) s1 5 (aI _ _ _ rfl) (by rw [L1.ah]) (by rw [L1.ah];have:=iu.ah;omega) (fun hp=>⟨rfl,p,a,by rw [HD.ah (by rw [← L1.ah];exact hp)],fun j hj=>by rw [L1.ah] at hj;rw [G1.ah j hj,(R1.ah.below ((dW _ _).alloc (aY _) _)).cell _ (by have:=X1.ah;omega)]⟩) (by rw [L1.ah];have:=iu.ah;simp;omega) ?_)
 intro w2 dE jz;have e2:=dE.ah;have K2:Sl (Below w.heap.size w w2):=⟨((jf.below K1.ah).alloc (by have:=bS.ah;omega) _).grown jz.ah (by rw [aP];have:=bS.ah;omega) (fun k hk=>by injection hk with hk;have:=bS.ah;omega)⟩;clear e2;have R2:=Sl.mk (H.ah.below K2.ah);clear pA;have Pw:x≤c:=by have:=iu.ah;omega
 have sI:∀ w3:World,Sl (w3.heap[w1.heap.size]? = some (.cells (dZ (splice (splice (zs c) 0 s1) x s2)).toArray 5 (0,0)))→Sl (w2.grownBy w3 (some w1.heap.size)) →
  (Ending.returned (.slice (some ⟨w1.heap.size,0,none⟩) c c)=.returned (.slice (some ⟨w.heap.size,0,none⟩) c c)∧Sl (w3.heap[w.heap.size]? = some (.cells (dZ (eU l a c)).toArray 5 (0,0)))∧Sl (Below w.heap.size w w3)):=by
  intro w3 hg hw;refine ⟨by rw [bS.ah],⟨?_⟩,⟨K2.ah.grown hw.ah (by have:=K2.ah.size;omega) (fun k hk=>by injection hk with hk;have:=bS.ah;omega)⟩⟩;rw [← bS.ah,hg.ah,zy s1 s2 c x y L1.ah L2.ah iu.ah,HH.ah]
 have FN:=Sl.mk sI;clear sI;by_cases Hj:y=0
 ·have q:Sl (c=x):=⟨by have:=iu.ah;omega⟩
  obtain rfl:=q.ah;subst Hj;go_wp2_with (with_reducible refine fU rfl (.tmp 32) (.tmp 33) 49 49 rfl 5 underlying49 size5 _ _ _ _ _ _ rfl rfl w1.heap.size c 0 _ s2 5 dE.ah (by rw [L2.ah]) (by rw [L2.ah];simp) (fun hp=>absurd hp (by rw [L2.ah];decide)) (by rw [L2.ah,dB _ _ _ (by simp [L1.ah])];simp) ?_)
  intro w3 dt fN;have F:=Sl.mk (FN.ah w3 dt fN);clear FN dE jz dt fN;go_wp2;go_ret;exact F.ah
 ·have q:¬ (c=x):=by have:=iu.ah;omega
  go_wp2_with (with_reducible refine fU rfl (.tmp 32) (.tmp 33) 49 49 rfl 5 underlying49 size5 _ _ _ _ _ _ rfl rfl w1.heap.size x y _ s2 5 dE.ah (by rw [L2.ah]) (by rw [L2.ah];have:=iu.ah;omega) (fun hp=>⟨rfl,p,0,rfl,fun j hj=>by rw [L2.ah] at hj;rw [G2.ah j hj,vT,R2.ah.cell _ (by have:=X1.ah;omega)]⟩) (by rw [L2.ah,dB _ _ _ (by simp [L1.ah];exact Pw)];simp;have:=iu.ah;omega) ?_)
  intro w3 dt fN;have F:=Sl.mk (FN.ah w3 dt fN);clear FN dE jz dt fN;go_wp2;go_ret;exact F.ah
theorem OV (b p a n c x y:Nat) (z:Int) (l:List Nat) (w:World) (h:dM w b p l a n) (h1:(n:Int)<z) (h2:0<(n:Int)) (hz:c=n) (hx:x=min c (l.length-a)) (hy:y=c-x) :
 Calls prog 66 #[.pointer (some ⟨b,0,none⟩),.int .i64 z] w fun e w'=>e=.returned (.slice (some ⟨w.heap.size,0,none⟩) c c)∧Sl (w'.heap[w.heap.size]? = some (.cells (dZ (eU l a c)).toArray 5 (0,0)))∧Sl (Below w.heap.size w w'):=by
 have hn:=h.le;have ha:=h.lt;have ht:=h.vr;have HP:=Sl.mk (oz b p a n 0 c a x y l w h (by omega) (by omega) (by unfold ru;rw [if_pos (by omega)];omega) hx hy);have H:=Sl.mk h;have c2:=h.c2;have iu:Sl (x+y=c):=⟨by omega⟩;have h3:y≤65536:=by omega
 have h4:x≤65536:=by omega
 obtain ⟨s1,kp⟩:∃ s1,s1=(l.drop a).take x:=⟨_,rfl⟩;obtain ⟨s2,lR⟩:∃ s2,s2=l.take y:=⟨_,rfl⟩;have L1:Sl (s1.length=x):=⟨by rw [kp];simp;omega⟩;have L2:Sl (s2.length=y):=⟨by rw [lR];simp;omega⟩;have HH:Sl (eU l a c=s1++s2):=⟨by rw [kp,lR];exact Cb l a c x y ha (by omega) hx hy⟩;have G1:Sl (∀ j,j<x→s1.getD j 0=l.getD (a+j) 0):=⟨fun j hj=>by rw [kp];simp [iw,LW,hj]⟩;have G2:Sl (∀ j,j<y→s2.getD j 0=l.getD j 0):=⟨fun j hj=>by rw [lR];simp [iw,hj]⟩;have X1:Sl (x≤l.length-a∧y≤l.length):=⟨by omega⟩;clear h hx hy kp lR;subst hz;go_enter func66,ntmps66;go_wp2_with fail
 refine HP.ah.mono ?_;rintro e1 w1 ⟨d,rfl,hd,-,k1⟩;have pA:=oO ((x:Int)+(y:Int)) c (by have:=iu.ah;omega) (by have:=iu.ah;omega) w1;have HD:=Sl.mk hd;have K1:=Sl.mk k1;have gh:w1.heap.size=w.heap.size:=by rw [k1.heap]
 have bS:=Sl.mk gh;have R1:=Sl.mk (H.ah.still k1);clear hd k1 gh;go_wp2_with (with_reducible refine fU rfl (.tmp 26) (.tmp 27) 49 49 rfl 5 underlying49 size5 _ _ _ _ _ _ rfl rfl w1.heap.size 0 x (zs c) s1 5 (aI _ _ _ rfl) (by rw [L1.ah]) (by rw [L1.ah];have:=iu.ah;omega) (fun hp=>⟨rfl,p,a,by rw [HD.ah (by rw [← L1.ah];exact hp)],fun j hj=>by rw [L1.ah] at hj;rw [G1.ah j hj,(R1.ah.below ((dW _ _).alloc (aY _) _)).cell _ (by have:=X1.ah;omega)]⟩) (by rw [L1.ah];have:=iu.ah;simp;omega) ?_)
 intro w2 dE jz;have e2:=dE.ah;have K2:Sl (Below w.heap.size w w2):=⟨((jf.below K1.ah).alloc (by have:=bS.ah;omega) _).grown jz.ah (by rw [aP];have:=bS.ah;omega) (fun k hk=>by injection hk with hk;have:=bS.ah;omega)⟩;clear e2;have R2:=Sl.mk (H.ah.below K2.ah);clear pA;have Pw:x≤c:=by have:=iu.ah;omega
 have sI:∀ w3:World,Sl (w3.heap[w1.heap.size]? = some (.cells (dZ (splice (splice (zs c) 0 s1) x s2)).toArray 5 (0,0)))→Sl (w2.grownBy w3 (some w1.heap.size)) →
  (Ending.returned (.slice (some ⟨w1.heap.size,0,none⟩) c c)=.returned (.slice (some ⟨w.heap.size,0,none⟩) c c)∧Sl (w3.heap[w.heap.size]? = some (.cells (dZ (eU l a c)).toArray 5 (0,0)))∧Sl (Below w.heap.size w w3)):=by
  intro w3 hg hw;refine ⟨by rw [bS.ah],⟨?_⟩,⟨K2.ah.grown hw.ah (by have:=K2.ah.size;omega) (fun k hk=>by injection hk with hk;have:=bS.ah;omega)⟩⟩;rw [← bS.ah,hg.ah,zy s1 s2 c x y L1.ah L2.ah iu.ah,HH.ah]
 have FN:=Sl.mk sI;clear sI;by_cases Hj:y=0
 ·have q:Sl (c=x):=⟨by have:=iu.ah;omega⟩
  obtain rfl:=q.ah;subst Hj;go_wp2_with (with_reducible refine fU rfl (.tmp 32) (.tmp 33) 49 49 rfl 5 underlying49 size5 _ _ _ _ _ _ rfl rfl w1.heap.size c 0 _ s2 5 dE.ah (by rw [L2.ah]) (by rw [L2.ah];simp) (fun hp=>absurd hp (by rw [L2.ah];decide)) (by rw [L2.ah,dB _ _ _ (by simp [L1.ah])];simp) ?_)
  intro w3 dt fN;have F:=Sl.mk (FN.ah w3 dt fN);clear FN dE jz dt fN;go_wp2;go_ret;exact F.ah
 ·have q:¬ (c=x):=by have:=iu.ah;omega
  go_wp2_with (with_reducible refine fU rfl (.tmp 32) (.tmp 33) 49 49 rfl 5 underlying49 size5 _ _ _ _ _ _ rfl rfl w1.heap.size x y _ s2 5 dE.ah (by rw [L2.ah]) (by rw [L2.ah];have:=iu.ah;omega) (fun hp=>⟨rfl,p,0,rfl,fun j hj=>by rw [L2.ah] at hj;rw [G2.ah j hj,vT,R2.ah.cell _ (by have:=X1.ah;omega)]⟩) (by rw [L2.ah,dB _ _ _ (by simp [L1.ah];exact Pw)];simp;have:=iu.ah;omega) ?_)
  intro w3 dt fN;have F:=Sl.mk (FN.ah w3 dt fN);clear FN dE jz dt fN;go_wp2;go_ret;exact F.ah
theorem Tv (b p a n:Nat) (z:Int) (l:List Nat) (w:World) (h:dM w b p l a n) (h1:¬ (n:Int)<z) (h2:¬ 0<z) :
 Calls prog 66 #[.pointer (some ⟨b,0,none⟩),.int .i64 z] w fun e w'=>e=.returned (.slice (some ⟨w.heap.size,0,none⟩) 0 0)∧Sl (w'.heap[w.heap.size]? = some (.cells (dZ (eU l a 0)).toArray 5 (0,0)))∧Sl (Below w.heap.size w w'):=by
 have ha:=h.lt;have HP:Sl (Calls prog 96 #[.pointer (some ⟨b,0,none⟩),.int .i64 0,.int .i64 0] w (X3 w p a 0 0)):=⟨oz b p a n 0 0 a 0 0 l w h (by omega) (by omega) (by unfold ru;rw [if_pos (by omega)];omega) (by omega) (by omega)⟩;have c2:=h.c2;clear h;go_enter func66,ntmps66;go_wp2_with fail
 refine HP.ah.mono ?_;rintro e1 w1 ⟨d,rfl,hd,-,k1⟩;have pA:=oO 0 0 rfl (by omega) w1;have K1:=Sl.mk k1;have bS:Sl (w1.heap.size=w.heap.size):=⟨by rw [k1.heap]⟩;clear hd k1;go_wp2_with (with_reducible refine fU rfl (.tmp 26) (.tmp 27) 49 49 rfl 5 underlying49 size5 _ _ _ _ _ _ rfl rfl w1.heap.size 0 0 (zs 0) [] 5 (aI _ _ _ rfl) rfl rfl (fun hp=>absurd hp (by decide)) (by decide) ?_)
 intro w2 dE jz;have K2:Sl (Below w.heap.size w w2):=⟨((jf.below K1.ah).alloc (by have:=bS.ah;omega) _).grown jz.ah (by rw [aP];have:=bS.ah;omega) (fun k hk=>by injection hk with hk;have:=bS.ah;omega)⟩;have FN:Sl (∀ w3:World,Sl (w3.heap[w1.heap.size]? = some (.cells (dZ (splice (splice (zs 0) 0 []) 0 [])).toArray 5 (0,0)))→Sl (w2.grownBy w3 (some w1.heap.size)) →
  (Ending.returned (.slice (some ⟨w1.heap.size,0,none⟩) 0 0)=.returned (.slice (some ⟨w.heap.size,0,none⟩) 0 0)∧Sl (w3.heap[w.heap.size]? = some (.cells (dZ (eU l a 0)).toArray 5 (0,0)))∧Sl (Below w.heap.size w w3))):=⟨by
  intro w3 hg hw;refine ⟨by rw [bS.ah],⟨?_⟩,⟨K2.ah.grown hw.ah (by have:=K2.ah.size;omega) (fun k hk=>by injection hk with hk;have:=bS.ah;omega)⟩⟩;rw [← bS.ah,hg.ah];rfl⟩
 clear pA;go_wp2_with (with_reducible refine fU rfl (.tmp 32) (.tmp 33) 49 49 rfl 5 underlying49 size5 _ _ _ _ _ _ rfl rfl w1.heap.size 0 0 _ [] 5 dE.ah rfl rfl (fun hp=>absurd hp (by decide)) (by decide) ?_)
 intro w3 dt fN;have F:=Sl.mk (FN.ah w3 dt fN);clear FN dE jz dt fN;go_wp2;go_ret;exact F.ah
theorem OW (b p a n:Nat) (z:Int) (l:List Nat) (w:World) (h:dM w b p l a n) (h1:(n:Int)<z) (As:n=0) :
 Calls prog 66 #[.pointer (some ⟨b,0,none⟩),.int .i64 z] w fun e w'=>e=.returned (.slice (some ⟨w.heap.size,0,none⟩) 0 0)∧Sl (w'.heap[w.heap.size]? = some (.cells (dZ (eU l a 0)).toArray 5 (0,0)))∧Sl (Below w.heap.size w w'):=by
 have ha:=h.lt;have HP:Sl (Calls prog 96 #[.pointer (some ⟨b,0,none⟩),.int .i64 0,.int .i64 0] w (X3 w p a 0 0)):=⟨oz b p a n 0 0 a 0 0 l w h (by omega) (by omega) (by unfold ru;rw [if_pos (by omega)];omega) (by omega) (by omega)⟩;have c2:=h.c2;rw [As] at c2 h1;clear As;clear h;go_enter func66,ntmps66;go_wp2_with fail
 refine HP.ah.mono ?_;rintro e1 w1 ⟨d,rfl,hd,-,k1⟩;have pA:=oO 0 0 rfl (by omega) w1;have K1:=Sl.mk k1;have bS:Sl (w1.heap.size=w.heap.size):=⟨by rw [k1.heap]⟩;clear hd k1;go_wp2_with (with_reducible refine fU rfl (.tmp 26) (.tmp 27) 49 49 rfl 5 underlying49 size5 _ _ _ _ _ _ rfl rfl w1.heap.size 0 0 (zs 0) [] 5 (aI _ _ _ rfl) rfl rfl (fun hp=>absurd hp (by decide)) (by decide) ?_)
 intro w2 dE jz;have K2:Sl (Below w.heap.size w w2):=⟨((jf.below K1.ah).alloc (by have:=bS.ah;omega) _).grown jz.ah (by rw [aP];have:=bS.ah;omega) (fun k hk=>by injection hk with hk;have:=bS.ah;omega)⟩;have FN:Sl (∀ w3:World,Sl (w3.heap[w1.heap.size]? = some (.cells (dZ (splice (splice (zs 0) 0 []) 0 [])).toArray 5 (0,0)))→Sl (w2.grownBy w3 (some w1.heap.size)) →
  (Ending.returned (.slice (some ⟨w1.heap.size,0,none⟩) 0 0)=.returned (.slice (some ⟨w.heap.size,0,none⟩) 0 0)∧Sl (w3.heap[w.heap.size]? = some (.cells (dZ (eU l a 0)).toArray 5 (0,0)))∧Sl (Below w.heap.size w w3))):=⟨by
  intro w3 hg hw;refine ⟨by rw [bS.ah],⟨?_⟩,⟨K2.ah.grown hw.ah (by have:=K2.ah.size;omega) (fun k hk=>by injection hk with hk;have:=bS.ah;omega)⟩⟩;rw [← bS.ah,hg.ah];rfl⟩
 clear pA;go_wp2_with (with_reducible refine fU rfl (.tmp 32) (.tmp 33) 49 49 rfl 5 underlying49 size5 _ _ _ _ _ _ rfl rfl w1.heap.size 0 0 _ [] 5 dE.ah rfl rfl (fun hp=>absurd hp (by decide)) (by decide) ?_)
 intro w3 dt fN;have F:=Sl.mk (FN.ah w3 dt fN);clear FN dE jz dt fN;go_wp2;go_ret;exact F.ah
def dA (n:Nat) (z:Int):Nat:=min n z.toNat
theorem Gw (n:Nat) (z:Int):dA n z≤n:=Nat.min_le_left _ _
theorem wZ (b p a n:Nat) (z:Int) (l:List Nat) (w:World) (h:dM w b p l a n) :
 Calls prog 66 #[.pointer (some ⟨b,0,none⟩),.int .i64 z] w fun e w'=>e=.returned (.slice (some ⟨w.heap.size,0,none⟩) (dA n z) (dA n z))∧Sl (w'.heap[w.heap.size]? = some (.cells (dZ (eU l a (dA n z))).toArray 5 (0,0)))∧Sl (Below w.heap.size w w'):=by
 by_cases h1:(n:Int)<z
 ·have e:dA n z=n:=by unfold dA;omega
  rw [e];by_cases h0:n=0
  ·rw [h0]
   exact OW b p a n z l w h h1 h0
  ·exact OV b p a n n _ _ z l w h h1 (by omega) rfl rfl rfl
 ·by_cases h2:0<z
  ·exact Tu b p a n _ _ _ z l w h h1 h2 (by unfold dA;omega) rfl rfl
  ·rw [show dA n z=0 from by unfold dA;omega]
   exact Tv b p a n z l w h h1 h2
end
open Go.RowKit
section
variable {w' w:World} {b p L:Nat} {hs:List Nat}
theorem Kz (bs:List Nat) (m x y:Nat) (h:x+y=m):bs.take x++(bs.drop x).take y=bs.take m:=by
 rw [← h,List.take_add]
theorem IJ {w1:World} {a n m e x y:Nat} {l bs:List Nat} (h:dM w1 b p l a n) (hm:x+y=m) (hn:n+m≤l.length) (he:ru l.length a n=e) (hx:x=min m (l.length-e)) (hb:m≤bs.length) (sm:aU 256 bs)
 (hr:w'.heap[b]? = some (.cells #[.slice (some ⟨p,0,none⟩) l.length l.length,.int .i64 a,.int .i64 ((n:Int)+((x:Int)+(y:Int)))] 126 (0,0))) (hp:w'.heap[p]? = some (.cells (dZ (splice (splice l e (bs.take x)) 0 ((bs.drop x).take y))).toArray 5 (0,0))) :
 ∃ l',dM w' b p l' a (n+m)∧l'.length=l.length∧eU l' a (n+m)=eU l a n++bs.take m:=by
 have ha:=h.lt;have LT:e<l.length:=by rw [← he];exact qK h.lt h.le
 have l1:(bs.take x).length=x:=by simp;omega
 have l2:((bs.drop x).take y).length=y:=by simp;omega
 have s1:(splice l e (bs.take x)).length=l.length:=dB _ _ _ (by rw [l1];omega);have s2:(splice (splice l e (bs.take x)) 0 ((bs.drop x).take y)).length=l.length:=by rw [dB _ _ _ (by rw [l2,s1];omega),s1]
 refine ⟨splice (splice l e (bs.take x)) 0 ((bs.drop x).take y),⟨?_,hp,h.ne,by rw [s2];exact ha,by rw [s2];exact hn,by rw [s2];exact h.vr,?_⟩,s2,?_⟩
 ·rw [hr,s2]
  have:((n:Int)+((x:Int)+(y:Int)))=((n+m:Nat):Int):=by omega
  rw [this]
 ·have q:=h.fO
  exact ((((q.take _).append (sm.take _)).append (q.drop _)).take _ |>.append ((sm.drop _).take _)).append (aU.drop (((q.take _).append (sm.take _)).append (q.drop _)) _)
 ·rw [← Kz bs m x y hm]
  have bt:n+m=n+(bs.take x++(bs.drop x).take y).length:=by rw [jB,l1,l2,hm]
  rw [bt];by_cases km:e+m≤l.length
  ·obtain rfl:x=m:=by omega
   obtain rfl:y=0:=by omega
   have e0:(bs.drop x).take 0=[]:=rfl;rw [e0,yC];have e1:splice (splice l e (bs.take x)) 0 []=splice l e (bs.take x):=by simp [splice]
   rw [e1];exact Gu l (bs.take x) a n ha (by rw [l1];omega) e he.symm (by rw [l1];omega)
  ·have hxe:e+x=l.length:=by omega
   refine VB l (bs.take x) ((bs.drop x).take y) a n ha (by rw [l1,l2];omega) e he.symm (by rw [l1];exact hxe) (fun _=>Or.inl ?_);rw [l1];unfold ru at he ⊢;split at he<;>split<;>omega
theorem VF (b p a n m e x y r LB:Nat) (l bs:List Nat) (v:Value) (w:World) (h:dM w b p l a n) (hv:kS w p v bs) (sm:aU 256 bs) (hL:LB≤100000) (PA:bs.length=LB) (hr:r=l.length-n) (hm:m=LB) (bz:¬ (r:Int)<(LB:Int)) (he:ru l.length a n=e) (hx:x=min m (l.length-e)) (hy:y=m-x) :
 Calls prog 118 #[.pointer (some ⟨b,0,none⟩),v] w fun en w'=>en=.returned (.int .i64 m)∧Sl (∃ l',dM w' b p l' a (n+m)∧l'.length=l.length∧eU l' a (n+m)=eU l a n++bs.take m)∧Sl (mO w w' b p):=by
 subst hm;have hn:=h.le;have ha:=h.lt;have ht:=h.vr;have LT:e<l.length:=by rw [← he];exact qK h.lt h.le
 have HP:=Sl.mk (fun k=>II b p a n n m e x y l (w.drewN k) (h.still ⟨k,rfl⟩) hn (by omega) he hx hy);have HR:Sl (∀ k,Calls prog 145 #[.pointer (some ⟨b,0,none⟩)] (w.drewN k) fun e w'=>e=.returned (.int .i64 r)∧∃ m,w'=(w.drewN k).drewN m):=⟨fun k=>by rw [hr];exact IE b p a n l _ (h.still ⟨k,rfl⟩)⟩;have H:=Sl.mk h;have c2:=h.c2;have f2:w.frozen? ⟨b,2,none⟩=false:=kT _ _ _ _ _ h.hb;obtain ⟨ad,cap,sb,so,rfl,db,mx,py,bL⟩:=hv;rw [PA] at db mx py bL ⊢;have Zl:=Sl.mk mx;have uv:=Sl.mk py;have HC:=Sl.mk bL;have nu:=Sl.mk PA;have HE:=Sl.mk he;have HX:=Sl.mk hx;have iu:Sl (x+y=m):=⟨by omega⟩;have HM:Sl (n+m≤l.length∧m≤m):=⟨by omega⟩;have hxL:x≤m:=by omega
 have hyL:y≤m-x:=by omega
 have hn6:n≤65536:=by omega
 have L1:Sl ((bs.take x).length=x):=⟨by rw [kQ];omega⟩;have L2:Sl (((bs.drop x).take y).length=y):=⟨by rw [kQ,iP];omega⟩;have P1:Sl (e+x≤l.length∧y≤l.length):=⟨by omega⟩;have NE:=Sl.mk h.ne;have mN:=Sl.mk sm;clear h hr PA he hx hy mx py bL sm;go_enter func118,ntmps118;go_wp2;go_quiet (first | (go_at_call 145;exact Calls.quiet_of (HR.ah _)) | (go_at_call 96;exact Calls.quiet_of (HP.ah _)))
 have H1:Sl ((w.drewN nq).heap[p]? = some (.cells (dZ l).toArray 5 (0,0))):=⟨H.ah.hp⟩;have Hi:Sl (∀ j,j<m→(w.drewN nq).cell? ⟨sb,so+j,none⟩=some (.int .u8 ((bs.getD j 0:Nat):Int))):=⟨HC.ah⟩;go_wp2_with (with_reducible refine fU rfl (.tmp 22) (.tmp 23) 49 49 rfl 5 underlying49 size5 _ _ _ _ _ _ rfl rfl p e x l (bs.take x) 5 H1.ah (by rw [L1.ah]) (by rw [L1.ah];omega) (fun hp=>⟨by unfold pd;rw [if_neg (by rw [L1.ah] at hp;omega)],sb,so,Zl.ah (by rw [L1.ah] at hp;omega),fun j hj=>by rw [L1.ah] at hj;rw [show (bs.take x).getD j 0=bs.getD j 0 from by simp [iw,hj]];exact Hi.ah j (by omega)⟩) (by rw [L1.ah];exact P1.ah.1) ?_)
 intro w2 dE jz;have LS:Sl ((splice l e (bs.take x)).length=l.length):=⟨dB _ _ _ (by rw [L1.ah];exact P1.ah.1)⟩;have B2:Sl (w2.heap[b]? = w.heap[b]?):=⟨jz.ah.block b H.ah.Ky (fun e=>NE.ah (by injection e))⟩;have lx:Sl (∀ j,j<m→w2.cell? ⟨sb,so+j,none⟩=some (.int .u8 ((bs.getD j 0:Nat):Int))):=⟨fun j hj=>by
  rw [DV (w:=w) (jz.ah.block sb (zk (HC.ah j hj)) (fun e=>uv.ah (by omega) (by injection e)))];exact HC.ah j hj⟩
 have sI:Sl (∀ w3:World,Sl (w3.heap[p]? = some (.cells (dZ (splice (splice l e (bs.take x)) 0 ((bs.drop x).take y))).toArray 5 (0,0)))→Sl (w2.grownBy w3 (some p)) →
  w3.cell? ⟨b,2,none⟩=some (.int .i64 n)∧w3.frozen? ⟨b,2,none⟩=false∧Sl (Ending.returned (.int .i64 ((x:Int)+(y:Int)))=.returned (.int .i64 m)∧Sl (∃ l',dM (w3.setCell ⟨b,2,none⟩ (.int .i64 ((n:Int)+((x:Int)+(y:Int))))) b p l' a (n+m)∧l'.length=l.length∧eU l' a (n+m)=eU l a n++bs.take m)∧Sl (mO w (w3.setCell ⟨b,2,none⟩ (.int .i64 ((n:Int)+((x:Int)+(y:Int))))) b p))):=⟨by
  intro w3 hg hw;have e3:w3.heap[b]? = w.heap[b]?:=by rw [hw.ah.block b (NQ H.ah.Ky jz.ah.size) (fun e=>NE.ah (by injection e)),B2.ah]
  have h3:=e3.trans H.ah.hb;refine ⟨by rw [jg _ _ _ _ _ _ h3];rfl,kT _ _ _ _ _ h3,⟨oN (by have:=iu.ah;omega),⟨?_⟩,⟨?_⟩⟩⟩
  ·refine IJ H.ah iu.ah HM.ah.1 HE.ah HX.ah (by rw [nu.ah];exact HM.ah.2) mN.ah ?_ ?_
   ·rw [lF _ _ _ _ _ _ h3];rfl
   ·rw [pI _ _ _ _ (by exact (Ne.symm NE.ah))];exact hg.ah
  ·exact ((mO.wI (b:=b) (p:=p) (jf.below ⟨nq,rfl⟩)).trans ((mO.right jz.ah).trans (mO.right hw.ah))).trans (mO.left (aH _ _ _ _))⟩
 clear c2 f2;by_cases kx:cap=x
 ·obtain rfl:y=0:=by omega
  go_wp2_with (with_reducible refine fU rfl (.tmp 26) (.tmp 29) 49 49 rfl 5 underlying49 size5 _ _ _ _ _ _ rfl rfl p 0 0 _ ((bs.drop x).take 0) 5 dE.ah (by rw [L2.ah]) (by rw [L2.ah];simp) (fun hp=>absurd hp (by rw [L2.ah];decide)) (by rw [L2.ah,LS.ah];have:=P1.ah;omega) ?_)
  intro w3 dt fN;obtain ⟨c3,f3,F⟩:=sI.ah w3 dt fN;clear sI dE jz dt fN;go_wp2;go_ret;exact F.ah
 ·go_wp2_with (with_reducible refine fU rfl (.tmp 26) (.tmp 29) 49 49 rfl 5 underlying49 size5 _ _ _ _ _ _ rfl rfl p 0 y _ ((bs.drop x).take y) 5 dE.ah (by rw [L2.ah]) (by rw [L2.ah];omega) (fun hp=>⟨rfl,sb,so+x,by rw [L2.ah] at hp;rw [Zl.ah (by omega)];simp [Addr.add],fun j hj=>by rw [L2.ah] at hj;rw [show ((bs.drop x).take y).getD j 0=bs.getD (x+j) 0 from by simp [iw,LW,hj],UO];exact lx.ah (x+j) (by omega)⟩) (by rw [L2.ah,LS.ah];have:=P1.ah;omega) ?_)
  intro w3 dt fN;obtain ⟨c3,f3,F⟩:=sI.ah w3 dt fN;clear sI dE jz dt fN;go_wp2;go_ret;exact F.ah
theorem vY (b p a n m e x y r LB:Nat) (l bs:List Nat) (v:Value) (w:World) (h:dM w b p l a n) (hv:kS w p v bs) (sm:aU 256 bs) (hL:LB≤100000) (PA:bs.length=LB) (hr:r=l.length-n) (hm:m=r) (bz:(r:Int)<(LB:Int)) (he:ru l.length a n=e) (hx:x=min m (l.length-e)) (hy:y=m-x) :
 Calls prog 118 #[.pointer (some ⟨b,0,none⟩),v] w fun en w'=>en=.returned (.int .i64 m)∧Sl (∃ l',dM w' b p l' a (n+m)∧l'.length=l.length∧eU l' a (n+m)=eU l a n++bs.take m)∧Sl (mO w w' b p):=by
 subst hm;have hn:=h.le;have ha:=h.lt;have ht:=h.vr;have LT:e<l.length:=by rw [← he];exact qK h.lt h.le
 have HP:=Sl.mk (fun k=>II b p a n n m e x y l (w.drewN k) (h.still ⟨k,rfl⟩) hn (by omega) he hx hy);have HR:Sl (∀ k,Calls prog 145 #[.pointer (some ⟨b,0,none⟩)] (w.drewN k) fun e w'=>e=.returned (.int .i64 m)∧∃ m,w'=(w.drewN k).drewN m):=⟨fun k=>by rw [hr];exact IE b p a n l _ (h.still ⟨k,rfl⟩)⟩;have H:=Sl.mk h;have c2:=h.c2;have f2:w.frozen? ⟨b,2,none⟩=false:=kT _ _ _ _ _ h.hb;obtain ⟨ad,cap,sb,so,rfl,db,mx,py,bL⟩:=hv;rw [PA] at db mx py bL ⊢;have Zl:=Sl.mk mx;have uv:=Sl.mk py;have HC:=Sl.mk bL;have nu:=Sl.mk PA;have HE:=Sl.mk he;have HX:=Sl.mk hx;have iu:Sl (x+y=m):=⟨by omega⟩;have HM:Sl (n+m≤l.length∧m≤LB):=⟨by omega⟩;have hxL:x≤LB:=by omega
 have hyL:y≤LB-x:=by omega
 have hn6:n≤65536:=by omega
 have L1:Sl ((bs.take x).length=x):=⟨by rw [kQ];omega⟩;have L2:Sl (((bs.drop x).take y).length=y):=⟨by rw [kQ,iP];omega⟩;have P1:Sl (e+x≤l.length∧y≤l.length):=⟨by omega⟩;have NE:=Sl.mk h.ne;have mN:=Sl.mk sm;clear h hr PA he hx hy mx py bL sm;go_enter func118,ntmps118;go_wp2;go_quiet (first | (go_at_call 145;exact Calls.quiet_of (HR.ah _)) | (go_at_call 96;exact Calls.quiet_of (HP.ah _)))
 have H1:Sl ((w.drewN nq).heap[p]? = some (.cells (dZ l).toArray 5 (0,0))):=⟨H.ah.hp⟩;have Hi:Sl (∀ j,j<LB→(w.drewN nq).cell? ⟨sb,so+j,none⟩=some (.int .u8 ((bs.getD j 0:Nat):Int))):=⟨HC.ah⟩;go_wp2_with (with_reducible refine fU rfl (.tmp 22) (.tmp 23) 49 49 rfl 5 underlying49 size5 _ _ _ _ _ _ rfl rfl p e x l (bs.take x) 5 H1.ah (by rw [L1.ah]) (by rw [L1.ah];omega) (fun hp=>⟨by unfold pd;rw [if_neg (by rw [L1.ah] at hp;omega)],sb,so,Zl.ah (by rw [L1.ah] at hp;omega),fun j hj=>by rw [L1.ah] at hj;rw [show (bs.take x).getD j 0=bs.getD j 0 from by simp [iw,hj]];exact Hi.ah j (by omega)⟩) (by rw [L1.ah];exact P1.ah.1) ?_)
 intro w2 dE jz;have LS:Sl ((splice l e (bs.take x)).length=l.length):=⟨dB _ _ _ (by rw [L1.ah];exact P1.ah.1)⟩;have B2:Sl (w2.heap[b]? = w.heap[b]?):=⟨jz.ah.block b H.ah.Ky (fun e=>NE.ah (by injection e))⟩;have lx:Sl (∀ j,j<LB→w2.cell? ⟨sb,so+j,none⟩=some (.int .u8 ((bs.getD j 0:Nat):Int))):=⟨fun j hj=>by
  rw [DV (w:=w) (jz.ah.block sb (zk (HC.ah j hj)) (fun e=>uv.ah (by omega) (by injection e)))];exact HC.ah j hj⟩
 have sI:Sl (∀ w3:World,Sl (w3.heap[p]? = some (.cells (dZ (splice (splice l e (bs.take x)) 0 ((bs.drop x).take y))).toArray 5 (0,0)))→Sl (w2.grownBy w3 (some p)) →
  w3.cell? ⟨b,2,none⟩=some (.int .i64 n)∧w3.frozen? ⟨b,2,none⟩=false∧Sl (Ending.returned (.int .i64 ((x:Int)+(y:Int)))=.returned (.int .i64 m)∧Sl (∃ l',dM (w3.setCell ⟨b,2,none⟩ (.int .i64 ((n:Int)+((x:Int)+(y:Int))))) b p l' a (n+m)∧l'.length=l.length∧eU l' a (n+m)=eU l a n++bs.take m)∧Sl (mO w (w3.setCell ⟨b,2,none⟩ (.int .i64 ((n:Int)+((x:Int)+(y:Int))))) b p))):=⟨by
  intro w3 hg hw;have e3:w3.heap[b]? = w.heap[b]?:=by rw [hw.ah.block b (NQ H.ah.Ky jz.ah.size) (fun e=>NE.ah (by injection e)),B2.ah]
  have h3:=e3.trans H.ah.hb;refine ⟨by rw [jg _ _ _ _ _ _ h3];rfl,kT _ _ _ _ _ h3,⟨oN (by have:=iu.ah;omega),⟨?_⟩,⟨?_⟩⟩⟩
  ·refine IJ H.ah iu.ah HM.ah.1 HE.ah HX.ah (by rw [nu.ah];exact HM.ah.2) mN.ah ?_ ?_
   ·rw [lF _ _ _ _ _ _ h3];rfl
   ·rw [pI _ _ _ _ (by exact (Ne.symm NE.ah))];exact hg.ah
  ·exact ((mO.wI (b:=b) (p:=p) (jf.below ⟨nq,rfl⟩)).trans ((mO.right jz.ah).trans (mO.right hw.ah))).trans (mO.left (aH _ _ _ _))⟩
 clear c2 f2;by_cases kx:cap=x
 ·obtain rfl:y=0:=by omega
  go_wp2_with (with_reducible refine fU rfl (.tmp 26) (.tmp 29) 49 49 rfl 5 underlying49 size5 _ _ _ _ _ _ rfl rfl p 0 0 _ ((bs.drop x).take 0) 5 dE.ah (by rw [L2.ah]) (by rw [L2.ah];simp) (fun hp=>absurd hp (by rw [L2.ah];decide)) (by rw [L2.ah,LS.ah];have:=P1.ah;omega) ?_)
  intro w3 dt fN;obtain ⟨c3,f3,F⟩:=sI.ah w3 dt fN;clear sI dE jz dt fN;go_wp2;go_ret;exact F.ah
 ·go_wp2_with (with_reducible refine fU rfl (.tmp 26) (.tmp 29) 49 49 rfl 5 underlying49 size5 _ _ _ _ _ _ rfl rfl p 0 y _ ((bs.drop x).take y) 5 dE.ah (by rw [L2.ah]) (by rw [L2.ah];omega) (fun hp=>⟨rfl,sb,so+x,by rw [L2.ah] at hp;rw [Zl.ah (by omega)];simp [Addr.add],fun j hj=>by rw [L2.ah] at hj;rw [show ((bs.drop x).take y).getD j 0=bs.getD (x+j) 0 from by simp [iw,LW,hj],UO];exact lx.ah (x+j) (by omega)⟩) (by rw [L2.ah,LS.ah];have:=P1.ah;omega) ?_)
  intro w3 dt fN;obtain ⟨c3,f3,F⟩:=sI.ah w3 dt fN;clear sI dE jz dt fN;go_wp2;go_ret;exact F.ah
open Go.RowKit
theorem vC (b p a n g:Nat) (z:Int) (l:List Nat) (w:World) (h:dM w b p l a n) (hg:dA n z=g) :
 Calls prog 93 #[.pointer (some ⟨b,0,none⟩),.int .i64 z] w fun e w'=>e=.returned (.slice (some ⟨w.heap.size,0,none⟩) g g)∧Sl (w'.heap[w.heap.size]? = some (.cells (dZ (eU l a g)).toArray 5 (0,0)))∧Sl (dM w' b p l (ru l.length a g) (n-g))∧Sl (mO w w' b p):=by
 have HP:=Sl.mk (wZ b p a n z l w h);rw [hg] at HP;have H:=Sl.mk h;have HG:=Sl.mk hg;have hgn:g≤n:=by rw [← hg];exact Gw n z
 have hn:=h.le;have ha:=h.lt;have ht:=h.vr;have hq:ru l.length a g<l.length:=qK ha (by omega);have hn6:n≤65536:=by omega
 clear h hg;go_enter func93,ntmps93;go_wp2_with fail
 refine HP.ah.mono ?_;rintro e1 w1 ⟨rfl,sx,bi⟩;have R1:=Sl.mk (H.ah.below bi.ah);have hb:=R1.ah.hb;have f1:w1.frozen? ⟨b,1,none⟩=false:=kT _ _ _ _ _ hb;have c1:=R1.ah.c1;obtain ⟨q,hq'⟩:=zX (ru l.length a g);have PL:Sl (Calls prog 123 #[.pointer (some ⟨b,0,none⟩),.int .i64 g] w1 fun e w'=>e=.returned (.int .i64 q)∧jf w1 w'):=⟨by rw [← hq'];exact uf b p a n g l w1 R1.ah (by omega)⟩;have HQ:=Sl.mk hq';rw [hq'] at hq;clear hq' hb f1 c1;go_wp2_with fail
 refine PL.ah.mono ?_;rintro e2 w2 ⟨rfl,k2⟩;have R2:=Sl.mk (R1.ah.still k2);have K2:=Sl.mk k2;have c1:=R2.ah.c1;have c2:=R2.ah.c2;have f1:w2.frozen? ⟨b,1,none⟩=false:=kT _ _ _ _ _ R2.ah.hb;have f2:w2.frozen? ⟨b,2,none⟩=false:=kT _ _ _ _ _ R2.ah.hb;have sI:Sl (Sl ((((w2.setCell ⟨b,1,none⟩ (.int .i64 q)).setCell ⟨b,2,none⟩ (.int .i64 ((n:Int)-(g:Int)))).heap[w.heap.size]? = some (.cells (dZ (eU l a g)).toArray 5 (0,0))))∧Sl (dM ((w2.setCell ⟨b,1,none⟩ (.int .i64 q)).setCell ⟨b,2,none⟩ (.int .i64 ((n:Int)-(g:Int)))) b p l (ru l.length a g) (n-g))∧Sl (mO w ((w2.setCell ⟨b,1,none⟩ (.int .i64 q)).setCell ⟨b,2,none⟩ (.int .i64 ((n:Int)-(g:Int)))) b p)):=⟨by
  have hbn:b≠w.heap.size:=by have:=H.ah.Ky;omega
  refine ⟨⟨?_⟩,⟨⟨?_,?_,R2.ah.ne,?_,?_,R2.ah.vr,R2.ah.fO⟩⟩,⟨?_⟩⟩
  ·rw [pI _ _ _ _ (by exact Ne.symm hbn),pI _ _ _ _ (by exact Ne.symm hbn),K2.ah.heap];exact sx.ah
  ·rw [lF _ _ _ _ _ _ (lF _ _ _ _ _ _ R2.ah.hb),HQ.ah]
   have:((n:Int)-(g:Int))=((n-g:Nat):Int):=by omega
   rw [this];rfl
  ·rw [pI _ _ _ _ (by exact Ne.symm R2.ah.ne),pI _ _ _ _ (by exact Ne.symm R2.ah.ne)];exact R2.ah.hp
  ·rw [HQ.ah];exact hq
  ·omega
  ·exact (((mO.wI bi.ah).trans (mO.wI K2.ah.below)).trans (mO.left (aH _ _ _ _))).trans (mO.left (aH _ _ _ _))⟩
 clear k2 hn ha ht;go_wp2;go_ret;exact ⟨rfl,sI.ah⟩
theorem AB (L:Nat) (w:World) (h1:1≤L) (h2:L≤65536) :
 Calls prog 40 #[.int .i64 L] w fun e w'=>e=.returned (.tuple #[.pointer (some ⟨w.heap.size+1,0,none⟩),.int .i64 0])∧Sl (dM w' (w.heap.size+1) w.heap.size (zs L) 0 0)∧Sl (Below w.heap.size w w')∧Sl (w.heap.size+1<w'.heap.size):=by
 have pA:=oO L L rfl (by omega) w;have g1:¬ (L:Int)<1:=by omega
 have g2:¬ (65536:Int)<(L:Int):=by omega
 go_enter func40,ntmps40;go_wp2;go_ret2;refine ⟨rfl,⟨⟨?_,?_,by omega,by simp;omega,by omega,by simp;exact h2,Rq L⟩⟩,⟨((dW _ _).alloc (aY _) _).alloc (by simp) _⟩,⟨by simp⟩⟩
 ·rw [aI _ _ _ (by simp)];simp
 ·rw [gJ _ _ _ (by simp),aI _ _ _ rfl]
open Go.RowKit
def kH (w:World) (b p L:Nat) (hs:List Nat):Prop:=∃ l a,dM w b p l a hs.length∧l.length=L∧eU l a hs.length=hs
theorem kH.Ky (h:kH w b p L hs):b<w.heap.size:=by
 obtain ⟨l,a,h,_⟩:=h;exact h.Ky
theorem kH.VE (h:kH w b p L hs):p<w.heap.size:=by
 obtain ⟨l,a,h,_⟩:=h;exact h.VE
theorem kH.below (h:kH w b p L hs) (k:Below w.heap.size w w'):kH w' b p L hs:=by
 obtain ⟨l,a,h,h2,h3⟩:=h;exact ⟨l,a,h.below k,h2,h3⟩
theorem Gx (w0 W:World) (L:Nat) (h1:1≤L) (h2:L≤65536) (hB:Below w0.heap.size w0 W) :
 Calls prog 40 #[.int .i64 L] W fun e w'=>e=.returned (.tuple #[.pointer (some ⟨W.heap.size+1,0,none⟩),.int .i64 0])∧Sl (kH w' (W.heap.size+1) W.heap.size L [])∧Sl (Below W.heap.size W w')∧Sl (Below w0.heap.size w0 w') :=
 (AB L W h1 h2).mono fun _ _ ⟨he,hr,hb,_⟩=>⟨he,⟨zs L,0,hr.ah,Em L,rfl⟩,hb,⟨hB.trans (hb.ah.mono hB.size)⟩⟩
theorem XB (W:World) (b p L n:Nat) (hs:List Nat) (h:kH W b p L hs) (hn:hs.length=n) :
 Calls prog 95 #[.pointer (some ⟨b,0,none⟩)] W fun e w'=>e=.returned (.int .i64 n)∧W=w':=by
 obtain ⟨l,a,h,_,_⟩:=h;rw [hn] at h;exact VD b p a n l W h
theorem nD (w0 W:World) (b p L m:Nat) (hs bs:List Nat) (v:Value) (hB:Below w0.heap.size w0 W) (h1:w0.heap.size≤b) (h2:w0.heap.size≤p) (h:kH W b p L hs) (hv:kS W p v bs) (sm:aU 256 bs) (hL:bs.length≤100000) (hm:min bs.length (L-hs.length)=m) :
 Calls prog 118 #[.pointer (some ⟨b,0,none⟩),v] W fun e w'=>e=.returned (.int .i64 m)∧Sl (kH w' b p L (hs++bs.take m))∧Sl (mO W w' b p)∧Sl (Below w0.heap.size w0 w'):=by
 obtain ⟨l,a,h,hl,hh⟩:=h;have aN:∀ (e:Ending) (w':World),(e=.returned (.int .i64 m)∧Sl (∃ l',dM w' b p l' a (hs.length+m)∧l'.length=l.length∧eU l' a (hs.length+m)=eU l a hs.length++bs.take m)∧Sl (mO W w' b p)) →
  e=.returned (.int .i64 m)∧Sl (kH w' b p L (hs++bs.take m))∧Sl (mO W w' b p)∧Sl (Below w0.heap.size w0 w'):=by
  rintro e w' ⟨rfl,⟨l',q1,q2,q3⟩,q4⟩;have bt:(hs++bs.take m).length=hs.length+m:=by rw [jB,kQ];omega
  exact ⟨rfl,⟨l',a,by rw [bt];exact q1,by rw [q2];exact hl,by rw [bt,q3,hh]⟩,q4,⟨q4.ah.below hB h1 h2⟩⟩
 by_cases hc:L-hs.length<bs.length
 ·exact (vY b p a hs.length m _ _ _ (L-hs.length) bs.length l bs v W h hv sm hL rfl (by rw [hl]) (by omega) (by omega) rfl rfl rfl).mono aN
 ·exact (VF b p a hs.length m _ _ _ (L-hs.length) bs.length l bs v W h hv sm hL rfl (by rw [hl]) (by omega) (by omega) rfl rfl rfl).mono aN
theorem xg (hs:List Nat) (z:Int):hs.take (dA hs.length z)=hs.take z.toNat:=by
 unfold dA;by_cases h:hs.length≤z.toNat
 ·rw [LX h,nC (aY _),nC h]
 ·rw [Nat.min_eq_right (by omega)]
theorem IK (hs:List Nat) (z:Int):hs.drop (dA hs.length z)=hs.drop z.toNat:=by
 unfold dA;by_cases h:hs.length≤z.toNat
 ·rw [LX h,List.drop_eq_nil_of_le (aY _),List.drop_eq_nil_of_le h]
 ·rw [Nat.min_eq_right (by omega)]
theorem xk (w0 W:World) (b p L k:Nat) (hs ah:List Nat) (z:Int) (hB:Below w0.heap.size w0 W) (h:kH W b p L hs) (ho:hs.take z.toNat=ah) (hk:ah.length=k) :
 Calls prog 66 #[.pointer (some ⟨b,0,none⟩),.int .i64 z] W fun e w'=>e=.returned (.slice (some ⟨W.heap.size,0,none⟩) k k)∧Sl (fA w' W.heap.size ah)∧Sl (kH w' b p L hs)∧Sl (Below W.heap.size W w')∧Sl (Below w0.heap.size w0 w'):=by
 have h0:=h;obtain ⟨l,a,h,hl,hh⟩:=h;have e1:dA hs.length z=k:=by rw [← hk,← ho,← xg,kQ];have:=Gw hs.length z;omega
 refine (wZ b p a hs.length z l W h).mono fun _ _ ⟨he,hr,hb⟩=>⟨by rw [he,e1],⟨?_⟩,⟨h0.below hb.ah⟩,hb,⟨hB.trans (hb.ah.mono hB.size)⟩⟩
 have e2:eU l a (dA hs.length z)=ah:=by rw [← EI l a hs.length _ (Gw _ _),hh,xg,ho]
 rw [← e2];exact hr.ah
theorem tZ (w0 W:World) (b p L k:Nat) (hs ah rest:List Nat) (z:Int) (hB:Below w0.heap.size w0 W) (h1:w0.heap.size≤b) (h2:w0.heap.size≤p) (h:kH W b p L hs) (ho:hs.take z.toNat=ah) (hk:ah.length=k) (hr:hs.drop z.toNat=rest) :
 Calls prog 93 #[.pointer (some ⟨b,0,none⟩),.int .i64 z] W fun e w'=>e=.returned (.slice (some ⟨W.heap.size,0,none⟩) k k)∧Sl (fA w' W.heap.size ah)∧Sl (kH w' b p L rest)∧Sl (mO W w' b p)∧Sl (Below w0.heap.size w0 w'):=by
 obtain ⟨l,a,h,hl,hh⟩:=h;have hg:=Gw hs.length z;have e1:dA hs.length z=k:=by rw [← hk,← ho,← xg,kQ];omega
 refine (vC b p a hs.length _ z l W h rfl).mono fun _ w' ⟨he,hx,hq,ht⟩=>⟨by rw [he,e1],⟨?_⟩,⟨?_⟩,ht,⟨ht.ah.below hB h1 h2⟩⟩
 ·have e2:eU l a (dA hs.length z)=ah:=by rw [← EI l a hs.length _ hg,hh,xg,ho]
  rw [← e2];exact hx.ah
 ·have cV:=h.le
  have bz:=h.lt;have e3:rest.length=hs.length-dA hs.length z:=by rw [← hr,← IK,iP]
  refine ⟨l,_,by rw [e3];exact hq.ah,hl,?_⟩;rw [e3,OU l a hs.length _ bz hg cV _ (Or.inl rfl) (qK bz (by omega)),hh,IK,hr]
end
end Go.Proofs.YtlahonjmfecikaaGreatDoor.OT
namespace aj
open aC (Fr dn dF aQ bn aT jC eF)
open aV (one all jL dX pV)
open aA (Ev Ms M0)
open cO (jr)
section
variable {f:Fr}
structure Cf where
 ah:Nat
 bh:Nat
 bR:Nat
 af:Bool
structure Lg where
 cj:List Nat
 aK:List Nat
 tail:List Nat
 bE:List Fr
 aQ:List Fr
 rest:List Fr
 bX:List (Int×List Nat)
 gy:List Nat
 am:Bool
 dA:Bool
 ag:Nat
 bu:Nat
 bO:List Nat
 ci:Nat
 ms:Ms
def L0 (bu:Nat):Lg:=⟨[],[],[],[],[],[],[],[],false,false,0,bu,[],0,M0⟩
def next (n:Nat):Nat:=(n*1664525+1013904223) % 4294967296
def ni (n:Nat):List Nat:=[n / 16777216 % 256,n / 65536 % 256,n / 256 % 256,n % 256]
theorem zI (n:Nat):(ni n).length=4:=rfl
theorem oC (n:Nat):∀ y∈ni n,y<256:=fun y hy=>by
 simp only [ni,DN,pJ,or_false] at hy;omega
def dN (c:Cf) (d:Nat) (f:Fr):Fr:=if c.af then f else ⟨f.aN,f.op,true,ni d,f.data⟩
def dD (c:Cf) (d:Nat):Nat:=if c.af then d else next d
def fill (c:Cf) (l:Lg):Lg:={l with aK:=l.aK++l.tail.take (c.ah-l.aK.length),tail:=l.tail.drop (c.ah-l.aK.length)}
def put (c:Cf) (l:Lg) (f:Fr):Lg:={l with tail:=aT (dN c (dD c l.bu) f),bu:=dD c l.bu,bE:=l.bE++[dN c (dD c l.bu) f]}
def mv (c:Cf):Nat→Lg→Lg
 | 0,l=>fill c l
 | n+1,l=>if (fill c l).tail≠[] then fill c l else
   match l.aQ,l.rest with
   | f :: cs,_=>mv c n (put c {fill c l with aQ:=cs} f)
   | [],f :: r=>mv c n (put c {fill c l with rest:=r} f)
   | [],[]=>fill c l
def move (c:Cf) (l:Lg):Lg:=mv c (l.aQ.length+l.rest.length) l
def DZ (f:Fr):Bool×Int×List Nat:=(f.aN,f.op,f.data)
theorem Ce (c:Cf) (d:Nat) (f:Fr):DZ (dN c d f)=DZ f:=by unfold dN;split<;>rfl
def D3 (f:Fr):Bool:=decide (f.op≤2)
theorem ug (c:Cf) (d:Nat) (f:Fr):D3 (dN c d f)=D3 f:=by unfold dN;split<;>rfl
def uO (l:List Fr):List (Bool×Int×List Nat):=(l.filter D3).map DZ
def D4 (l:List Fr):List (Bool×Int×List Nat):=(l.filter (fun f=>!D3 f)).map DZ
theorem vF (a b:List Fr):uO (a++b)=uO a++uO b:=by simp [uO]
theorem vG (a b:List Fr):D4 (a++b)=D4 a++D4 b:=by simp [D4]
theorem MW (h:D3 f=true):uO [f]=[DZ f]:=by simp [uO,h]
theorem Tz (h:D3 f=false):uO [f]=[]:=by simp [uO,h]
theorem MY (h:D3 f=false):D4 [f]=[DZ f]:=by simp [D4,h]
theorem TA (h:D3 f=true):D4 [f]=[]:=by simp [D4,h]
structure D5 (f:Fr):Prop where
 aN:f.aN=true
 op:f.op=8∨f.op=9∨f.op=10
 af:f.af=false
 key:f.key=bn
 len:f.data.length≤125
 fO:∀ y∈f.data,y<256
structure Aj (ae:Nat) (f:Fr):Prop where
 op:f.op=0∨f.op=1∨f.op=2
 af:f.af=false
 key:f.key=bn
 len:f.data.length≤ae
 fO:∀ y∈f.data,y<256
structure AQ (c:Cf) (f:Fr):Prop where
 dF:dF f=true
 af:f.af=!c.af
 key:f.key.length=4
 aeG:∀ y∈f.key,y<256
 len:f.data.length≤max c.bR 125
 fO:∀ y∈f.data,y<256
theorem D5.D3 (h:D5 f):D3 f=false:=by
 unfold aj.D3;rcases h.op with e | e | e<;>(rw [e];rfl)
theorem Aj.D3 {ae:Nat} (h:Aj ae f):D3 f=true:=by
 unfold aj.D3;rcases h.op with e | e | e<;>(rw [e];rfl)
theorem rX:∀ y∈bn,y<256:=by decide
theorem D5.ah {c:Cf} (h:D5 f) (d:Nat):AQ c (dN c d f):=by
 obtain ⟨h1,h2,h3,h4,h5,h6⟩:=h;have ho:8≤f.op∧f.op≤10:=by rcases h2 with e | e | e<;>omega
 unfold dN;by_cases hm:c.af=true
 ·rw [if_pos hm]
  exact ⟨jC ⟨.inr ⟨ho.1,ho.2,h1,h5⟩,.inr h4⟩,by rw [h3,hm];rfl,by rw [h4];rfl,by rw [h4];exact rX,by omega,h6⟩
 ·rw [if_neg hm]
  exact ⟨jC ⟨.inr ⟨ho.1,ho.2,h1,h5⟩,.inl rfl⟩,by simp only [Bool.not_eq_true] at hm;rw [hm];rfl,zI d,oC d,by show f.data.length≤_;omega,h6⟩
theorem Aj.ah {c:Cf} (h:Aj c.bR f) (d:Nat):AQ c (dN c d f):=by
 obtain ⟨h2,h3,h4,h5,h6⟩:=h;have ho:0≤f.op∧f.op≤2:=by rcases h2 with e | e | e<;>omega
 unfold dN;by_cases hm:c.af=true
 ·rw [if_pos hm]
  exact ⟨jC ⟨.inl ho,.inr h4⟩,by rw [h3,hm];rfl,by rw [h4];rfl,by rw [h4];exact rX,by omega,h6⟩
 ·rw [if_neg hm]
  exact ⟨jC ⟨.inl ho,.inl rfl⟩,by simp only [Bool.not_eq_true] at hm;rw [hm];rfl,zI d,oC d,by show f.data.length≤_;omega,h6⟩
structure lC (c:Cf) (l:Lg):Prop where
 bytes:l.cj++l.aK++l.tail=l.bE.flatMap aT
 bE:∀ f∈l.bE,AQ c f
 aQ:∀ f∈l.aQ,D5 f
 rest:∀ f∈l.rest,Aj c.bR f
 aK:l.aK.length≤c.ah
structure Gy (l m:Lg):Prop where
 uO:uO m.bE++uO m.rest=uO l.bE++uO l.rest
 D4:D4 m.bE++D4 m.aQ=D4 l.bE++D4 l.aQ
 rest:∃ k,m.rest=l.rest.drop k
 cj:m.cj=l.cj
 bX:m.bX=l.bX
 gy:m.gy=l.gy
 am:m.am=l.am
 dA:m.dA=l.dA
 ag:m.ag=l.ag
 bO:m.bO=l.bO
 ci:m.ci=l.ci
 ms:m.ms=l.ms
theorem Gy.trans {a b d:Lg} (h:Gy a b) (k:Gy b d):Gy a d:=by
 obtain ⟨i,hi⟩:=h.rest;obtain ⟨j,hj⟩:=k.rest;exact ⟨k.uO.trans h.uO,k.D4.trans h.D4,⟨i+j,by rw [hj,hi,QN]⟩,k.cj.trans h.cj,k.bX.trans h.bX,k.gy.trans h.gy,k.am.trans h.am,k.dA.trans h.dA,k.ag.trans h.ag,k.bO.trans h.bO,k.ci.trans h.ci,k.ms.trans h.ms⟩
theorem oD {c:Cf} {l:Lg} (h:lC c l):lC c (fill c l) :=
 ⟨by show l.cj++(l.aK++l.tail.take _)++l.tail.drop _=_
     rw [Ae,Ae,Ee,← Ae];exact h.bytes,h.bE,h.aQ,h.rest,by
  show (l.aK++l.tail.take _).length≤_
  rw [jB,kQ];have:=h.aK;omega⟩
theorem yP (c:Cf) (l:Lg):Gy l (fill c l):=⟨rfl,rfl,⟨0,rfl⟩,rfl,rfl,rfl,rfl,rfl,rfl,rfl,rfl,rfl⟩
theorem KC (c:Cf):∀ (n:Nat) (l:Lg),lC c l→lC c (mv c n l)∧Gy l (mv c n l)
 | 0,l,h=>⟨oD h,yP c l⟩
 | n+1,l,h=>by
   unfold mv;by_cases ht:(fill c l).tail≠[]
   ·rw [if_pos ht];exact ⟨oD h,yP c l⟩
   ·rw [if_neg ht]
    have hf:=oD h;have mL:(fill c l).tail=[]:=DI ht;have hb:=hf.bytes;rw [mL,yC] at hb;cases hc:l.aQ with
    | cons f cs =>
      have rS:D5 f:=h.aQ f (by rw [hc];exact rD);have i:=KC c n (put c {fill c l with aQ:=cs} f) ⟨by
       show (fill c l).cj++(fill c l).aK++_=(l.bE++[_]).flatMap aT
       rw [hb,List.flatMap_append];simp;rfl,fun g hg=>by
       rcases sN.1 hg with hg | hg
       ·exact h.bE g hg
       ·rw [uF] at hg;rw [hg];exact rS.ah _,fun g hg=>h.aQ g (by rw [hc];exact uK _ hg),h.rest,hf.aK⟩
      refine ⟨i.1,Gy.trans ?_ i.2⟩;refine ⟨?_,?_,⟨0,rfl⟩,rfl,rfl,rfl,rfl,rfl,rfl,rfl,rfl,rfl⟩
      ·show uO (l.bE++[_])++uO l.rest=_
       rw [vF,Tz (by rw [ug];exact rS.D3),yC]
      ·show D4 (l.bE++[_])++D4 cs=D4 l.bE++D4 l.aQ
       rw [vG,MY (by rw [ug];exact rS.D3),Ce,hc,show f :: cs=[f]++cs from rfl,vG,MY rS.D3,Ae]
    | nil =>
      cases hr:l.rest with
      | cons f r =>
        have fk:Aj c.bR f:=h.rest f (by rw [hr];exact rD);have i:=KC c n (put c {fill c l with rest:=r} f) ⟨by
         show (fill c l).cj++(fill c l).aK++_=(l.bE++[_]).flatMap aT
         rw [hb,List.flatMap_append];simp;rfl,fun g hg=>by
         rcases sN.1 hg with hg | hg
         ·exact h.bE g hg
         ·rw [uF] at hg;rw [hg];exact fk.ah _,h.aQ,fun g hg=>h.rest g (by rw [hr];exact uK _ hg),hf.aK⟩
        refine ⟨i.1,Gy.trans ?_ i.2⟩;refine ⟨?_,?_,⟨1,by show r=l.rest.drop 1;rw [hr];rfl⟩,rfl,rfl,rfl,rfl,rfl,rfl,rfl,rfl,rfl⟩
        ·show uO (l.bE++[_])++uO r=uO l.bE++uO l.rest
         rw [vF,MW (by rw [ug];exact fk.D3),Ce,hr,show f :: r=[f]++r from rfl,vF,MW fk.D3,Ae]
        ·show D4 (l.bE++[_])++D4 l.aQ=_
         rw [vG,TA (by rw [ug];exact fk.D3),yC]
      | nil=>exact ⟨oD h,yP c l⟩
theorem xu {c:Cf} {l:Lg} (h:lC c l):lC c (move c l)∧Gy l (move c l):=KC c _ l h
def qL (c:Cf) (l:Lg):Prop:=(l.tail≠[]→l.aK.length=c.ah)∧(l.tail=[]→l.aQ=[]∧l.rest=[])
theorem EL (c:Cf) (l:Lg) (h:l.aK.length≤c.ah) (ht:(fill c l).tail≠[]):(fill c l).aK.length=c.ah:=by
 have h1:(l.tail.drop (c.ah-l.aK.length)).length≠0:=fun e=>ht (yA e)
 rw [iP] at h1
 show (l.aK++l.tail.take _).length=_
 rw [jB,kQ];omega
theorem vH (c:Cf):∀ (n:Nat) (l:Lg),lC c l→l.aQ.length+l.rest.length≤n→qL c (mv c n l)
 | 0,l,h,hn=>by
   have h1:l.aQ=[]:=yA (by omega);have h2:l.rest=[]:=yA (by omega);exact ⟨fun ht=>EL c l h.aK ht,fun _=>⟨h1,h2⟩⟩
 | n+1,l,h,hn=>by
   unfold mv;by_cases ht:(fill c l).tail≠[]
   ·rw [if_pos ht]
    exact ⟨fun _=>EL c l h.aK ht,fun e=>absurd e ht⟩
   ·rw [if_neg ht]
    have hf:=oD h;have mL:(fill c l).tail=[]:=DI ht;have hb:=hf.bytes;rw [mL,yC] at hb;cases hc:l.aQ with
    | cons f cs =>
      have rS:D5 f:=h.aQ f (by rw [hc];exact rD);refine vH c n (put c {fill c l with aQ:=cs} f) ⟨by
       show (fill c l).cj++(fill c l).aK++_=(l.bE++[_]).flatMap aT
       rw [hb,List.flatMap_append];simp;rfl,fun g hg=>by
       rcases sN.1 hg with hg | hg
       ·exact h.bE g hg
       ·rw [uF] at hg;rw [hg];exact rS.ah _,fun g hg=>h.aQ g (by rw [hc];exact uK _ hg),h.rest,hf.aK⟩ ?_
      rw [hc,jE] at hn
      show cs.length+l.rest.length≤n
      omega
    | nil =>
      cases hr:l.rest with
      | cons f r =>
        have fk:Aj c.bR f:=h.rest f (by rw [hr];exact rD);refine vH c n (put c {fill c l with rest:=r} f) ⟨by
         show (fill c l).cj++(fill c l).aK++_=(l.bE++[_]).flatMap aT
         rw [hb,List.flatMap_append];simp;rfl,fun g hg=>by
         rcases sN.1 hg with hg | hg
         ·exact h.bE g hg
         ·rw [uF] at hg;rw [hg];exact fk.ah _,h.aQ,fun g hg=>h.rest g (by rw [hr];exact uK _ hg),hf.aK⟩ ?_
        rw [hr,jE] at hn
        show l.aQ.length+r.length≤n
        rw [hc] at hn ⊢;simp only [Eg] at hn ⊢;omega
      | nil =>
        refine ⟨fun e=>absurd mL e,fun _=>⟨hc,hr⟩⟩
theorem Gz {c:Cf} {l:Lg} (h:lC c l):qL c (move c l):=vH c _ l h (aY _)
end
open aG (eY iy dI bI dS)
section
variable {l:Lg} {c:Cf}
def free (l:Lg):Bool:=!l.am&&!l.dA&&decide (l.ag=0)&&l.rest.isEmpty
def send (c:Cf) (l:Lg) (op:Int) (t:List Nat):Lg×Bool :=
 if free l=true∧(op=1∨op=2)∧t.length≤c.bh then (move c {l with rest:=jr c.bR op t,bX:=l.bX++[(op,t)]},true) else (l,false)
def gV (op:Int) (d:List Nat):Fr:=⟨true,op,false,bn,d⟩
def control (c:Cf) (l:Lg) (op:Int) (d:List Nat):Lg:=move c {l with aQ:=l.aQ++[gV op d]}
def jW (c:Cf) (l:Lg) (d:List Nat):Lg×Bool:=if l.am=true∨l.dA=true∨l.ag≠0∨125<d.length then (l,false) else (control c l 9 d,true)
def bU (c:Cf) (l:Lg) (ao:Int) (de:List Nat):Lg×Bool :=
 if l.am=true∨(eY ao de).2≠0 then (l,false) else (control c {l with am:=true,rest:=[],gy:=(eY ao de).1} 8 (eY ao de).1,true)
def kV (d:List Nat):List Fr→List Fr
 | []=>[]
 | f :: l=>if f.op=10 then {f with data:=d} :: l else f :: kV d l
def lV (c:Cf) (l:Lg) (d:List Nat):Lg :=
 if l.am=true then l else if l.aQ.any (fun f=>decide (f.op=10))=true then move c {l with aQ:=kV d l.aQ} else control c l 10 d
def fail (c:Cf) (l:Lg) (e:Nat):Lg:=(bU c {l with ag:=e} (dI (e:Int)) []).1
def bV (c:Cf) (l:Lg) (x:Ev):Lg :=
 if x.op=9 then lV c l x.data else if x.op=8 then (bU c {l with dA:=true} (bI x.ao) []).1 else l
def bQ (c:Cf):Nat:=max c.bh 125
def dJ (c:Cf) (l:Lg) (b:List Nat):Lg :=
 {l with bO:=(if (all (l.bO++b) c.af (bQ c:Int)).2.1=0 then (l.bO++b).drop ((l.bO++b).length-(all (l.bO++b) c.af (bQ c:Int)).2.2) else []),ci:=(all (l.bO++b) c.af (bQ c:Int)).2.1,ms:=(aA.run (c.bh:Int) l.ms (all (l.bO++b) c.af (bQ c:Int)).1).1}
def rY (c:Cf) (l:Lg) (b:List Nat):List Ev:=(aA.run (c.bh:Int) l.ms (all (l.bO++b) c.af (bQ c:Int)).1).2
def jX (c:Cf) (l:Lg) (b:List Nat):Nat:=if (dJ c l b).ms.bj≠0 then (dJ c l b).ms.bj else if (dJ c l b).ms.aL=true then 0 else (dJ c l b).ci
def iM (c:Cf) (l:Lg) (b:List Nat):Lg×List Ev :=
 if l.dA=true∨l.ag≠0 then (l,[]) else
  (if jX c l b≠0 then fail c ((rY c l b).foldl (bV c) (dJ c l b)) (jX c l b) else (rY c l b).foldl (bV c) (dJ c l b),(rY c l b).filter (fun x=>decide (x.op≠9)))
def jD (c:Cf) (l:Lg) (n:Int):Lg×List Nat :=
 (move c {l with cj:=l.cj++l.aK.take n.toNat,aK:=l.aK.drop n.toNat},l.aK.take n.toNat)
def flat (c:Cf) (s:List (Int×List Nat)):List (Bool×Int×List Nat):=s.flatMap fun m=>(jr c.bR m.1 m.2).map DZ
def oQ (c:Cf) (s:List (Int×List Nat)):List (Bool×Int×List Nat):=match s.getLast? with
 | none=>[]
 | some m=>(jr c.bR m.1 m.2).map DZ
theorem O0 (c:Cf) (s:List (Int×List Nat)):flat c s.dropLast++oQ c s=flat c s:=by
 rcases List.eq_nil_or_concat s with rfl | ⟨p,m,rfl⟩
 ·rfl
 ·unfold flat oQ
  rw [List.concat_eq_append,List.dropLast_concat,List.getLast?_append];simp
theorem KD (c:Cf) (s:List (Int×List Nat)) (m:Int×List Nat):oQ c (s++[m])=(jr c.bR m.1 m.2).map DZ:=by unfold oQ;rw [List.getLast?_append];rfl
def XC (l:List Fr):Prop:=∀ f∈l,f.op≠8
structure Zn (l:Lg):Prop where
 no:l.am=false→XC l.bE∧XC l.aQ
 rest:l.am=true→l.rest=[]
 yes:l.am=true→(∃ p x,l.bE=p++[x]∧x.op=8∧x.data=l.gy∧XC p∧l.aQ=[])∨(∃ p x,l.aQ=p++[x]∧x.op=8∧x.data=l.gy∧XC p∧XC l.bE)
theorem oG (c:Cf) (d:Nat) (f:Fr):(dN c d f).op=f.op∧(dN c d f).data=f.data∧(dN c d f).aN=f.aN:=by unfold dN;split<;>exact ⟨rfl,rfl,rfl⟩
theorem xw {l:List Fr} {f:Fr} (h:XC l) (hf:f.op≠8):XC (l++[f]):=fun g hg=>by
 rcases sN.1 hg with hg | hg
 ·exact h g hg
 ·rw [uF] at hg;rw [hg];exact hf
theorem KE (c:Cf):∀ (n:Nat) (l:Lg),(∀ f∈l.rest,Aj c.bR f)→Zn l→Zn (mv c n l)
 | 0,l,_,h=>⟨h.no,h.rest,h.yes⟩
 | n+1,l,hR,h=>by
   unfold mv;by_cases ht:(fill c l).tail≠[]
   ·rw [if_pos ht];exact ⟨h.no,h.rest,h.yes⟩
   ·rw [if_neg ht]
    cases hc:l.aQ with
    | cons f cs =>
      refine KE c n _ hR ⟨fun hs=>?_,h.rest,fun hs=>?_⟩
      ·obtain ⟨h1,h2⟩:=h.no hs
       rw [hc] at h2;exact ⟨xw h1 (by rw [(oG _ _ _).1];exact h2 f rD),fun g hg=>h2 g (uK _ hg)⟩
      ·rcases h.yes hs with ⟨p,x,h1,h2,h3,h4,h5⟩ | ⟨p,x,h1,h2,h3,h4,h5⟩
       ·rw [hc] at h5;cases h5
       ·rw [hc] at h1
        cases p with
        | nil =>
          rw [List.nil_append] at h1;injection h1 with e1 e2
          subst e1;exact .inl ⟨l.bE,_,rfl,by rw [(oG _ _ _).1];exact h2,by rw [(oG _ _ _).2.1];exact h3,h5,e2⟩
        | cons g p =>
          rw [DK] at h1;injection h1 with e1 e2
          subst e1;exact .inr ⟨p,x,e2,h2,h3,fun g hg=>h4 g (uK _ hg),xw h5 (by rw [(oG _ _ _).1];exact h4 f rD)⟩
    | nil =>
      cases hr:l.rest with
      | cons f r =>
        have hs:l.am=false:=by
         cases hs:l.am with
         | false=>rfl
         | true=>have:=h.rest hs;rw [hr] at this;cases this
        have fk:Aj c.bR f:=hR f (by rw [hr];exact rD);have cY:f.op≠8:=by rcases fk.op with e | e | e<;>omega
        refine KE c n _ (fun g hg=>hR g (by rw [hr];exact uK _ hg)) ⟨fun _=>?_,fun hs'=>?_,fun hs'=>?_⟩
        ·obtain ⟨h1,h2⟩:=h.no hs
         exact ⟨xw h1 (by rw [(oG _ _ _).1];exact cY),h2⟩
        ·exact absurd (show l.am=true from hs') (by rw [hs];decide)
        ·exact absurd (show l.am=true from hs') (by rw [hs];decide)
      | nil=>exact ⟨h.no,h.rest,h.yes⟩
def Zo (c:Cf) (l:Lg):Prop:=∃ j,uO l.bE=flat c l.bX.dropLast++(oQ c l.bX).take j∧(l.am=false→uO l.rest=(oQ c l.bX).drop j)
theorem Ci {ae:Nat} {l:List Fr} (h:∀ f∈l,Aj ae f):uO l=l.map DZ:=by
 unfold uO;rw [List.filter_eq_self.2 (fun f hf=>(h f hf).D3)]
theorem TB (hi:lC c l) (he:Zn l) (h:Zo c l):Zo c (move c l):=by
 obtain ⟨hi2,hs⟩:=xu hi;obtain ⟨j,h1,h2⟩:=h;obtain ⟨k,hk⟩:=hs.rest;unfold Zo;rw [hs.bX,hs.am];cases pi:l.am with
 | true =>
   have hr:=he.rest pi;have eA:(move c l).rest=[]:=by rw [hk,hr,List.drop_nil]
   refine ⟨j,?_,fun e=>(by cases e)⟩;have hd:=hs.uO;have hz:uO []=[]:=rfl;rw [hr,eA,hz,yC,yC] at hd;rw [hd];exact h1
 | false =>
   have h2:=h2 pi;have hd:=hs.uO;have e1:uO (move c l).rest=(oQ c l.bX).drop (j+k):=by
    rw [hk,Ci (fun f hf=>hi.rest f (Ef hf)),List.map_drop,← Ci hi.rest,h2,QN]
   refine ⟨j+k,?_,fun _=>e1⟩;rw [e1,h1,h2,Ae,Ee] at hd;have hx:flat c l.bX.dropLast++oQ c l.bX=(flat c l.bX.dropLast++(oQ c l.bX).take (j+k))++(oQ c l.bX).drop (j+k):=by rw [Ae,Ee]
   rw [hx] at hd;exact List.append_cancel_right hd
structure Ok (c:Cf) (l:Lg):Prop where
 eB:lC c l
 set:qL c l
 aN:Zn l
 yl:Zo c l
 bX:∀ m∈l.bX,(m.1=1∨m.1=2)∧m.2.length≤c.bh∧∀ y∈m.2,y<256
theorem xA (hi:lC c l) (he:Zn l) (hd:Zo c l) (hs:∀ m∈l.bX,(m.1=1∨m.1=2)∧m.2.length≤c.bh∧∀ y∈m.2,y<256):Ok c (move c l) :=
 ⟨(xu hi).1,Gz hi,KE c _ l hi.rest he,TB hi he hd,by rw [(xu hi).2.bX];exact hs⟩
theorem VG (c:Cf) (d:Nat):Ok c (L0 d) :=
 ⟨⟨rfl,fun f hf=>absurd hf pJ,fun f hf=>absurd hf pJ,fun f hf=>absurd hf pJ,ku _⟩,⟨fun h=>absurd rfl h,fun _=>⟨rfl,rfl⟩⟩,⟨fun _=>⟨fun f hf=>absurd hf pJ,fun f hf=>absurd hf pJ⟩,fun h=>(by cases h),fun h=>(by cases h)⟩,⟨0,rfl,fun _=>rfl⟩,fun m hm=>absurd hm pJ⟩
theorem Cj (h:Ok c l) (hs:l.am=false) (op:Int) (ho:op=9∨op=10) (d:List Nat) (hd:d.length≤125) (bB:∀ y∈d,y<256):Ok c (control c l op d):=by
 refine xA (l:={l with aQ:=l.aQ++[gV op d]}) ⟨h.eB.bytes,h.eB.bE,fun f hf=>?_,h.eB.rest,h.eB.aK⟩ ⟨fun _=>⟨(h.aN.no hs).1,xw (h.aN.no hs).2 (by show op≠8;omega)⟩,fun e=>absurd (show l.am=true from e) (by rw [hs];decide),fun e=>absurd (show l.am=true from e) (by rw [hs];decide)⟩ h.yl h.bX;rcases sN.1 hf with hf | hf
 ·exact h.eB.aQ f hf
 ·rw [uF] at hf
  rw [hf];exact ⟨rfl,.inr ho,rfl,rfl,hd,bB⟩
theorem TC (h:Ok c l) (ao:Int) (de:List Nat) (hw:∀ y∈de,y<256):Ok c (bU c l ao de).1:=by
 unfold bU;by_cases hc:l.am=true∨(eY ao de).2≠0
 ·rw [if_pos hc];exact h
 ·rw [if_neg hc]
  have hs:l.am=false:=by
   cases e:l.am with
   | false=>rfl
   | true=>exact absurd (.inl e) hc
  have hp:(eY ao de).2=0:=DI fun e=>hc (.inr e)
  obtain ⟨s,Zp⟩:=zX ((eY ao de).1);have xe:eY ao de=(s,0):=by rw [← Zp,← hp]
  have bt:=(aG.sW xe).1;have bB:=aG.je hw xe;rw [Zp];refine xA (l:={{l with am:=true,rest:=[],gy:=s} with aQ:=l.aQ++[gV 8 s]}) ⟨h.eB.bytes,h.eB.bE,fun f hf=>?_,fun f hf=>absurd hf pJ,h.eB.aK⟩ ⟨fun e=>(by cases e),fun _=>rfl,fun _=>.inr ⟨l.aQ,gV 8 s,rfl,rfl,rfl,(h.aN.no hs).2,(h.aN.no hs).1⟩⟩ ?_ h.bX
  ·rcases sN.1 hf with hf | hf
   ·exact h.eB.aQ f hf
   ·rw [uF] at hf
    rw [hf];exact ⟨rfl,.inl rfl,rfl,rfl,bt,bB⟩
  ·obtain ⟨j,h1,_⟩:=h.yl
   exact ⟨j,h1,fun e=>(by cases e)⟩
theorem rZ {d:List Nat} : ∀ {l:List Fr} {f:Fr},f∈kV d l→(∃ g∈l,g.op=10∧f={g with data:=d})∨f∈l
 | g :: l,f,h=>by
   unfold kV at h;by_cases hg:g.op=10
   ·rw [if_pos hg] at h
    rcases DN.1 h with h | h
    ·exact .inl ⟨g,rD,hg,h⟩
    ·exact .inr (uK _ h)
   ·rw [if_neg hg] at h
    rcases DN.1 h with h | h
    ·rw [h];exact .inr rD
    ·rcases rZ h with ⟨x,h1,h2,h3⟩ | h1
     ·exact .inl ⟨x,uK _ h1,h2,h3⟩
     ·exact .inr (uK _ h1)
theorem VH (h:Ok c l) (d:List Nat) (hd:d.length≤125) (bB:∀ y∈d,y<256):Ok c (lV c l d):=by
 unfold lV;by_cases kp:l.am=true
 ·rw [if_pos kp];exact h
 ·rw [if_neg kp]
  have hs:l.am=false:=by simpa using kp
  by_cases hp:l.aQ.any (fun f=>decide (f.op=10))=true
  ·rw [if_pos hp]
   refine xA (l:={l with aQ:=kV d l.aQ}) ⟨h.eB.bytes,h.eB.bE,fun f hf=>?_,h.eB.rest,h.eB.aK⟩ ⟨fun _=>⟨(h.aN.no hs).1,fun f hf=>?_⟩,fun e=>absurd (show l.am=true from e) (by rw [hs];decide),fun e=>absurd (show l.am=true from e) (by rw [hs];decide)⟩ h.yl h.bX
   ·rcases rZ hf with ⟨g,h1,h2,rfl⟩ | h1
    ·have:=h.eB.aQ g h1
     exact ⟨this.aN,.inr (.inr h2),this.af,this.key,hd,bB⟩
    ·exact h.eB.aQ f h1
   ·rcases rZ hf with ⟨g,h1,h2,rfl⟩ | h1
    ·show g.op≠8;omega
    ·exact (h.aN.no hs).2 f h1
  ·rw [if_neg hp]
   exact Cj h hs 10 (.inr rfl) d hd bB
theorem VI (h:Ok c l) (d:List Nat) (bB:∀ y∈d,y<256):Ok c (jW c l d).1:=by
 unfold jW;by_cases hc:l.am=true∨l.dA=true∨l.ag≠0∨125<d.length
 ·rw [if_pos hc];exact h
 ·rw [if_neg hc]
  have hs:l.am=false:=by
   cases e:l.am with
   | false=>rfl
   | true=>exact absurd (.inl e) hc
  exact Cj h hs 9 (.inl rfl) d (by omega) bB
theorem qM (hm:1≤c.bR) {op:Int} (ho:op=1∨op=2) (t:List Nat) (hs:∀ y∈t,y<256):∀ f∈jr c.bR op t,Aj c.bR f:=by
 have key:∀ (n:Nat) (op:Int) (t:List Nat),t.length≤n→(op=0∨op=1∨op=2)→(∀ y∈t,y<256)→∀ f∈jr c.bR op t,Aj c.bR f:=by
  intro n
  induction n with
  | zero =>
    intro op t hn ho hs f hf;rw [cO.jH (by omega),uF] at hf;rw [hf];exact ⟨ho,rfl,rfl,by show t.length≤_;omega,hs⟩
  | succ n ih =>
    intro op t hn ho hs f hf;by_cases h:t.length≤c.bR
    ·rw [cO.jH h,uF] at hf
     rw [hf];exact ⟨ho,rfl,rfl,h,hs⟩
    ·rw [cO.mY hm h] at hf
     rcases DN.1 hf with hf | hf
     ·rw [hf]
      exact ⟨ho,rfl,rfl,by show (t.take c.bR).length≤_;rw [kQ];omega,fun y hy=>hs y (Hf hy)⟩
     ·exact ih 0 (t.drop c.bR) (by rw [iP];omega) (.inl rfl) (fun y hy=>hs y (Ef hy)) f hf
 exact key t.length op t (aY _) (.inr ho) hs
theorem VJ (hm:1≤c.bR) (h:Ok c l) (op:Int) (t:List Nat) (bB:∀ y∈t,y<256):Ok c (send c l op t).1:=by
 unfold send;by_cases hc:free l=true∧(op=1∨op=2)∧t.length≤c.bh
 ·rw [if_pos hc]
  obtain ⟨hf,ho,ht⟩:=hc;unfold free at hf;simp only [JG,Bool.not_eq_true',Ap,List.isEmpty_iff] at hf;obtain ⟨⟨⟨hs,_⟩,_⟩,hr⟩:=hf;refine xA (l:={l with rest:=jr c.bR op t,bX:=l.bX++[(op,t)]}) ⟨h.eB.bytes,h.eB.bE,h.eB.aQ,qM hm ho t bB,h.eB.aK⟩ ⟨h.aN.no,fun e=>absurd (show l.am=true from e) (by rw [hs];decide),fun e=>absurd (show l.am=true from e) (by rw [hs];decide)⟩ ?_ (fun m hm2=>?_)
  ·obtain ⟨j,h1,h2⟩:=h.yl
   have h2:=h2 hs;rw [hr] at h2;have hz:(oQ c l.bX).take j=oQ c l.bX:=by
    have:=Ee j (oQ c l.bX);rw [← h2] at this;simpa [uO] using this
   refine ⟨0,?_,fun _=>?_⟩
   ·show uO l.bE=flat c (l.bX++[(op,t)]).dropLast++_
    rw [List.dropLast_concat,QH,yC,h1,hz,O0]
   ·show uO (jr c.bR op t)=(oQ c (l.bX++[(op,t)])).drop 0
    rw [KD,Af,Ci (qM hm ho t bB)]
  ·rcases sN.1 hm2 with hm2 | hm2
   ·exact h.bX m hm2
   ·rw [uF] at hm2
    rw [hm2];exact ⟨ho,ht,bB⟩
 ·rw [if_neg hc];exact h
theorem VK (h:Ok c l) (n:Int):Ok c (jD c l n).1:=by
 refine xA (l:={l with cj:=l.cj++l.aK.take n.toNat,aK:=l.aK.drop n.toNat}) ⟨?_,h.eB.bE,h.eB.aQ,h.eB.rest,?_⟩ ⟨h.aN.no,h.aN.rest,h.aN.yes⟩ h.yl h.bX
 ·show l.cj++l.aK.take n.toNat++l.aK.drop n.toNat++l.tail=_
  rw [Ae l.cj,Ee];exact h.eB.bytes
 ·show (l.aK.drop n.toNat).length≤_
  rw [iP];have:=h.eB.aK;omega
theorem zJ {m:Lg} (h:Ok c l) (h1:m.cj=l.cj∧m.aK=l.aK∧m.tail=l.tail∧m.bE=l.bE∧m.aQ=l.aQ∧m.rest=l.rest∧m.bX=l.bX∧m.gy=l.gy∧m.am=l.am):Ok c m:=by
 obtain ⟨e1,e2,e3,e4,e5,e6,e7,e8,e9⟩:=h1;obtain ⟨g,r,t,hi,ct,re,sa,la,se,x1,x2,x3,x4,x5,x6⟩:=m;simp only at e1 e2 e3 e4 e5 e6 e7 e8 e9;subst e1 e2 e3 e4 e5 e6 e7 e8 e9;exact ⟨⟨h.eB.bytes,h.eB.bE,h.eB.aQ,h.eB.rest,h.eB.aK⟩,h.set,⟨h.aN.no,h.aN.rest,h.aN.yes⟩,h.yl,h.bX⟩
end
open aC (nU iJ qA pN oK jk Bo)
open aV (rM jK)
open aA (run gI jv jw)
section
variable {l:Lg} {f:Fr} {c:Cf}
theorem KF {l:List Nat} (h:∀ y∈l,y<256) (i:Nat):l.getD i 0<256:=by
 rw [iw];cases hi:l[i]? with
 | none=>exact (by decide)
 | some y=>exact h y (List.mem_of_getElem? hi)
theorem KG (h1:dF f=true) (hn:f.data.length≤9223372036854775807) (hk:∀ y∈f.key,y<256) (hd:∀ y∈f.data,y<256):∀ y∈aT f,y<256:=by
 have hb:=(oK h1).2.2.2.1;have hl:=qA hn;have hw:=(pN hn).1;unfold aT nU;by_cases hm:f.af=true
 ·rw [if_pos hm,if_pos hm]
  intro x hx;simp only [sN,DN] at hx;rcases hx with ((rfl | rfl | hx) | hx) | hx
  ·exact hb
  ·omega
  ·exact hl x (Ef hx)
  ·exact hk x hx
  ·exact aO.FB _ _ _ hd (KF hk) x hx
 ·rw [if_neg hm,if_neg hm]
  intro x hx;simp only [sN,DN] at hx;rcases hx with (rfl | hx) | hx
  ·exact hb
  ·exact hl x hx
  ·exact hd x hx
theorem AQ.KH (h:AQ c f) (hf:c.bR≤65536):∀ y∈aT f,y<256:=KG h.dF (by have:=h.len;omega) h.aeG h.fO
theorem xB (hf:c.bR≤65536):∀ (fs:List Fr),(∀ f∈fs,AQ c f)→all (fs.flatMap aT) (!c.af) 65536=(fs,0,0)∧∀ y∈fs.flatMap aT,y<256
 | [],_=>⟨rfl,fun y hy=>absurd hy pJ⟩
 | f :: fs,h=>by
   have nL:=h f rD;obtain ⟨i1,i2⟩:=xB hf fs (fun g hg=>h g (uK _ hg));have hs:∀ y∈(f :: fs).flatMap aT,y<256:=fun y hy=>by
    rw [List.flatMap_cons] at hy;rcases sN.1 hy with hy | hy
    ·exact nL.KH hf y hy
    ·exact i2 y hy
   have hl:=nL.len;have ho:=pV (ae:=65536) nL.dF nL.af nL.key (by omega) (by decide) (fs.flatMap aT);refine ⟨?_,hs⟩;rw [dX _ _ _ hs,List.flatMap_cons,ho,if_neg (show ¬ (0:Nat)=90 by decide),if_neg (show ¬ (0:Nat)≠0 by decide)]
   show (f :: (all ((aT f++fs.flatMap aT).drop (aC.size f)) (!c.af) 65536).1,_)=_
   rw [show (aT f++fs.flatMap aT).drop (aC.size f)=fs.flatMap aT from by
    rw [← jk f (by omega) nL.key,List.drop_left],i1]
def Zq (l:Lg):Prop:=l.aK=[]∧l.tail=[]∧l.aQ=[]∧l.rest=[]
theorem quiet_of (h:Ok c l) (ho:1≤c.ah) (hr:l.aK=[]):Zq l:=by
 have ht:l.tail=[]:=DI fun e=>by
  have:=h.set.1 e;rw [hr] at this;simp at this;omega
 obtain ⟨h1,h2⟩:=h.set.2 ht;exact ⟨hr,ht,h1,h2⟩
structure rC (l m:Lg):Prop where
 dA:m.dA=l.dA
 ag:m.ag=l.ag
 bO:m.bO=l.bO
 ci:m.ci=l.ci
 ms:m.ms=l.ms
theorem oU (c:Cf):∀ (n:Nat) (l:Lg),rC l (mv c n l)∧(mv c n l).am=l.am∧(mv c n l).bX=l.bX∧(mv c n l).gy=l.gy
 | 0,l=>⟨⟨rfl,rfl,rfl,rfl,rfl⟩,rfl,rfl,rfl⟩
 | n+1,l=>by
   unfold mv;split
   ·exact ⟨⟨rfl,rfl,rfl,rfl,rfl⟩,rfl,rfl,rfl⟩
   ·split
    ·obtain ⟨k,h1,h2,h3⟩:=oU c n (put c {fill c l with aQ:=_} _)
     exact ⟨⟨k.dA,k.ag,k.bO,k.ci,k.ms⟩,h1,h2,h3⟩
    ·obtain ⟨k,h1,h2,h3⟩:=oU c n (put c {fill c l with rest:=_} _)
     exact ⟨⟨k.dA,k.ag,k.bO,k.ci,k.ms⟩,h1,h2,h3⟩
    ·exact ⟨⟨rfl,rfl,rfl,rfl,rfl⟩,rfl,rfl,rfl⟩
theorem jV (c:Cf) (l:Lg) (op:Int) (d:List Nat):rC l (control c l op d)∧(control c l op d).am=l.am∧(control c l op d).gy=l.gy:=by
 obtain ⟨k,h1,_,h3⟩:=oU c _ {l with aQ:=l.aQ++[gV op d]};exact ⟨⟨k.dA,k.ag,k.bO,k.ci,k.ms⟩,h1,h3⟩
theorem O1 (c:Cf) (l:Lg) (d:List Nat):rC l (lV c l d)∧(lV c l d).am=l.am∧(lV c l d).gy=l.gy:=by
 unfold lV;split
 ·exact ⟨⟨rfl,rfl,rfl,rfl,rfl⟩,rfl,rfl⟩
 ·split
  ·obtain ⟨k,h1,_,h3⟩:=oU c _ {l with aQ:=kV d l.aQ}
   exact ⟨⟨k.dA,k.ag,k.bO,k.ci,k.ms⟩,h1,h3⟩
  ·exact jV c l 10 d
theorem jm (c:Cf) (l:Lg) (ao:Int) (de:List Nat):rC l (bU c l ao de).1:=by
 unfold bU;split
 ·exact ⟨rfl,rfl,rfl,rfl,rfl⟩
 ·obtain ⟨k,_⟩:=jV c {l with am:=true,rest:=[],gy:=(eY ao de).1} 8 (eY ao de).1
  exact ⟨k.dA,k.ag,k.bO,k.ci,k.ms⟩
theorem Cm (c:Cf) (l:Lg) (ao:Int) (hc:ao=0∨dS ao=true):(bU c l ao []).1.am=true∧(l.am=false→(bU c l ao []).1.gy=(eY ao []).1):=by
 have hp:(eY ao []).2=0:=by
  rcases hc with rfl | hc
  ·rfl
  ·rw [aG.wo hc (ku _) rfl]
 unfold bU;by_cases hs:l.am=true
 ·rw [if_pos (.inl hs)]
  exact ⟨hs,fun e=>absurd (e.symm.trans hs) (by decide)⟩
 ·rw [if_neg (fun e=>e.elim hs (fun e=>e hp))]
  obtain ⟨_,h1,h2⟩:=jV c {l with am:=true,rest:=[],gy:=(eY ao []).1} 8 (eY ao []).1;exact ⟨h1,fun _=>h2⟩
theorem vI (c:Cf) (l:Lg) (x:Ev):(bV c l x).ag=l.ag∧(bV c l x).bO=l.bO∧(bV c l x).ci=l.ci∧(bV c l x).ms=l.ms∧(bV c l x).dA=(l.dA||decide (x.op=8))∧(x.op≠8→(bV c l x).am=l.am∧(bV c l x).gy=l.gy)∧(x.op=8→(bV c l x).am=true∧(l.am=false→(bV c l x).gy=(eY (bI x.ao) []).1)):=by
 unfold bV;by_cases h9:x.op=9
 ·rw [if_pos h9]
  obtain ⟨k,h1,h2⟩:=O1 c l x.data;exact ⟨k.ag,k.bO,k.ci,k.ms,by rw [k.dA,h9];simp,fun _=>⟨h1,h2⟩,fun e=>by omega⟩
 ·rw [if_neg h9]
  by_cases h8:x.op=8
  ·rw [if_pos h8]
   have k:=jm c {l with dA:=true} (bI x.ao) [];have hv:=Cm c {l with dA:=true} (bI x.ao) (aG.FC x.ao);exact ⟨k.ag,k.bO,k.ci,k.ms,by rw [k.dA,h8];simp,fun e=>absurd h8 e,fun _=>hv⟩
  ·rw [if_neg h8]
   exact ⟨rfl,rfl,rfl,rfl,by simp [h8],fun _=>⟨rfl,rfl⟩,fun e=>absurd e h8⟩
theorem nR (c:Cf):∀ (xs:List Ev) (l:Lg),(xs.foldl (bV c) l).ag=l.ag∧(xs.foldl (bV c) l).bO=l.bO∧(xs.foldl (bV c) l).ci=l.ci∧(xs.foldl (bV c) l).ms=l.ms∧(xs.foldl (bV c) l).dA=(l.dA||xs.any (fun x=>decide (x.op=8)))
 | [],l=>⟨rfl,rfl,rfl,rfl,by simp⟩
 | x :: xs,l=>by
   obtain ⟨r1,r2,r3,r4,r5,_⟩:=vI c l x;obtain ⟨i1,i2,i3,i4,i5⟩:=nR c xs (bV c l x);refine ⟨i1.trans r1,i2.trans r2,i3.trans r3,i4.trans r4,?_⟩;rw [QG,i5,r5,List.any_cons,Bool.or_assoc]
theorem yQ (ae:Int) {st:Ms} (h0:st.aL=false) (h8:st.cg=true→st.op≠8) (f:Fr):((aA.step ae st f).2.toList.any fun x=>decide (x.op=8))=(aA.step ae st f).1.aL:=by
 unfold aA.step;by_cases a1:dF f=false
 ·rw [if_pos a1];rfl
 rw [if_neg a1];by_cases a2:f.op=9∨f.op=10
 ·rw [if_pos a2]
  rcases a2 with e | e<;>simp [e,h0]
 rw [if_neg a2];by_cases a3:f.op=8
 ·rw [if_pos a3]
  by_cases a4:(iy f.data).2.2=0
  ·rw [if_pos a4];simp [aA.done]
  ·rw [if_neg a4];rfl
 rw [if_neg a3];by_cases a4:decide (f.op=0)≠st.cg
 ·rw [if_pos a4];rfl
 have ib:dF f=true:=by simpa using a1
 have cY:f.op=0∨f.op=1∨f.op=2:=by
  rcases (aC.eF ib).1 with h | h
  ·omega
  ·omega
 rw [if_neg a4];unfold aA.dY;by_cases a5:ae<((st.aT++f.data).length:Int)
 ·rw [if_pos a5];rfl
 rw [if_neg a5];obtain ⟨o,ho⟩:∃ o,(if st.cg=true then st.op else f.op)=o:=⟨_,rfl⟩;have L3:o≠8:=by
  rw [← ho];by_cases hb:st.cg=true
  ·rw [if_pos hb];exact h8 hb
  ·rw [if_neg hb];exact a3
 rw [ho];by_cases a6:aA.wu o f.aN (st.aT++f.data)=false
 ·rw [if_pos a6];rfl
 rw [if_neg a6];by_cases a7:f.aN=true
 ·rw [if_pos a7];simp [L3,M0]
 ·rw [if_neg a7];rfl
theorem IP {ae:Int} (hm:0≤ae):∀ (fs:List Fr) {st:Ms},aA.vP ae st→st.bj=0→st.aL=false→(∀ f∈fs,∀ y∈f.data,y<256)→((run ae st fs).2.any fun x=>decide (x.op=8))=(run ae st fs).1.aL
 | [],st,_,_,h0,_=>by show false=st.aL;exact h0.symm
 | f :: fs,st,hf,he,h0,hs=>by
   rw [jv,List.any_append];have eQ:aA.take ae st f=aA.step ae st f:=aA.oL ae he h0 f;have h1:=yQ ae h0 (fun hb=>by rcases hf.op hb with e | e<;>omega) f;have oE:=aA.nV hm (f:=f) hf (hs f rD);rw [eQ] at oE ⊢
   show (((aA.step ae st f).2.toList.any fun x=>decide (x.op=8))||_)=(run ae (aA.step ae st f).1 fs).1.aL
   rw [h1];by_cases hx:(aA.step ae st f).1.bj≠0∨(aA.step ae st f).1.aL=true
   ·rw [jw ae hx];simp
   ·have Fy:(aA.step ae st f).1.bj=0:=DI fun e=>hx (.inl e)
    have ym:(aA.step ae st f).1.aL=false:=by simpa using fun e=>hx (.inr e)
    rw [ym,Bool.false_or];exact IP hm fs oE Fy ym (fun g hg=>hs g (uK _ hg))
theorem EM (c:Cf):∀ (xs:List Ev) (l:Lg),(xs.foldl (bV c) l).am=(l.am||xs.any (fun x=>decide (x.op=8)))∧(l.am=false→(xs.foldl (bV c) l).am=true→∃ k,(xs.foldl (bV c) l).gy=(eY (bI k) []).1)∧(l.am=true→(∀ x∈xs,x.op=8→True)→(xs.foldl (bV c) l).am=true)
 | [],l=>⟨by simp,fun h1 h2=>absurd (h1.symm.trans h2) (by decide),fun h _=>h⟩
 | x :: xs,l=>by
   obtain ⟨_,_,_,_,_,r6,r7⟩:=vI c l x;obtain ⟨i1,i2,i3⟩:=EM c xs (bV c l x);by_cases h8:x.op=8
   ·obtain ⟨s1,s2⟩:=r7 h8
    have L4:(xs.foldl (bV c) (bV c l x)).am=true:=by rw [i1,s1,Bool.true_or]
    refine ⟨by rw [QG,L4];simp [h8],fun h1 _=>?_,fun _ _=>L4⟩;have hl:=mc c xs (bV c l x) s1;exact ⟨x.ao,by rw [QG,hl,s2 h1]⟩
   ·obtain ⟨s1,s2⟩:=r6 h8
    refine ⟨by rw [QG,i1,s1];simp [h8],fun h1 h2=>?_,fun h1 _=>by rw [QG,i1,s1,h1,Bool.true_or]⟩;exact i2 (by rw [s1];exact h1) h2
where
 mc (c:Cf):∀ (xs:List Ev) (l:Lg),l.am=true→(xs.foldl (bV c) l).gy=l.gy
  | [],_,_=>rfl
  | x :: xs,l,h=>by
    have hr:bV c l x=l∨bV c l x={l with dA:=true}:=by
     unfold bV;split
     ·unfold lV;rw [if_pos h];exact .inl rfl
     ·split
      ·unfold bU;rw [if_pos (.inl h)];exact .inr rfl
      ·exact .inl rfl
    rcases hr with e | e
    ·rw [QG,e];exact mc c xs l h
    ·rw [QG,e];exact mc c xs {l with dA:=true} h
structure jO (c:Cf) (l:Lg):Prop where
 dA:l.dA=false
 ag:l.ag=0
 ci:l.ci=0
 bj:l.ms.bj=0
 aL:l.ms.aL=false
 yo:aA.vP (c.bh:Int) l.ms
 left:(one l.bO c.af (bQ c:Int)).2.2=90
 fO:∀ y∈l.bO,y<256
theorem KI (c:Cf) (d:Nat):jO c (L0 d):=⟨rfl,rfl,rfl,rfl,rfl,aA.JS (by omega),rfl,fun y hy=>absurd hy pJ⟩
theorem uh (af:Bool) (ae:Int):∀ (k:Nat) (s:List Nat),s.length≤k→(∀ y∈s,y<256)→∀ f∈(all s af ae).1,∀ y∈f.data,y<256
 | 0,s,h,hs,f,hf=>by
   obtain rfl:s=[]:=yA (by omega);exact absurd hf pJ
 | k+1,s,h,hs,f,hf=>by
   by_cases h1:(one s af ae).2.2=90
   ·rw [dX s af ae hs,if_pos h1] at hf;exact absurd hf pJ
   by_cases h2:(one s af ae).2.2≠0
   ·rw [dX s af ae hs,if_neg h1,if_pos h2] at hf;exact absurd hf pJ
   rw [dX s af ae hs,if_neg h1,if_neg h2] at hf;have h0:(one s af ae).2.2=0:=DI h2;have hl:=aV.qH hs h0;rcases DN.1 hf with hf | hf
   ·obtain ⟨⟨g,n,e⟩,ho⟩:∃ r,one s af ae=r:=⟨_,rfl⟩
    rw [ho] at h0 hf;simp only at h0;subst h0;have hg:=aC.JQ hs (aV.J9 ho).1;rw [hf];exact hg.2.2.2.2.2.2.1
   ·exact uh af ae k (s.drop (one s af ae).2.1) (by rw [iP];omega) (fun y hy=>hs y (Ef hy)) f hf
theorem qN (h:jO c l) (b:List Nat) (hb:∀ y∈b,y<256) :
 (iM c l b).1.dA=(dJ c l b).ms.aL∧(iM c l b).1.ag=jX c l b∧(iM c l b).1.bO=(dJ c l b).bO∧(iM c l b).1.ci=(dJ c l b).ci∧(iM c l b).1.ms=(dJ c l b).ms∧(iM c l b).2=(rY c l b).filter (fun x=>decide (x.op≠9)) ∧
 (iM c l b).1.am=(l.am||(dJ c l b).ms.aL||decide (jX c l b≠0))∧aA.vP (c.bh:Int) (dJ c l b).ms:=by
 have hs:∀ y∈l.bO++b,y<256:=fun y hy=>by
  rcases sN.1 hy with hy | hy
  ·exact h.fO y hy
  ·exact hb y hy
 have fk:=uh c.af (bQ c:Int) _ (l.bO++b) (aY _) hs;have eJ:(rY c l b).any (fun x=>decide (x.op=8))=(dJ c l b).ms.aL:=IP (by omega) _ h.yo h.bj h.aL fk;have km:aA.vP (c.bh:Int) (dJ c l b).ms:=aA.wE (by omega) _ h.yo fk;obtain ⟨k1,k2,k3,k4,k5⟩:=nR c (rY c l b) (dJ c l b);obtain ⟨s1,_,_⟩:=EM c (rY c l b) (dJ c l b);have fh:¬ (l.dA=true∨l.ag≠0):=fun e=>by
  rcases e with e | e
  ·rw [h.dA] at e;cases e
  ·exact e h.ag
 have Dm:((rY c l b).foldl (bV c) (dJ c l b)).dA=(dJ c l b).ms.aL:=by rw [k5,eJ];show (l.dA||_)=_;rw [h.dA,Bool.false_or]
 have lR:((rY c l b).foldl (bV c) (dJ c l b)).am=(l.am||(dJ c l b).ms.aL):=by rw [s1,eJ];rfl
 have cE:((rY c l b).foldl (bV c) (dJ c l b)).ag=0:=k1.trans h.ag;unfold iM;rw [if_neg fh];by_cases he:jX c l b≠0
 ·have k:=jm c {(rY c l b).foldl (bV c) (dJ c l b) with ag:=jX c l b} (dI (jX c l b:Int)) []
  have hv:=(Cm c {(rY c l b).foldl (bV c) (dJ c l b) with ag:=jX c l b} (dI (jX c l b:Int)) (.inr (aG.JR _))).1;simp only [if_pos he];exact ⟨k.dA.trans Dm,k.ag,k.bO.trans k2,k.ci.trans k3,k.ms.trans k4,trivial,by unfold fail;rw [hv,iG he,Bool.or_true],km⟩
 ·simp only [if_neg he]
  have ur:jX c l b=0:=DI he;exact ⟨Dm,cE.trans ur.symm,k2,k3,k4,trivial,by rw [lR,iQ he,Bool.or_false],km⟩
theorem KJ (h:jO c l) (b:List Nat) (hb:∀ y∈b,y<256) (he:jX c l b=0) (ho:(dJ c l b).ms.aL=false):jO c (iM c l b).1:=by
 obtain ⟨f1,f2,f3,f4,f5,_,_,f8⟩:=qN h b hb;have hs:∀ y∈l.bO++b,y<256:=fun y hy=>by
  rcases sN.1 hy with hy | hy
  ·exact h.fO y hy
  ·exact hb y hy
 have L5:(dJ c l b).ms.bj=0:=DI fun e=>by
  unfold jX at he;rw [if_pos e] at he;exact e he
 have ve:(dJ c l b).ci=0:=by
  unfold jX at he;rwa [if_neg (fun e=>e L5),if_neg (by rw [ho];decide)] at he
 have Zr:(all (l.bO++b) c.af (bQ c:Int)).2.1=0:=ve;have vt:(dJ c l b).bO=(l.bO++b).drop ((l.bO++b).length-(all (l.bO++b) c.af (bQ c:Int)).2.2):=by show (if _ then _ else _)=_;rw [if_pos Zr]
 refine ⟨f1.trans ho,f2.trans he,f4.trans ve,by rw [f5];exact L5,by rw [f5];exact ho,by rw [f5];exact f8,?_,?_⟩
 ·rw [f3,vt];exact rM c.af (bQ c:Int) _ _ (aY _) hs Zr
 ·rw [f3,vt];exact fun y hy=>hs y (Ef hy)
theorem qc (b:List Nat) (h:l.dA=true∨l.ag≠0):iM c l b=(l,[]):=by
 unfold iM;rw [if_pos h]
end
open aC (size)
open aV (MF)
open aA (gG)
section
variable {c:Cf} {l m:Lg}
def wt (f:Fr):Nat:=14+f.data.length
def uj (l:List Fr):Nat:=(l.map wt).sum
theorem xC (f:Fr) (l:List Fr):uj (f :: l)=wt f+uj l:=rfl
theorem KL (a b:List Fr):uj (a++b)=uj a+uj b:=by simp [uj]
theorem GG (f:Fr):size f≤14+f.data.length:=by
 unfold size
 repeat' split
 all_goals omega
def IQ (l:Lg):Nat:=l.aK.length+l.tail.length+uj l.aQ+uj l.rest
theorem EN (c:Cf) (l:Lg):(fill c l).aK.length+(fill c l).tail.length=l.aK.length+l.tail.length:=by
 show (l.aK++l.tail.take _).length+(l.tail.drop _).length=_
 rw [jB,kQ,iP];omega
theorem EO (c:Cf) (l:Lg):(fill c l).tail.length≤l.tail.length:=by
 show (l.tail.drop _).length≤_
 rw [iP];omega
theorem AU {f:Fr} (h:AQ c f) (hf:c.bR≤65536):(aT f).length≤14+f.data.length:=by
 rw [jk f (by have:=h.len;omega) h.key];exact GG f
theorem GH (c:Cf) (hf:c.bR≤65536) (T:Nat) (hT:14+max c.bR 125≤T):∀ (n:Nat) (l:Lg),(∀ f∈l.aQ,D5 f)→(∀ f∈l.rest,Aj c.bR f)→l.tail.length≤T →
 IQ (mv c n l)≤IQ l∧(mv c n l).tail.length≤T∧∃ k,(mv c n l).aQ=l.aQ.drop k
 | 0,l,_,_,h=>⟨by have:=EN c l;show (fill c l).aK.length+(fill c l).tail.length+uj l.aQ+uj l.rest≤l.aK.length+l.tail.length+uj l.aQ+uj l.rest;omega,jd (EO c l) h,0,rfl⟩
 | n+1,l,hC,hR,h=>by
   have hfp:=EN c l;have hft:=EO c l;have stop:IQ (fill c l)≤IQ l∧(fill c l).tail.length≤T∧∃ k,(fill c l).aQ=l.aQ.drop k:=⟨by show (fill c l).aK.length+_+uj l.aQ+uj l.rest≤l.aK.length+_+uj l.aQ+uj l.rest;omega,by omega,0,rfl⟩;unfold mv;by_cases ht:(fill c l).tail≠[]
   ·rw [if_pos ht];exact stop
   ·rw [if_neg ht]
    have mL:(fill c l).tail=[]:=DI ht;rw [mL] at hfp;cases hc:l.aQ with
    | cons f cs =>
      have rS:D5 f:=hC f (by rw [hc];exact rD);have ho:=rS.ah (c:=c) (dD c (fill c l).bu);have hl:=AU ho hf;rw [(oG _ _ _).2.1] at hl;have:=rS.len;obtain ⟨i1,i2,k,i3⟩:=GH c hf T hT n (put c {fill c l with aQ:=cs} f) (fun g hg=>hC g (by rw [hc];exact uK _ hg)) hR (by show (aT _).length≤T;exact jd hl (by omega));refine ⟨jd i1 ?_,i2,k+1,by rw [WY];exact i3⟩
      show (fill c l).aK.length+(aT _).length+uj cs+uj l.rest≤l.aK.length+l.tail.length+uj l.aQ+uj l.rest
      rw [hc,xC];unfold wt;have hl':(aT (dN c (dD c (fill c l).bu) f)).length≤14+f.data.length:=hl;simp only [Eg,Nat.add_zero] at hfp
      show (fill c l).aK.length+(aT (dN c (dD c (fill c l).bu) f)).length+uj cs+uj l.rest≤_
      omega
    | nil =>
      cases hr:l.rest with
      | cons f r =>
        have fk:Aj c.bR f:=hR f (by rw [hr];exact rD);have ho:=fk.ah (c:=c) (dD c (fill c l).bu);have hl:=AU ho hf;rw [(oG _ _ _).2.1] at hl;have:=fk.len;obtain ⟨i1,i2,k,i3⟩:=GH c hf T hT n (put c {fill c l with rest:=r} f) hC (fun g hg=>hR g (by rw [hr];exact uK _ hg)) (by show (aT _).length≤T;exact jd hl (by omega));refine ⟨jd i1 ?_,i2,k,i3.trans (by show l.aQ.drop k=_;rw [hc])⟩;have hl':(aT (dN c (dD c (fill c l).bu) f)).length≤14+f.data.length:=hl;simp only [Eg,Nat.add_zero] at hfp
        show (fill c l).aK.length+(aT (dN c (dD c (fill c l).bu) f)).length+uj l.aQ+uj r≤l.aK.length+l.tail.length+uj l.aQ+uj l.rest
        rw [hr,xC];unfold wt;omega
      | nil=>exact ⟨stop.1,stop.2.1,0,by show l.aQ=_;rw [hc];rfl⟩
theorem TE (hf:c.bR≤65536) (hC:∀ f∈l.aQ,D5 f) (hR:∀ f∈l.rest,Aj c.bR f) (ht:l.tail.length≤14+max c.bR 125):IQ (move c l)≤IQ l∧(move c l).tail.length≤14+max c.bR 125∧∃ k,(move c l).aQ=l.aQ.drop k:=GH c hf _ (aY _) _ l hC hR ht
theorem TG (xs:List Nat):(aO.bK xs).2.1≤9∧((aO.bK xs).2.2=80→xs.length≤8):=by
 cases xs with
 | nil=>exact ⟨by decide,fun _=>by decide⟩
 | cons x xs =>
   rw [aO.bK];split
   ·exact ⟨by simp,fun h=>by simp at h⟩
   split
   ·split
    ·exact ⟨by simp,fun _=>by simp;omega⟩
    split
    ·exact ⟨by simp,fun h=>by simp at h⟩
    ·exact ⟨by simp,fun h=>by simp at h⟩
   split
   ·exact ⟨by simp,fun h=>by simp at h⟩
   split
   ·exact ⟨by simp,fun h=>by simp at h⟩
   split
   ·exact ⟨by simp,fun _=>by simp;omega⟩
   ·exact ⟨by simp,fun h=>by simp at h⟩
theorem MZ {s:List Nat} {af:Bool} {ae:Int} (hm:0≤ae) (h:(one s af ae).2.2=90):(s.length:Int)≤13+ae:=by
 cases s with
 | nil=>simp;omega
 | cons x xs =>
   rw [aV.iR] at h;by_cases h1:aC.gG x=true
   ·rw [if_pos h1] at h;exact absurd h (by decide)
   rw [if_neg h1] at h;by_cases h2:0<xs.length∧decide (128≤xs.getD 0 0)≠af
   ·rw [if_pos h2] at h;exact absurd h (by decide)
   rw [if_neg h2,aV.wP,if_neg h1] at h;obtain ⟨k1,k2⟩:=TG xs;by_cases h3:0<xs.length∧8≤x % 16∧125<xs.getD 0 0 % 128
   ·rw [if_pos h3] at h;exact absurd h (by decide)
   rw [if_neg h3] at h;by_cases h4:(aO.bK xs).2.2=81
   ·rw [if_pos h4] at h;exact absurd h (by decide)
   rw [if_neg h4] at h;by_cases h5:(aO.bK xs).2.2=80
   ·have:=k2 h5
    simp;omega
   rw [if_neg h5] at h;by_cases h6:ae<((aO.bK xs).1:Int)
   ·rw [if_pos h6] at h;exact absurd h (by decide)
   rw [if_neg h6] at h;unfold aC.rest at h;have hl:(xs.drop (aO.bK xs).2.1).length=xs.length-(aO.bK xs).2.1:=iP ..;rw [hl] at h;simp only [jE];split at h
   ·split at h
    ·omega
    ·simp at h
   ·split at h
    ·omega
    ·simp at h
structure bM (c:Cf) (l:Lg):Prop where
 bO:l.bO.length≤13+bQ c
 aT:l.ms.aT.length≤c.bh
theorem rC.kept (k:rC l m) (h:bM c l):bM c m:=⟨by rw [k.bO];exact h.bO,by rw [k.ms];exact h.aT⟩
theorem jO.kept (h:jO c l):bM c l:=⟨by have:=MZ (by omega) h.left;omega,by have:=h.yo.ae;omega⟩
theorem EP (h:jO c l) (b:List Nat) (hb:∀ y∈b,y<256):bM c (iM c l b).1:=by
 obtain ⟨_,_,f3,_,f5,_,_,f8⟩:=qN h b hb;have hs:∀ y∈l.bO++b,y<256:=fun y hy=>by
  rcases sN.1 hy with hy | hy
  ·exact h.fO y hy
  ·exact hb y hy
 refine ⟨?_,by rw [f5];have:=f8.ae;omega⟩;rw [f3]
 show (if _ then _ else _:List Nat).length≤_
 split
 ·next he =>
  have:=MZ (by omega) (rM c.af (bQ c:Int) _ _ (aY _) hs he);omega
 ·exact ku _
def In (c:Cf) (l:Lg):Prop:=jO c l∨((l.dA=true∨l.ag≠0)∧bM c l)
theorem In.kept (h:In c l):bM c l:=h.elim jO.kept And.right
theorem VL (c:Cf) (d:Nat):In c (L0 d):=.inl (KI c d)
theorem VM (k:rC l m) (h:In c l):In c m:=by
 rcases h with h | ⟨h1,h2⟩
 ·exact .inl ⟨k.dA.trans h.dA,k.ag.trans h.ag,k.ci.trans h.ci,by rw [k.ms];exact h.bj,by rw [k.ms];exact h.aL,by rw [k.ms];exact h.yo,by rw [k.bO];exact h.left,by rw [k.bO];exact h.fO⟩
 ·exact .inr ⟨by rw [k.dA,k.ag];exact h1,k.kept h2⟩
theorem VN (h:In c l) (b:List Nat) (hb:∀ y∈b,y<256):In c (iM c l b).1:=by
 rcases h with h | ⟨h1,h2⟩
 ·by_cases he:jX c l b=0
  ·cases ho:(dJ c l b).ms.aL with
   | false=>exact .inl (KJ h b hb he ho)
   | true=>exact .inr ⟨.inl ((qN h b hb).1.trans ho),EP h b hb⟩
  ·exact .inr ⟨.inr (by rw [(qN h b hb).2.1];exact he),EP h b hb⟩
 ·rw [qc b h1];exact .inr ⟨h1,h2⟩
theorem ER (c:Cf) (l:Lg):rC l (move c l):=(oU c _ l).1
theorem yR (c:Cf) (l:Lg) (op:Int) (t:List Nat):rC l (send c l op t).1:=by
 unfold send;split
 ·have k:=ER c {l with rest:=jr c.bR op t,bX:=l.bX++[(op,t)]}
  exact ⟨k.dA,k.ag,k.bO,k.ci,k.ms⟩
 ·exact ⟨rfl,rfl,rfl,rfl,rfl⟩
theorem yS (c:Cf) (l:Lg) (d:List Nat):rC l (jW c l d).1:=by
 unfold jW;split
 ·exact ⟨rfl,rfl,rfl,rfl,rfl⟩
 ·exact (jV c l 9 d).1
theorem yT (c:Cf) (l:Lg) (n:Int):rC l (jD c l n).1:=by
 have k:=ER c {l with cj:=l.cj++l.aK.take n.toNat,aK:=l.aK.drop n.toNat};exact ⟨k.dA,k.ag,k.bO,k.ci,k.ms⟩
end
section
variable {l:Lg} {c:Cf} {k:Nat}
theorem Na {ae:Nat} (hm:1≤ae):∀ (n:Nat) (op:Int) (t:List Nat),t.length≤n→uj (jr ae op t)≤14+15*t.length
 | 0,op,t,h=>by
   rw [cO.jH (by omega)]
   show 14+t.length+0≤_
   omega
 | n+1,op,t,h=>by
   by_cases h1:t.length≤ae
   ·rw [cO.jH h1]
    show 14+t.length+0≤_
    omega
   ·rw [cO.mY hm h1,xC]
    have:=Na hm n 0 (t.drop ae) (by rw [iP];omega);rw [iP] at this;unfold wt;rw [kQ];omega
theorem TI (l:List Fr) (k:Nat):uj (l.drop k)≤uj l:=by
 have:=KL (l.take k) (l.drop k);rw [Ee] at this;omega
theorem IU (d:List Nat):∀ l:List Fr,(kV d l).length=l.length
 | []=>rfl
 | f :: l=>by
   unfold kV;split
   ·rfl
   ·rw [jE,IU d l,jE]
def iD (l:List Fr):Nat:=(l.filter fun f=>decide (f.op=10)).length
def fB (l:List Fr):Nat:=(l.filter fun f=>!decide (f.op=10)).length
theorem Nb (l:List Fr):l.length=iD l+fB l:=by
 unfold iD fB
 induction l with
 | nil=>rfl
 | cons f l ih =>
   rw [List.filter_cons,List.filter_cons,jE];by_cases h:f.op=10
   ·rw [if_pos (by simp [h]),if_neg (by simp [h]),jE];omega
   ·rw [if_neg (by simp [h]),if_pos (by simp [h]),jE];omega
theorem KN (l:List Fr) (k:Nat):iD (l.drop k)≤iD l:=((List.drop_sublist k l).filter _).length_le
theorem IV (l:List Fr) (k:Nat):fB (l.drop k)≤fB l:=((List.drop_sublist k l).filter _).length_le
theorem xE (a b:List Fr):iD (a++b)=iD a+iD b:=by unfold iD;rw [List.filter_append,jB]
theorem uP (a b:List Fr):fB (a++b)=fB a+fB b:=by unfold fB;rw [List.filter_append,jB]
theorem CB (d:List Nat):∀ l:List Fr,iD (kV d l)=iD l∧fB (kV d l)=fB l
 | []=>⟨rfl,rfl⟩
 | f :: l=>by
   obtain ⟨i1,i2⟩:=CB d l;have c1:∀ (g:Fr) (l:List Fr),iD (g :: l)=iD [g]+iD l:=fun g l=>xE [g] l
   have c2:∀ (g:Fr) (l:List Fr),fB (g :: l)=fB [g]+fB l:=fun g l=>uP [g] l
   unfold kV;by_cases h:f.op=10
   ·rw [if_pos h]
    have e1:iD [{f with data:=d}]=iD [f]:=by unfold iD;simp [h]
    have e2:fB [{f with data:=d}]=fB [f]:=by unfold fB;simp [h]
    exact ⟨by rw [c1,e1,← c1],by rw [c2,e2,← c2]⟩
   ·rw [if_neg h]
    exact ⟨by rw [c1,i1,← c1],by rw [c2,i2,← c2]⟩
theorem TJ {l:List Fr} (h:¬ (l.any fun f=>decide (f.op=10))=true):iD l=0:=by
 unfold iD;rw [List.filter_eq_nil_iff.2 (fun f hf e=>h (List.any_eq_true.2 ⟨f,hf,e⟩))];rfl
structure kN (c:Cf) (l:Lg) (k:Nat):Prop where
 ok:Ok c l
 tail:l.tail.length≤14+max c.bR 125
 iD:iD l.aQ≤1
 fB:fB l.aQ≤k+l.am.toNat
 rest:uj l.rest≤14+15*c.bh
theorem IW (b:Bool):b.toNat≤1:=by cases b<;>decide
theorem kN.mono {j:Nat} (h:kN c l k) (hj:k≤j):kN c l j:=⟨h.ok,h.tail,h.iD,by have:=h.fB;omega,h.rest⟩
theorem TM (c:Cf) (d:Nat):kN c (L0 d) 0:=⟨VG c d,ku _,ku _,ku _,ku _⟩
theorem xG (hf:c.bR≤65536) (ep:Ok c (move c l)) (hi:lC c l) (ht:l.tail.length≤14+max c.bR 125) (hp:aj.iD l.aQ≤1) (hk:aj.fB l.aQ≤k+l.am.toNat) (hr:uj l.rest≤14+15*c.bh):kN c (move c l) k:=by
 obtain ⟨_,p2,j,p3⟩:=TE hf hi.aQ hi.rest ht;have sm:=(xu hi).2;obtain ⟨i,hi⟩:=sm.rest;refine ⟨ep,p2,by rw [p3];exact jd (KN _ _) hp,by rw [p3,sm.am];exact jd (IV _ _) hk,?_⟩;rw [hi];exact jd (TI _ _) hr
theorem IX (hf:c.bR≤65536) (h:kN c l k) (n:Int):kN c (jD c l n).1 k:=by
 have ep:=VK h.ok n;refine xG hf ep ⟨?_,h.ok.eB.bE,h.ok.eB.aQ,h.ok.eB.rest,?_⟩ h.tail h.iD h.fB h.rest
 ·show l.cj++l.aK.take n.toNat++l.aK.drop n.toNat++l.tail=_
  rw [Ae l.cj,Ee];exact h.ok.eB.bytes
 ·show (l.aK.drop n.toNat).length≤_
  rw [iP];have:=h.ok.eB.aK;omega
theorem IY (hf:c.bR≤65536) (hm:1≤c.bR) (h:kN c l k) (op:Int) (t:List Nat) (hs:∀ y∈t,y<256):kN c (send c l op t).1 k:=by
 have ep:=VJ hm h.ok op t hs;unfold send at ep ⊢;by_cases hc:free l=true∧(op=1∨op=2)∧t.length≤c.bh
 ·rw [if_pos hc] at ep ⊢
  have hR:=qM (c:=c) hm hc.2.1 t hs;refine xG hf ep ⟨h.ok.eB.bytes,h.ok.eB.bE,h.ok.eB.aQ,hR,h.ok.eB.aK⟩ h.tail h.iD h.fB ?_;have:=Na hm _ op t (aY _)
  show uj (jr c.bR op t)≤_
  have:=hc.2.2;omega
 ·rw [if_neg hc];exact h
theorem su (hf:c.bR≤65536) (hi:lC c l) (ht:l.tail.length≤14+max c.bR 125) (hr:uj l.rest≤14+15*c.bh) (op:Int) (ho:op=8∨op=9∨op=10) (d:List Nat) (hd:d.length≤125) (hs:∀ y∈d,y<256) (ep:Ok c (control c l op d)) (hp:aj.iD l.aQ+aj.iD [gV op d]≤1) (hk:aj.fB l.aQ+aj.fB [gV op d]≤k+l.am.toNat):kN c (control c l op d) k:=by
 have hC:∀ f∈l.aQ++[gV op d],D5 f:=fun f hf=>by
  rcases sN.1 hf with hf | hf
  ·exact hi.aQ f hf
  ·rw [uF] at hf
   rw [hf];exact ⟨rfl,ho,rfl,rfl,hd,hs⟩
 exact xG hf ep ⟨hi.bytes,hi.bE,hC,hi.rest,hi.aK⟩ ht (by show aj.iD (l.aQ++[_])≤1;rw [xE];exact hp) (by show aj.fB (l.aQ++[_])≤_;rw [uP];exact hk) hr
theorem IZ (hf:c.bR≤65536) (h:kN c l k) (d:List Nat) (hs:∀ y∈d,y<256):kN c (jW c l d).1 (k+1):=by
 have ep:=VI h.ok d hs;unfold jW at ep ⊢;by_cases hc:l.am=true∨l.dA=true∨l.ag≠0∨125<d.length
 ·rw [if_pos hc];exact h.mono (by omega)
 ·rw [if_neg hc] at ep ⊢
  exact su hf h.ok.eB h.tail h.rest 9 (.inr (.inl rfl)) d (by omega) hs ep h.iD (by have:=h.fB;show _+1≤_;omega)
theorem qg (hf:c.bR≤65536) (h:kN c l k) (ao:Int) (de:List Nat) (hw:∀ y∈de,y<256):kN c (bU c l ao de).1 k:=by
 have ep:=TC h.ok ao de hw;unfold bU at ep ⊢;by_cases hc:l.am=true∨(eY ao de).2≠0
 ·rw [if_pos hc];exact h
 ·rw [if_neg hc] at ep ⊢
  have hp:(eY ao de).2=0:=DI fun e=>hc (.inr e)
  have pi:l.am=false:=by simpa using fun e=>hc (.inl e)
  obtain ⟨s,Zp⟩:=zX ((eY ao de).1);have xe:eY ao de=(s,0):=by rw [← Zp,← hp]
  have bt:=(aG.sW xe).1;have bB:=aG.je hw xe;rw [Zp] at ep ⊢;refine su (l:={l with am:=true,rest:=[],gy:=s}) hf ⟨h.ok.eB.bytes,h.ok.eB.bE,h.ok.eB.aQ,fun f hf=>absurd hf pJ,h.ok.eB.aK⟩ h.tail (ku _) 8 (.inl rfl) s bt bB ep h.iD ?_;have:=h.fB;rw [pi] at this;exact Nat.add_le_add_right this 1
theorem sD {m:Lg} (h:kN c l k) (ep:Ok c m) (h1:m.tail=l.tail∧m.aQ=l.aQ∧m.rest=l.rest∧m.am=l.am):kN c m k:=by
 obtain ⟨e1,e2,e3,e4⟩:=h1;exact ⟨ep,by rw [e1];exact h.tail,by rw [e2];exact h.iD,by rw [e2,e4];exact h.fB,by rw [e3];exact h.rest⟩
theorem I4 (hf:c.bR≤65536) (h:kN c l k) (d:List Nat) (hd:d.length≤125) (hs:∀ y∈d,y<256):kN c (lV c l d) k:=by
 have ep:=VH h.ok d hd hs;unfold lV at ep ⊢;by_cases kp:l.am=true
 ·rw [if_pos kp];exact h
 rw [if_neg kp] at ep ⊢;by_cases hp:l.aQ.any (fun f=>decide (f.op=10))=true
 ·rw [if_pos hp] at ep ⊢
  obtain ⟨r1,r2⟩:=CB d l.aQ;refine xG hf ep ⟨h.ok.eB.bytes,h.ok.eB.bE,fun f hf=>?_,h.ok.eB.rest,h.ok.eB.aK⟩ h.tail (by show aj.iD (kV d l.aQ)≤1;rw [r1];exact h.iD) (by show aj.fB (kV d l.aQ)≤_;rw [r2];exact h.fB) h.rest;rcases rZ hf with ⟨g,h1,h2,rfl⟩ | h1
  ·have:=h.ok.eB.aQ g h1
   exact ⟨this.aN,.inr (.inr h2),this.af,this.key,hd,hs⟩
  ·exact h.ok.eB.aQ f h1
 ·rw [if_neg hp] at ep ⊢
  exact su hf h.ok.eB h.tail h.rest 10 (.inr (.inr rfl)) d hd hs ep (by rw [TJ hp];exact aY _) h.fB
theorem ET (hf:c.bR≤65536) (h:kN c l k) (x:Ev) (hx:x.op=9→x.data.length≤125) (hs:∀ y∈x.data,y<256):kN c (bV c l x) k:=by
 unfold bV;by_cases h9:x.op=9
 ·rw [if_pos h9];exact I4 hf h x.data (hx h9) hs
 ·rw [if_neg h9]
  by_cases h8:x.op=8
  ·rw [if_pos h8]
   exact qg hf (sD (m:={l with dA:=true}) h (zJ h.ok ⟨rfl,rfl,rfl,rfl,rfl,rfl,rfl,rfl,rfl⟩) ⟨rfl,rfl,rfl,rfl⟩) _ _ (fun y hy=>absurd hy pJ)
  ·rw [if_neg h8];exact h
theorem I5 (hf:c.bR≤65536):∀ (xs:List Ev) {l:Lg},kN c l k→(∀ x∈xs,(x.op=9→x.data.length≤125)∧∀ y∈x.data,y<256)→kN c (xs.foldl (bV c) l) k
 | [],_,h,_=>h
 | x :: xs,_,h,hx=>I5 hf xs (ET hf h x (hx x rD).1 (hx x rD).2) (fun y hy=>hx y (uK _ hy))
theorem TN (hf:c.bR≤65536) (h:kN c l k) (b:List Nat) (hx:∀ x∈rY c l b,(x.op=9→x.data.length≤125)∧∀ y∈x.data,y<256):kN c (iM c l b).1 k:=by
 unfold iM;by_cases hg:l.dA=true∨l.ag≠0
 ·rw [if_pos hg];exact h
 ·rw [if_neg hg]
  have h2:=I5 hf (rY c l b) (sD (m:=dJ c l b) h (zJ h.ok ⟨rfl,rfl,rfl,rfl,rfl,rfl,rfl,rfl,rfl⟩) ⟨rfl,rfl,rfl,rfl⟩) hx
  show kN c (if jX c l b≠0 then _ else _) k
  split
  ·exact qg hf (sD (m:={(rY c l b).foldl (bV c) (dJ c l b) with ag:=jX c l b}) h2 (zJ h2.ok ⟨rfl,rfl,rfl,rfl,rfl,rfl,rfl,rfl,rfl⟩) ⟨rfl,rfl,rfl,rfl⟩) _ _ (fun y hy=>absurd hy pJ)
  ·exact h2
end
open aA (vP)
theorem yU (s:List Nat):(iy s).2.1=[]∨(iy s).2.1=s.drop 2:=by
 match s with
 | []=>exact .inl rfl
 | [_]=>exact .inl rfl
 | x :: y :: l =>
   rw [aG.vZ];split
   ·exact .inl rfl
   ·split
    ·exact .inl rfl
    ·exact .inr rfl
theorem I7 (ae:Int) {st:Ms} (hf:vP ae st) {f:Fr} (hs:∀ y∈f.data,y<256):∀ x∈(aA.step ae st f).2.toList,(x.op=9→x.data.length≤125)∧∀ y∈x.data,y<256:=by
 unfold aA.step;by_cases a1:dF f=false
 ·rw [if_pos a1];exact fun x hx=>absurd hx pJ
 rw [if_neg a1];have ib:dF f=true:=by simpa using a1
 by_cases a2:f.op=9∨f.op=10
 ·rw [if_pos a2]
  intro x hx;have hx:x∈[_]:=hx;rw [uF] at hx;rw [hx];refine ⟨fun _=>?_,hs⟩;rcases (eF ib).1 with h | h
  ·omega
  ·exact h.2.2.2
 rw [if_neg a2];by_cases a3:f.op=8
 ·rw [if_pos a3]
  by_cases a4:(iy f.data).2.2=0
  ·rw [if_pos a4]
   intro x hx;have hx:x∈[_]:=hx;rw [uF] at hx;rw [hx];refine ⟨fun e=>absurd (show (8:Int)=9 from e) (by decide),fun y hy=>?_⟩;rcases yU f.data with e | e
   ·have hy:y∈(iy f.data).2.1:=hy
    rw [e] at hy;exact absurd hy pJ
   ·have hy:y∈(iy f.data).2.1:=hy
    rw [e] at hy;exact hs y (Ef hy)
  ·rw [if_neg a4];exact fun x hx=>absurd hx pJ
 rw [if_neg a3];by_cases a4:decide (f.op=0)≠st.cg
 ·rw [if_pos a4];exact fun x hx=>absurd hx pJ
 rw [if_neg a4];obtain ⟨o,ho⟩:∃ o,(if st.cg=true then st.op else f.op)=o:=⟨_,rfl⟩;have It:o≠9:=by
  rw [← ho];by_cases hb:st.cg=true
  ·rw [if_pos hb];rcases hf.op hb with h | h<;>omega
  ·rw [if_neg hb];omega
 rw [ho];unfold aA.dY;split
 ·exact fun x hx=>absurd hx pJ
 split
 ·exact fun x hx=>absurd hx pJ
 split
 ·intro x hx
  have hx:x∈[_]:=hx;rw [uF] at hx;rw [hx];refine ⟨fun e=>absurd e It,fun y hy=>?_⟩
  ·rcases sN.1 hy with hy | hy
   ·exact hf.fO y hy
   ·exact hs y hy
 ·exact fun x hx=>absurd hx pJ
theorem GK {ae:Int} (hm:0≤ae):∀ (fs:List Fr) {st:Ms},vP ae st→(∀ f∈fs,∀ y∈f.data,y<256)→∀ x∈(run ae st fs).2,(x.op=9→x.data.length≤125)∧∀ y∈x.data,y<256
 | [],_,_,_,x,hx=>absurd hx pJ
 | f :: fs,st,hf,hs,x,hx=>by
   rw [jv] at hx;have oE:=aA.nV hm (f:=f) hf (hs f rD);rcases sN.1 hx with hx | hx
   ·unfold aA.take at hx
    split at hx
    ·exact absurd hx pJ
    ·exact I7 ae hf (hs f rD) x hx
   ·exact GK hm fs oE (fun g hg=>hs g (uK _ hg)) x hx
theorem O4 {c:Cf} {l:Lg} (h:jO c l) (b:List Nat) (hb:∀ y∈b,y<256):∀ x∈rY c l b,(x.op=9→x.data.length≤125)∧∀ y∈x.data,y<256:=by
 have hs:∀ y∈l.bO++b,y<256:=fun y hy=>by
  rcases sN.1 hy with hy | hy
  ·exact h.fO y hy
  ·exact hb y hy
 exact GK (by omega) _ h.yo (uh c.af (bQ c:Int) _ (l.bO++b) (aY _) hs)
section
variable {c:Cf} {l:Lg} {k j:Nat}
structure iI (c:Cf):Prop where
 o1:1≤c.ah
 o2:c.ah≤65536
 m1:1≤c.bh
 m2:c.bh≤65536
 f1:1≤c.bR
 f2:c.bR≤65536
structure jY (c:Cf) (l:Lg) (k:Nat):Prop where
 rq:kN c l k
 Xa:In c l
 gm:l.dA=l.ms.aL
 op:l.am=false→l.dA=false∧l.ag=0
theorem jY.mono (h:jY c l k) (hj:k≤j):jY c l j:=⟨h.rq.mono hj,h.Xa,h.gm,h.op⟩
theorem O5 (c:Cf) (d:Nat):jY c (L0 d) 0:=⟨TM c d,VL c d,rfl,fun _=>⟨rfl,rfl⟩⟩
theorem jY.Nc (h:jY c l k) (hg:l.dA=false) (hw:l.ag=0):jO c l:=by
 rcases h.Xa with h1 | ⟨h1,_⟩
 ·exact h1
 ·rcases h1 with h1 | h1
  ·rw [hg] at h1;cases h1
  ·exact absurd hw h1
theorem uk {m:Lg} (h:jY c l k) (hk:rC l m) (hf:kN c m j) (hs:m.am=false→l.am=false):jY c m j :=
 ⟨hf,VM hk h.Xa,by rw [hk.dA,hk.ms];exact h.gm,fun e=>by rw [hk.dA,hk.ag];exact h.op (hs e)⟩
theorem O6 (c:Cf) (l:Lg) (op:Int) (t:List Nat):(send c l op t).1.am=l.am:=by
 unfold send;split
 ·exact (oU c _ {l with rest:=jr c.bR op t,bX:=l.bX++[(op,t)]}).2.1
 ·rfl
theorem O7 (c:Cf) (l:Lg) (d:List Nat):(jW c l d).1.am=l.am:=by
 unfold jW;split
 ·rfl
 ·exact (jV c l 9 d).2.1
theorem O8 (c:Cf) (l:Lg) (n:Int):(jD c l n).1.am=l.am:=(oU c _ {l with cj:=l.cj++l.aK.take n.toNat,aK:=l.aK.drop n.toNat}).2.1
theorem TO (c:Cf) (l:Lg) (ao:Int) (w:List Nat) (h:(bU c l ao w).1.am=false):l.am=false:=by
 unfold bU at h;split at h
 ·exact h
 ·rw [(jV c {l with am:=true,rest:=[],gy:=(eY ao w).1} 8 (eY ao w).1).2.1] at h
  cases h
theorem O9 (hc:iI c) (h:jY c l k) (op:Int) (t:List Nat) (hs:∀ y∈t,y<256):jY c (send c l op t).1 k :=
 uk h (yR c l op t) (IY hc.f2 hc.f1 h.rq op t hs) (fun e=>by rw [O6] at e;exact e)
theorem Pg (hc:iI c) (h:jY c l k) (d:List Nat) (hs:∀ y∈d,y<256):jY c (jW c l d).1 (k+1) :=
 uk h (yS c l d) (IZ hc.f2 h.rq d hs) (fun e=>by rw [O7] at e;exact e)
theorem KO (hc:iI c) (h:jY c l k) (ao:Int) (w:List Nat) (hs:∀ y∈w,y<256):jY c (bU c l ao w).1 k :=
 uk h (jm c l ao w) (qg hc.f2 h.rq ao w hs) (TO c l ao w)
theorem Ph (hc:iI c) (h:jY c l k) (n:Int):jY c (jD c l n).1 k :=
 uk h (yT c l n) (IX hc.f2 h.rq n) (fun e=>by rw [O8] at e;exact e)
theorem Pj (hc:iI c) (h:jY c l k) (b:List Nat) (hb:∀ y∈b,y<256):jY c (iM c l b).1 k:=by
 by_cases hx:l.dA=true∨l.ag≠0
 ·rw [qc b hx];exact h
 ·have hg:l.dA=false:=by simpa using fun e=>hx (.inl e)
  have hw:l.ag=0:=DI fun e=>hx (.inr e)
  have hr:=h.Nc hg hw;obtain ⟨f1,f2,_,_,f5,_,f7,_⟩:=qN hr b hb;refine ⟨TN hc.f2 h.rq b (O4 hr b hb),VN h.Xa b hb,by rw [f1,f5],fun e=>?_⟩;rw [f7] at e;simp only [Xk,JI,Classical.not_not] at e;exact ⟨f1.trans e.1.2,f2.trans e.2⟩
theorem jY.cases (h:jY c l k):(l.dA=true∨l.ag≠0)∨(l.dA=false∧l.ag=0∧jO c l):=by
 by_cases hx:l.dA=true∨l.ag≠0
 ·exact .inl hx
 ·have hg:l.dA=false:=by simpa using fun e=>hx (.inl e)
  have hw:l.ag=0:=DI fun e=>hx (.inr e)
  exact .inr ⟨hg,hw,h.Nc hg hw⟩
theorem jY.free (h:jY c l k):free l=(!l.am&&l.rest.isEmpty):=by
 unfold aj.free;cases hs:l.am with
 | true=>rfl
 | false =>
   obtain ⟨h1,h2⟩:=h.op hs;rw [h1,h2];rfl
theorem jY.TP (h:kN c l k):l.aQ.length≤k+2:=by
 have h1:=Nb l.aQ;have h2:=h.iD;have h3:=h.fB;have h4:=IW l.am;omega
theorem Nh {ae:Nat} (hm:1≤ae):∀ (n:Nat) (op:Int) (t:List Nat),t.length≤n→(jr ae op t).length≤t.length+1
 | 0,op,t,h=>by rw [cO.jH (by omega)];simp
 | n+1,op,t,h=>by
   by_cases h1:t.length≤ae
   ·rw [cO.jH h1];simp
   ·rw [cO.mY hm h1,jE]
    have:=Nh hm n 0 (t.drop ae) (by rw [iP];omega);rw [iP] at this;omega
theorem VO (h:kN c l k):l.rest.length≤14+15*c.bh:=by
 have h1:∀ l:List Fr,l.length≤uj l:=fun l=>by
  induction l with
  | nil=>exact aY _
  | cons f l ih=>rw [xC,jE];unfold wt;omega
 exact jd (h1 _) h.rest
end
def jZ (c:Cf):Ms→Lg→List Ev→List Fr→Lg×List Ev×Bool
 | _,l,ah,[]=>(l,ah,false)
 | st,l,ah,f :: fs =>
   if (aA.step (c.bh:Int) st f).1.bj≠0 then (fail c l (aA.step (c.bh:Int) st f).1.bj,ah,true)
   else match (aA.step (c.bh:Int) st f).2 with
    | none=>jZ c (aA.step (c.bh:Int) st f).1 l ah fs
    | some x =>
      if x.op=9 then jZ c (aA.step (c.bh:Int) st f).1 (lV c l x.data) ah fs
      else if x.op=8 then ((bU c {l with dA:=true} (bI x.ao) []).1,ah++[x],true)
      else jZ c (aA.step (c.bh:Int) st f).1 l (ah++[x]) fs
theorem uq (c:Cf):∀ (fs:List Fr) (st:Ms) (l:Lg) (ah:List Ev),st.bj=0→st.aL=false→vP (c.bh:Int) st→(∀ f∈fs,∀ y∈f.data,y<256) →
 jZ c st l ah fs=((if (run (c.bh:Int) st fs).1.bj≠0 then fail c ((run (c.bh:Int) st fs).2.foldl (bV c) l) (run (c.bh:Int) st fs).1.bj else (run (c.bh:Int) st fs).2.foldl (bV c) l),ah++(run (c.bh:Int) st fs).2.filter (fun x=>decide (x.op≠9)),decide ((run (c.bh:Int) st fs).1.bj≠0∨(run (c.bh:Int) st fs).1.aL=true))
 | [],st,l,ah,he,ho,_,_=>by
   unfold jZ
   show (l,ah,false)=((if st.bj≠0 then fail c l st.bj else l),ah++[],decide (st.bj≠0∨st.aL=true))
   rw [if_neg (fun e=>e he),yC,he,ho];rfl
 | f :: fs,st,l,ah,he,ho,hf,hs=>by
   have eQ:aA.take (c.bh:Int) st f=aA.step (c.bh:Int) st f:=aA.oL (c.bh:Int) he ho f;have h8:=yQ (c.bh:Int) ho (fun hb=>by rcases hf.op hb with e | e<;>omega) f;have oE:=aA.nV (by omega:(0:Int)≤(c.bh:Int)) (f:=f) hf (hs f rD);have ve:=aA.wF (ae:=(c.bh:Int)) (f:=f) he;rw [eQ] at oE;have lR:∀ g∈fs,∀ y∈g.data,y<256:=fun g hg=>hs g (uK _ hg)
   unfold jZ;rw [jv,eQ];obtain ⟨⟨s',x⟩,hr⟩:∃ r,aA.step (c.bh:Int) st f=r:=⟨_,rfl⟩;rw [hr] at h8 oE ve ⊢;simp only at h8 oE ve ⊢;by_cases h1:s'.bj≠0
   ·rw [if_pos h1]
    have hx:x=none:=DI fun e=>h1 (ve e)
    subst hx;rw [jw _ (.inl h1)];simp [h1]
   ·rw [if_neg h1]
    have rj:s'.bj=0:=DI h1;cases x with
    | none =>
      have IT:s'.aL=false:=h8.symm;simp only;rw [uq c fs s' l ah rj IT oE lR];simp
    | some y =>
      have IT:decide (y.op=8)=s'.aL:=by simpa using h8
      simp only;by_cases a9:y.op=9
      ·rw [if_pos a9]
       have Yd:s'.aL=false:=by rw [← IT,a9];rfl
       rw [uq c fs s' (lV c l y.data) ah rj Yd oE lR];have ZW:bV c l y=lV c l y.data:=by unfold bV;rw [if_pos a9]
       simp [ZW,a9]
      ·rw [if_neg a9]
       by_cases a8:y.op=8
       ·rw [if_pos a8]
        have Yd:s'.aL=true:=by rw [← IT,a8];rfl
        rw [jw _ (.inr Yd)];have ZW:bV c l y=(bU c {l with dA:=true} (bI y.ao) []).1:=by unfold bV;rw [if_neg a9,if_pos a8]
        simp [ZW,a9,rj,Yd]
       ·rw [if_neg a8]
        have Yd:s'.aL=false:=by rw [← IT];exact iQ a8
        rw [uq c fs s' l (ah++[y]) rj Yd oE lR];have ZW:bV c l y=l:=by unfold bV;rw [if_neg a9,if_neg a8]
        simp [ZW,a9]
section
variable {l:Lg} {c:Cf} {k:Nat}
theorem JA (c:Cf) {d:Nat} (h:d<4294967296):dD c d<4294967296:=by
 unfold dD next;split<;>omega
theorem qV (c:Cf):∀ (n:Nat) (l:Lg),l.bu<4294967296→(mv c n l).bu<4294967296
 | 0,_,h=>h
 | n+1,l,h=>by
   unfold mv;split
   ·exact h
   ·split
    ·exact qV c n _ (JA c h)
    ·exact qV c n _ (JA c h)
    ·exact h
theorem yt (c:Cf) (h:l.bu<4294967296) (op:Int) (d:List Nat):(control c l op d).bu<4294967296:=qV c _ _ h
theorem Qs (c:Cf) (h:l.bu<4294967296) (d:List Nat):(jW c l d).1.bu<4294967296:=by
 unfold jW;split
 ·exact h
 ·exact yt c h 9 d
theorem Qu (c:Cf) (h:l.bu<4294967296) (op:Int) (t:List Nat):(send c l op t).1.bu<4294967296:=by
 unfold send;split
 ·exact qV c _ _ h
 ·exact h
theorem Dt (c:Cf) (h:l.bu<4294967296) (ao:Int) (w:List Nat):(bU c l ao w).1.bu<4294967296:=by
 unfold bU;split
 ·exact h
 ·exact qV c _ _ h
theorem Qv (c:Cf) (h:l.bu<4294967296) (n:Int):(jD c l n).1.bu<4294967296:=qV c _ _ h
theorem Qw (c:Cf) (h:l.bu<4294967296) (d:List Nat):(lV c l d).bu<4294967296:=by
 unfold lV;split
 ·exact h
 ·split
  ·exact qV c _ _ h
  ·exact yt c h 10 d
theorem Qx (c:Cf) (h:l.bu<4294967296) (e:Nat):(fail c l e).bu<4294967296:=Dt c (l:={l with ag:=e}) h _ _
theorem UB (hf:c.bR≤65536) (h:kN c l k) (e:Nat):kN c (fail c l e) k :=
 qg hf (sD (m:={l with ag:=e}) h (zJ h.ok ⟨rfl,rfl,rfl,rfl,rfl,rfl,rfl,rfl,rfl⟩) ⟨rfl,rfl,rfl,rfl⟩) _ [] (fun _ hy=>absurd hy pJ)
theorem NF (h:kN c l k):l.aQ.length≤k+2:=by
 rw [Nb];have:=h.iD;have:=h.fB;have:=IW l.am;omega
end
end aj
namespace Go.Proofs.YtlahonjmfecikaaGreatDoor.jo
open Go.RowKit jS
open aC (Fr dn)
open aj (Cf Lg)
open jG (bM)
section
variable {S:Nat→Prop} {e f:Fr} {base k p L:Nat} {m:Lg} {W W':World} {l:List Fr} {cP kv' cQ:Value}
def iF (W:World) (base:Nat) (v:Value) (l:List Fr):Prop :=
 (v=.slice none 0 0∧l=[])∨∃ (g off cap:Nat) (cs:Array Value),v=.slice (some ⟨g,off,none⟩) l.length cap∧0<l.length∧base≤g∧W.heap[g]? = some (.cells cs 61 (0,0))∧l.length≤cap∧cap≤maxLen∧off+cap*8≤cs.size∧∀ j u,(rO l)[j]? = some u→cs[off+j]? = some u
theorem sF (W:World) (base:Nat):iF W base (.slice none 0 0) []:=.inl ⟨rfl,rfl⟩
section
variable {W W':World} {base:Nat} {v:Value} {l:List Fr}
theorem iF.heap (h:iF W base v l) {g:Nat} (hg:v.ownBlock=some g):base≤g∧∃ cs,W.heap[g]? = some (.cells cs 61 (0,0)):=by
 rcases h with ⟨rfl,_⟩ | ⟨k,off,cap,cs,rfl,_,hb,hh,_⟩
 ·cases hg
 ·obtain rfl:k=g:=by simpa [Value.ownBlock] using hg
  exact ⟨hb,cs,hh⟩
theorem iF.lt (h:iF W base v l) {g:Nat} (hg:v.ownBlock=some g):g<W.heap.size:=by
 obtain ⟨_,cs,hc⟩:=h.heap hg;exact (zl hc)
theorem iF.block (h:iF W base v l) (hb:∀ g,v.ownBlock=some g→W'.heap[g]? = W.heap[g]?):iF W' base v l:=by
 rcases h with h | ⟨g,off,cap,cs,rfl,h1,h2,h3,h4⟩
 ·exact .inl h
 ·exact .inr ⟨g,off,cap,cs,rfl,h1,h2,by rw [hb g rfl];exact h3,h4⟩
theorem iF.below (h:iF W base v l) (k:Below W.heap.size W W'):iF W' base v l:=h.block fun _ hg=>k.block _ (h.lt hg)
theorem iF.kept (h:iF W base v l) (k:bM S W W') (hn:∀ g,v.ownBlock=some g→¬ S g):iF W' base v l:=h.block fun g hg=>k.block g (h.lt hg) (hn g hg)
theorem iF.grown (h:iF W base v l) {r:Option Nat} (k:W.grownBy W' r) (hn:∀ g,v.ownBlock=some g→some g≠r):iF W' base v l:=h.block fun g hg=>k.block g (h.lt hg) (hn g hg)
theorem iF.slice (h:iF W base v l):∃ a c,v=.slice a l.length c:=by
 rcases h with ⟨rfl,rfl⟩ | ⟨g,off,cap,cs,rfl,_⟩
 ·exact ⟨_,_,rfl⟩
 ·exact ⟨_,_,rfl⟩
theorem iF.nil (h:iF W base v []):v=.slice none 0 0:=by
 rcases h with ⟨rfl,_⟩ | ⟨_,_,_,_,_,hp,_⟩
 ·rfl
 ·exact absurd hp (JK 0)
theorem iF.one (h:iF W base v (e :: l)):∃ g off cap,v=.slice (some ⟨g,off,none⟩) (l.length+1) cap∧l.length+1≤cap:=by
 rcases h with ⟨_,h⟩ | ⟨g,off,cap,cs,rfl,_,_,_,h4,_⟩
 ·cases h
 ·exact ⟨g,off,cap,rfl,h4⟩
theorem iF.jr (h:iF W base v l):aS W v l:=by
 rcases h with ⟨rfl,rfl⟩ | ⟨g,off,cap,cs,rfl,h1,h2,h3,h4,h5,h6,h7⟩
 ·exact ⟨none,0,0,0,rfl,aY _,fun h=>absurd h (JK _),fun _ hi=>absurd hi (Fz _)⟩
 ·refine ⟨some ⟨g,off,none⟩,cap,g,off,rfl,h4,fun _=>rfl,fun i hi j hj=>?_⟩
  obtain ⟨u,hu⟩:=wQ (l.getD i dn) j hj;have k:=qI l i hi j hj;rw [hu] at k ⊢;rw [jg _ _ _ _ _ _ h3,UO];exact h7 _ _ k
theorem iF.kind (h:iF W base v l) {g:Nat} {cs:Array Value} {t:TypeId} (hg:W.heap[g]? = some (.cells cs t (0,0))) (ht:t≠61):v.ownBlock≠some g:=fun e=>by
 obtain ⟨_,rx,h2⟩:=h.heap e;rw [hg] at h2;injection h2 with h2
 injection h2 with _ h3
 exact ht h3
end
theorem iF.add {Z:World} {v x:Value} {m:List Fr} (ef:iF Z base v m) (hx:aS Z x [e]) (hl:m.length+1≤1000000) (eE:base≤Z.heap.size) :
 ∃ v1 w1,(Builtin.append_ #[34,34] 34 #[v,x]).run prog Z=.ok v1 w1∧iF w1 base v1 (m++[e])∧Z.grownBy w1 v.ownBlock∧(v1.ownBlock=v.ownBlock∨v1.ownBlock=some Z.heap.size):=by
 obtain ⟨i0,kn,ic,eI,dz⟩:=info43;obtain ⟨ad,cap,sb,so,rfl,db,mx,bL⟩:=hx;obtain rfl:=mx (Nat.zero_lt_one);have nA:(rO [e]).length=[e].length*i0.size:=by rw [eG,eI]
 have ky:∀ j u,(rO [e])[j]? = some u→Z.cell? ((⟨sb,so,none⟩:Addr).add j)=some u:=fun j u hu=>by
  obtain ⟨hi,h⟩:=RZ hu;have g1:=bL _ hi (j % 8) (by omega);rw [DD,← h,← g1];congr 2;omega
 have Zt:maxLen=9223372036854775807:=rfl;rcases ef with ⟨rfl,rfl⟩ | ⟨g,off,c,cs,rfl,h1,h2,h3,h4,h5,h6,h7⟩
 ·have hr:=run_append_nil (P:=prog) Z 34 34 61 i0 _ underlying34 kn ic ⟨sb,so,none⟩ [e].length cap (rO [e]) nA ky (by simp) (by simp) (by rw [dz];simp)
  refine ⟨_,_,hr,.inr ⟨Z.heap.size,0,_,_,rfl,by simp,eE,heap_alloc_new Z.drew _,grownCap_ge _ _ _ _,grownCap_le_maxLen _ _ _ _ (by simp [Zt]),?_,fun j u hu=>?_⟩,⟨rfl,rfl,rfl,by simp,fun k hk _=>gJ Z.drew _ k hk⟩,.inr rfl⟩
  ·have:=grownCap_ge Z [e].length 0 61
   rw [Array.size_append,UN,size_zeroCells,eG]
   show 0+_*8≤1*8+_*8
   simp only [Fv] at this ⊢;omega
  ·rw [vT,Array.getElem?_append_left (by rw [UN];exact (LV.1 hu).1),Ed]
   exact hu
 ·have holds:∀ j u,(rO m)[j]? = some u→Z.cell? ((⟨g,off,none⟩:Addr).add j)=some u:=fun j u hu=>by
   rw [DD,jg _ _ _ _ _ _ h3];exact h7 j u hu
  have Ax:(rO m).length=m.length*i0.size:=by rw [eG,eI]
  have Pd:cs.toList.length=cs.size:=Array.length_toList;by_cases hroom:m.length+1≤c
  ·have eQ:=run_storeCells_at prog g (off+m.length*8) 61 (rO [e]) 0 cs Z h3 (by rw [eG];simp only [Fv];omega) MG
   have hf:=run_firstCells_some (P:=prog) Z i0.size [e].length ⟨sb,so,none⟩ [e].length cap (rO [e]) nA ky;refine ⟨.slice (some ⟨g,off,none⟩) (m++[e]).length c,Z.setRow g (cs.toList.take (off+m.length*8)++rO [e]++cs.toList.drop (off+m.length*8+(rO [e]).length)).toArray,?_,.inr ⟨g,off,c,_,rfl,by simp,h2,gY Z g cs _ 61 _ h3,by simpa using hroom,h5,?_,fun j u hu=>?_⟩,⟨rfl,rfl,rfl,by simp,fun k _ hk=>qC Z g k _ (fun e=>hk (by simp [Value.ownBlock,e]))⟩,.inl rfl⟩
   ·simp only [Nat.add_zero] at eQ
    rw [eI] at hf;simp only [Fv] at hf;simp [Builtin.append_,run_underlying underlying34,sizeOf,typeInfo,kn,eI,Builtin.lenOf,hroom,hf,Addr.add_lit];rw [Ae] at eQ;simp [eQ]
   ·rw [UN,jB,jB,kQ,iP,Pd,eG]
    simp only [Fv];omega
   ·have hj:=(LV.1 hu).1
    rw [oh,jB,eG,eG] at hj;simp only [Fv] at hj;rw [oh] at hu;rw [Ed,Ae];by_cases bz:j<m.length*8
    ·rw [Ec (by rw [kQ,Pd];omega),NP (by omega)]
     rw [Ec (by rw [eG];exact bz)] at hu;rw [Array.getElem?_toList];exact h7 j u hu
    ·rw [QC (by rw [kQ,Pd];omega),kQ,Pd]
     rw [QC (by rw [eG];omega),eG] at hu;rw [show off+j-min (off+m.length*8) cs.size=j-m.length*8 from by omega];rw [Ec (by rw [eG];simp only [Fv];omega)];exact hu
  ·have hr:=run_append_grow (P:=prog) Z 34 34 61 i0 _ underlying34 kn ic ⟨g,off,none⟩ m.length c (rO m) Ax holds ⟨sb,so,none⟩ [e].length cap (rO [e]) nA ky (by simp only [Fv];omega) (by simp only [Fv];omega) (growslice_fits (by simp only [Fv];omega) (by rw [dz];simp only [Fv];omega))
   refine ⟨_,_,hr,.inr ⟨Z.heap.size,0,grownCap Z (m.length+[e].length) c 61,_,by rw [jB],by simp,eE,heap_alloc_new Z.drew _,by rw [jB];exact grownCap_ge _ _ _ _,grownCap_le_maxLen _ _ _ _ (by rw [Zt];simp only [Fv];omega),?_,fun j u hu=>?_⟩,⟨rfl,rfl,rfl,by simp,fun k hk _=>gJ Z.drew _ k hk⟩,.inr rfl⟩
   ·have:=grownCap_ge Z (m.length+[e].length) c 61
    rw [Array.size_append,Array.size_append,UN,UN,size_zeroCells,eG,eG]
    show 0+_*8≤m.length*8+1*8+_*8
    simp only [Fv] at this ⊢;omega
   ·have hj:=(LV.1 hu).1
    rw [oh,jB] at hj;rw [vT,Array.getElem?_append_left (by rw [Array.size_append,UN,UN];exact hj),List.append_toArray,Ed,← oh];exact hu
theorem zN:∀ (vs:List Value) (o:Nat) (cs:List Value),(iL.eP cs o vs).length=cs.length
 | [],_,_=>rfl
 | v :: vs,o,cs=>by rw [iL.eP,zN vs (o+1) (cs.set o v),QM]
theorem CJ:∀ (vs:List Value) (o k:Nat) (cs:List Value),k<o∨o+vs.length≤k→(iL.eP cs o vs)[k]? = cs[k]?
 | [],_,_,_,_=>rfl
 | v :: vs,o,k,cs,h=>by
   rw [jE] at h;rw [iL.eP,CJ vs (o+1) k (cs.set o v) (by omega),List.getElem?_set_ne (by omega)]
theorem iF.range {g off n cap:Nat} (h:iF W base (.slice (some ⟨g,off,none⟩) n cap) (f :: l)):W.rangeAt g off (cv f)∧W.there g off 8:=by
 rcases h with ⟨_,h⟩ | ⟨g',Zu,c,cs,hv,h1,h2,h3,h4,h5,h6,h7⟩
 ·cases h
 ·injection hv with e1 e2 e3
  injection e1 with e1
  injection e1 with e4 e5
  subst e3 e4 e5;have hc:∀ j,j<8→∃ u,(cv f)[j]? = some u∧W.cell? ⟨g,off+j,none⟩=some u:=fun j hj=>by
   obtain ⟨u,hu⟩:=wQ f j hj;refine ⟨u,hu,?_⟩;rw [jg _ _ _ _ _ _ h3];exact h7 j u (by rw [lQ,Ec (by simpa [cv] using hj)];exact hu)
  refine ⟨fun j u hu=>?_,fun j hj=>⟨?_,kT _ _ _ _ _ h3⟩⟩
  ·have hj:j<8:=by have:=(LV.1 hu).1;simpa [cv] using this
   obtain ⟨u',hu',GF⟩:=hc j hj;rw [hu] at hu';injection hu' with hu'
   rw [hu'];exact GF
  ·obtain ⟨u,_,GF⟩:=hc j hj
   rw [GF];rfl
def I8:List Value:=[.bool false,.int .i64 0,.bool false,.int .u8 0,.int .u8 0,.int .u8 0,.int .u8 0,.string {data:=#[]}]
theorem iF.Zv {g off n cap:Nat} (h:iF W base (.slice (some ⟨g,off,none⟩) n cap) (f :: l)) :
 W.grownBy (W.setCells g off I8) (some g)∧(0<l.length→iF (W.setCells g off I8) base (.slice (some ⟨g,off+8,none⟩) l.length (cap-1)) l):=by
 refine ⟨jJ g _ _ _,fun hp=>?_⟩;rcases h with ⟨_,h⟩ | ⟨g',Zu,c,cs,hv,h1,h2,h3,h4,h5,h6,h7⟩
 ·cases h
 ·injection hv with e1 e2 e3
  injection e1 with e1
  injection e1 with e4 e5
  subst e3 e4 e5;rw [jE] at h4;have hx:=iL.wW g 61 I8 off cs.toList W (by simpa using h3);refine .inr ⟨g,off+8,cap-1,_,rfl,hp,h2,hx,by omega,by omega,?_,fun j u hu=>?_⟩
  ·rw [UN,zN,Array.length_toList];omega
  ·have k:=h7 (j+8) u (by rw [lQ,QC (by simp [cv])];simpa [cv] using hu)
   rw [Ed,CJ _ _ _ _ (.inr (by show off+8≤_;omega)),Array.getElem?_toList,show off+8+j=off+(j+8) from by omega];exact k
theorem iF.VP {g off n cap:Nat} (h:iF W base (.slice (some ⟨g,off,none⟩) n cap) l) (i:Nat) (hi:i<l.length) (d:ByteArray) :
 W.grownBy (W.setCell ⟨g,off+i*8+7,none⟩ (.string d)) (some g)∧iF (W.setCell ⟨g,off+i*8+7,none⟩ (.string d)) base (.slice (some ⟨g,off,none⟩) n cap) (l.set i {l.getD i dn with data:=bytes d})∧W.frozen? ⟨g,off+i*8+7,none⟩=false∧∃ u,W.cell? ⟨g,off+i*8+7,none⟩=some u:=by
 rcases h with ⟨_,h⟩ | ⟨g',Zu,c,cs,hv,h1,h2,h3,h4,h5,h6,h7⟩
 ·rw [h] at hi;exact absurd hi (Fz _)
 ·injection hv with e1 e2 e3
  injection e1 with e1
  injection e1 with e4 e5
  subst e2 e3 e4 e5;refine ⟨aH _ _ _ _,.inr ⟨g,off,cap,_,by rw [QM],by rw [QM];exact h1,h2,lF _ _ _ _ _ _ h3,by rw [QM];exact h4,h5,by simpa using h6,fun j u hu=>?_⟩,kT _ _ _ _ _ h3,?_⟩
  ·have eh:cv {l.getD i dn with data:=bytes d}=(cv (l.getD i dn)).set 7 (.string d):=by
    rw [iL.Vx,bT]
   rw [← iL.Gp l i 7 _ _ hi (by omega) eh] at hu;rw [Array.getElem?_setIfInBounds];by_cases he:i*8+7=j
   ·subst he
    have bz:off+i*8+7<cs.size:=by omega
    rw [if_pos (by omega),if_pos (by omega)];rw [List.getElem?_set_self (by rw [eG];omega)] at hu;exact hu
   ·rw [if_neg (by omega)]
    rw [List.getElem?_set_ne he] at hu;exact h7 j u hu
  ·obtain ⟨u,hu⟩:=wQ (l.getD i dn) 7 (by omega)
   refine ⟨u,?_⟩;rw [jg _ _ _ _ _ _ h3,UO];exact h7 _ _ ((qI l i hi 7 (by omega)).trans hu)
theorem _root_.Go.Proofs.YtlahonjmfecikaaGreatDoor.jG.bM.wide {S2:Nat→Prop} (h:bM S W W') (hs:∀ k,S k→S2 k):bM S2 W W':=⟨h.os,h.tape,h.output,h.size,fun k hk hn=>h.block k hk (fun e=>hn (hs k e))⟩
def jq (W:World) (base:Nat) (v:Value) (bs:List Nat):Prop :=
 ∃ (a:Option Addr) (cap sb so:Nat),v=.slice a bs.length cap∧bs.length≤cap∧(0<bs.length→a=some ⟨sb,so,none⟩∧base≤sb)∧∀ i,i<bs.length→W.cell? ⟨sb,so+i,none⟩=some (.int .u8 ((bs.getD i 0:Nat):Int))
def qh:Value→Option Nat
 | .slice (some a) n _=>if n=0 then none else some a.block
 | _=>none
theorem lg (a:Addr) (n c:Nat):qh (.slice (some a) n c)=if n=0 then none else some a.block:=rfl
theorem I9 (W:World) (base:Nat):jq W base (.slice none 0 0) []:=⟨none,0,0,0,rfl,aY _,fun h=>absurd h (JK _),fun _ hi=>absurd hi (Fz _)⟩
section
variable {W W':World} {base:Nat} {v:Value} {bs:List Nat}
theorem jq.Ja (h:jq W base v bs) (hk:qh v=some k):0<bs.length∧base≤k∧k<W.heap.size:=by
 obtain ⟨a,cap,sb,so,rfl,h1,h2,h3⟩:=h;cases a with
 | none=>cases hk
 | some a =>
   rw [lg] at hk;by_cases hz:bs.length=0
   ·rw [if_pos hz] at hk;cases hk
   ·rw [if_neg hz] at hk
    injection hk with hk
    obtain ⟨e,hb⟩:=h2 (by omega);injection e with e
    rw [e] at hk;have hk:sb=k:=hk;subst hk;exact ⟨by omega,hb,zk (h3 0 (by omega))⟩
theorem jq.kept (h:jq W base v bs) (hk:∀ k,qh v=some k→W'.heap[k]? = W.heap[k]?):jq W' base v bs:=by
 obtain ⟨a,cap,sb,so,rfl,h1,h2,h3⟩:=h;refine ⟨a,cap,sb,so,rfl,h1,h2,fun i hi=>?_⟩;obtain ⟨e,_⟩:=h2 (by omega);have hb:W'.heap[sb]? = W.heap[sb]?:=hk sb (by rw [e,lg,if_neg (by omega)]);rw [DV (w:=W) hb];exact h3 i hi
theorem jq.slice (h:jq W base v bs):∃ a c,v=.slice a bs.length c∧bs.length≤c:=by
 obtain ⟨a,cap,sb,so,rfl,h1,_⟩:=h;exact ⟨_,_,rfl,h1⟩
theorem jq.ace (h:jq W base v bs) (hp:∀ k,qh v=some k→k≠p):kS W p v bs:=by
 obtain ⟨a,cap,sb,so,rfl,h1,h2,h3⟩:=h;exact ⟨a,cap,sb,so,rfl,h1,fun h=>(h2 h).1,fun h=>hp sb (by rw [(h2 h).1,lg,if_neg (by omega)]),h3⟩
theorem jq.from {a:Option Addr} {cap:Nat} (h:jq W base (.slice a L cap) bs) (r:Nat) (hr:r≤L):jq W base (.slice (jy a r cap) (L-r) (cap-r)) (bs.drop r)∧∀ k,qh (.slice (jy a r cap) (L-r) (cap-r))=some k→qh (.slice a L cap)=some k:=by
 obtain ⟨a',fd,sb,so,hv,h1,h2,h3⟩:=h;injection hv with e1 e2 e3
 subst e1 e2 e3;refine ⟨⟨_,_,sb,so+r,by rw [iP],by rw [iP];omega,fun hp=>?_,fun i hi=>?_⟩,fun k hk=>?_⟩
 ·rw [iP] at hp
  obtain ⟨e,hb⟩:=h2 (by omega);refine ⟨?_,hb⟩;unfold jy;rw [if_neg (by omega),e,Dy,DD]
 ·rw [iP] at hi
  rw [UO,h3 (r+i) (by omega)];congr 3;rw [iw,iw,LW]
 ·by_cases hz:bs.length-r=0
  ·exfalso
   cases hf:jy a r cap with
   | none=>rw [hf] at hk;cases hk
   | some x=>rw [hf,lg,if_pos hz] at hk;cases hk
  ·unfold jy at hk
   rw [if_neg (by omega)] at hk;obtain ⟨e,_⟩:=h2 (by omega);rw [e,Dy,DD,lg,if_neg hz] at hk;rw [e,lg,if_neg (by omega)];exact hk
end
def EU (L rb rp:Nat) (tv kv qv:Value) (k:Nat):Prop:=k=L∨k=rb∨k=rp∨qh tv=some k∨kv.ownBlock=some k∨qv.ownBlock=some k
structure bY (W W':World) (L rb rp:Nat) (tv kv qv cP kv' cQ:Value):Prop where
 kept:bM (EU L rb rp tv kv qv) W W'
 dy:∀ k,EU L rb rp cP kv' cQ k→EU L rb rp tv kv qv k∨W.heap.size≤k
theorem bY.below (L rb rp:Nat) (tv kv qv:Value) (h:Below W.heap.size W W'):bY W W' L rb rp tv kv qv tv kv qv:=⟨.below h,fun _ hk=>.inl hk⟩
theorem bY.trans {V U:World} {rb rp:Nat} {tv kv qv t1 k1 q1 t2 k2 q2:Value} (h:bY W V L rb rp tv kv qv t1 k1 q1) (k:bY V U L rb rp t1 k1 q1 t2 k2 q2):bY W U L rb rp tv kv qv t2 k2 q2 :=
 ⟨h.kept.trans k.kept (fun j hj e=>by
  rcases h.dy j e with h1 | h1
  ·exact h1
  ·omega),fun j e=>by
  rcases k.dy j e with h1 | h1
  ·exact h.dy j h1
  ·exact .inr (jd h.kept.size h1)⟩
structure bH (w0 W:World) (L sb mb rb rp:Nat) (tv kv qv:Value) (c:Cf) (l:Lg):Prop where
 X:W.heap[L]? = some (.cells #[.int .i64 (c.bh:Int),.int .i64 (c.bR:Int),.pointer (some ⟨sb,0,none⟩),.pointer (some ⟨mb,0,none⟩),.pointer (some ⟨rb,0,none⟩),tv,kv,qv,.bool (!c.af),.int .u32 (l.bu:Int),.int .i64 (l.ag:Int),.bool l.am] 80 (0,0))
 R:OT.kH W rb rp c.ah l.aK
 T:jq W w0.heap.size tv l.tail
 C:iF W w0.heap.size kv l.aQ
 D:iF W w0.heap.size qv l.rest
 B:w0.heap.size≤L∧w0.heap.size≤rb∧w0.heap.size≤rp
 tn:∀ k,qh tv=some k→k≠L∧k≠rb∧k≠rp∧kv.ownBlock≠some k∧qv.ownBlock≠some k
 cn:∀ k,kv.ownBlock=some k→qv.ownBlock≠some k
 dr:l.bu<4294967296
 low:Below w0.heap.size w0 W
section
variable {w0 W W':World} {L sb mb rb rp:Nat} {tv kv qv:Value} {c:Cf} {l:Lg}
theorem bH.qj (h:bH w0 W L sb mb rb rp tv kv qv c l):L≠rb∧L≠rp∧rb≠rp∧kv.ownBlock≠some L∧qv.ownBlock≠some L∧kv.ownBlock≠some rb∧qv.ownBlock≠some rb∧kv.ownBlock≠some rp∧qv.ownBlock≠some rp:=by
 obtain ⟨ls,a,hr,_,_⟩:=h.R;have e1:=hr.hb;have e2:=hr.hp;have hx:=h.X;have t1:∀ {g:Nat} {x y:Obj},W.heap[g]? = some x→W.heap[g]? = some y→x=y:=fun a b=>by rw [a] at b;injection b
 refine ⟨fun e=>?_,fun e=>?_,fun e=>?_,h.C.kind hx (by decide),h.D.kind hx (by decide),h.C.kind e1 (by decide),h.D.kind e1 (by decide),h.C.kind e2 (by decide),h.D.kind e2 (by decide)⟩
 ·subst e
  have:=t1 hx e1;injection this with _ this
  exact absurd this (by decide)
 ·subst e
  have:=t1 hx e2;injection this with _ this
  exact absurd this (by decide)
 ·subst e
  have:=t1 e1 e2;injection this with _ this
  exact absurd this (by decide)
theorem bH.lt (h:bH w0 W L sb mb rb rp tv kv qv c l):L<W.heap.size:=(zl h.X)
theorem bH.lu (h:bH w0 W L sb mb rb rp tv kv qv c l) (hk:EU L rb rp tv kv qv k):w0.heap.size≤k∧k<W.heap.size:=by
 rcases hk with rfl | rfl | rfl | hk | hk | hk
 ·exact ⟨h.B.1,h.lt⟩
 ·exact ⟨h.B.2.1,h.R.Ky⟩
 ·exact ⟨h.B.2.2,h.R.VE⟩
 ·exact (h.T.Ja hk).2
 ·exact ⟨(h.C.heap hk).1,h.C.lt hk⟩
 ·exact ⟨(h.D.heap hk).1,h.D.lt hk⟩
theorem um {b n:Nat} {hs:List Nat} (h:OT.kH W b p n hs) (h1:W'.heap[b]? = W.heap[b]?) (h2:W'.heap[p]? = W.heap[p]?):OT.kH W' b p n hs:=by
 obtain ⟨l,a,hr,e1,e2⟩:=h;exact ⟨l,a,⟨by rw [h1];exact hr.hb,by rw [h2];exact hr.hp,hr.ne,hr.lt,hr.le,hr.vr,hr.fO⟩,e1,e2⟩
theorem bH.pZ (h:bH w0 W L sb mb rb rp tv kv qv c l) (hk:bM S W W') (hn:∀ k,EU L rb rp tv kv qv k→¬ S k) (hL:Below w0.heap.size w0 W'):bH w0 W' L sb mb rb rp tv kv qv c l where
 X:=by rw [hk.block L h.lt (hn L (.inl rfl))];exact h.X
 R:=um h.R (hk.block rb h.R.Ky (hn rb (.inr (.inl rfl)))) (hk.block rp h.R.VE (hn rp (.inr (.inr (.inl rfl)))))
 T:=h.T.kept fun k e=>hk.block k (h.T.Ja e).2.2 (hn k (.inr (.inr (.inr (.inl e)))))
 C:=h.C.kept hk fun g e=>hn g (.inr (.inr (.inr (.inr (.inl e)))))
 D:=h.D.kept hk fun g e=>hn g (.inr (.inr (.inr (.inr (.inr e)))))
 B:=h.B
 tn:=h.tn
 cn:=h.cn
 dr:=h.dr
 low:=hL
theorem bH.below (h:bH w0 W L sb mb rb rp tv kv qv c l) (k:Below W.heap.size W W'):bH w0 W' L sb mb rb rp tv kv qv c l :=
 h.pZ (S:=fun _=>False) (.below k) (fun _ _ e=>e) (h.low.trans (k.mono h.low.size))
theorem bH.xH (h:bH w0 W L sb mb rb rp tv kv qv c l) (e1:m.aK=l.aK) (e2:m.tail=l.tail) (e3:m.aQ=l.aQ) (e4:m.rest=l.rest) (e5:m.bu=l.bu) (e6:m.ag=l.ag) (e7:m.am=l.am):bH w0 W L sb mb rb rp tv kv qv c m :=
 ⟨by rw [e5,e6,e7];exact h.X,by rw [e1];exact h.R,by rw [e2];exact h.T,by rw [e3];exact h.C,by rw [e4];exact h.D,h.B,h.tn,h.cn,by rw [e5];exact h.dr,h.low⟩
theorem bH.cells (h:bH w0 W L sb mb rb rp tv kv qv c l):W.cell? ⟨L,0,none⟩=some (.int .i64 (c.bh:Int))∧W.cell? ⟨L,1,none⟩=some (.int .i64 (c.bR:Int))∧W.cell? ⟨L,2,none⟩=some (.pointer (some ⟨sb,0,none⟩))∧W.cell? ⟨L,3,none⟩=some (.pointer (some ⟨mb,0,none⟩))∧W.cell? ⟨L,4,none⟩=some (.pointer (some ⟨rb,0,none⟩)) ∧
 W.cell? ⟨L,5,none⟩=some tv∧W.cell? ⟨L,6,none⟩=some kv∧W.cell? ⟨L,7,none⟩=some qv∧W.cell? ⟨L,8,none⟩=some (.bool (!c.af))∧W.cell? ⟨L,9,none⟩=some (.int .u32 (l.bu:Int))∧W.cell? ⟨L,10,none⟩=some (.int .i64 (l.ag:Int))∧W.cell? ⟨L,11,none⟩=some (.bool l.am):=by
 refine ⟨?_,?_,?_,?_,?_,?_,?_,?_,?_,?_,?_,?_⟩<;>(rw [jg _ _ _ _ _ _ h.X];rfl)
theorem bH.fF (h:bH w0 W L sb mb rb rp tv kv qv c l) (i:Nat):W.frozen? ⟨L,i,none⟩=false:=kT _ _ _ _ _ h.X
theorem bH.step (h:bH w0 W L sb mb rb rp tv kv qv c l) (hk:bM (fun j=>j=L∨kv.ownBlock=some j∨qv.ownBlock=some j) W W')
 (hX:W'.heap[L]? = some (.cells #[.int .i64 (c.bh:Int),.int .i64 (c.bR:Int),.pointer (some ⟨sb,0,none⟩),.pointer (some ⟨mb,0,none⟩),.pointer (some ⟨rb,0,none⟩),cP,kv',cQ,.bool (!c.af),.int .u32 (m.bu:Int),.int .i64 (m.ag:Int),.bool m.am] 80 (0,0)))
 (hr:m.aK=l.aK) (hT:jq W' w0.heap.size cP m.tail) (hC:iF W' w0.heap.size kv' m.aQ) (hD:iF W' w0.heap.size cQ m.rest) (hd:m.bu<4294967296)
 (t1:∀ k,qh cP=some k→qh tv=some k∨W.heap.size≤k) (k1:∀ k,kv'.ownBlock=some k→kv.ownBlock=some k∨W.heap.size≤k) (q1:∀ k,cQ.ownBlock=some k→qv.ownBlock=some k∨W.heap.size≤k)
 (t2:∀ k,qh cP=some k→W.heap.size≤k→kv'.ownBlock≠some k∧cQ.ownBlock≠some k) (t3:∀ k,qh cP=some k→k<W.heap.size→kv'.ownBlock=some k→kv.ownBlock=some k) (t4:∀ k,qh cP=some k→k<W.heap.size→cQ.ownBlock=some k→qv.ownBlock=some k)
 (c2:∀ k,kv'.ownBlock=some k→W.heap.size≤k→cQ.ownBlock≠some k) :
 bH w0 W' L sb mb rb rp cP kv' cQ c m∧bY W W' L rb rp tv kv qv cP kv' cQ:=by
 obtain ⟨n1,n2,n3,n4,n5,n6,n7,n8,n9⟩:=h.qj;have hL:Below w0.heap.size w0 W':=hk.up h.low (fun k e=>by
  rcases e with rfl | e | e
  ·exact h.B.1
  ·exact (h.C.heap e).1
  ·exact (h.D.heap e).1) h.low.size
 refine ⟨⟨hX,?_,hT,hC,hD,h.B,fun k e=>?_,fun k e e2=>?_,hd,hL⟩,⟨hk.wide ?_,fun k e=>?_⟩⟩
 ·rw [hr]
  exact um h.R (hk.block rb h.R.Ky (fun e=>e.elim (fun e=>n1 e.symm) (fun e=>e.elim n6 n7))) (hk.block rp h.R.VE (fun e=>e.elim (fun e=>n2 e.symm) (fun e=>e.elim n8 n9)))
 ·rcases t1 k e with e1 | e1
  ·obtain ⟨a1,a2,a3,a4,a5⟩:=h.tn k e1
   have bz:=(h.T.Ja e1).2.2;exact ⟨a1,a2,a3,fun e2=>a4 (t3 k e bz e2),fun e2=>a5 (t4 k e bz e2)⟩
  ·have b1:=h.lt
   have b2:=h.R.Ky;have b3:=h.R.VE;obtain ⟨a4,a5⟩:=t2 k e e1;exact ⟨by omega,by omega,by omega,a4,a5⟩
 ·rcases k1 k e with e1 | e1
  ·rcases q1 k e2 with e3 | e3
   ·exact h.cn k e1 e3
   ·have:=h.C.lt e1;omega
  ·exact c2 k e e1 e2
 ·rintro k (rfl | e | e)
  ·exact .inl rfl
  ·exact .inr (.inr (.inr (.inr (.inl e))))
  ·exact .inr (.inr (.inr (.inr (.inr e))))
 ·rcases e with rfl | rfl | rfl | e | e | e
  ·exact .inl (.inl rfl)
  ·exact .inl (.inr (.inl rfl))
  ·exact .inl (.inr (.inr (.inl rfl)))
  ·exact (t1 k e).imp (fun e=>.inr (.inr (.inr (.inl e)))) id
  ·exact (k1 k e).imp (fun e=>.inr (.inr (.inr (.inr (.inl e))))) id
  ·exact (q1 k e).imp (fun e=>.inr (.inr (.inr (.inr (.inr e))))) id
theorem bH.set (h:bH w0 W L sb mb rb rp tv kv qv c l) (i:Nat) (u:Value) 
 (hX:(#[.int .i64 (c.bh:Int),.int .i64 (c.bR:Int),.pointer (some ⟨sb,0,none⟩),.pointer (some ⟨mb,0,none⟩),.pointer (some ⟨rb,0,none⟩),tv,kv,qv,.bool (!c.af),.int .u32 (l.bu:Int),.int .i64 (l.ag:Int),.bool l.am]:Array Value).setIfInBounds i u=#[.int .i64 (c.bh:Int),.int .i64 (c.bR:Int),.pointer (some ⟨sb,0,none⟩),.pointer (some ⟨mb,0,none⟩),.pointer (some ⟨rb,0,none⟩),cP,kv',cQ,.bool (!c.af),.int .u32 (m.bu:Int),.int .i64 (m.ag:Int),.bool m.am])
 (hr:m.aK=l.aK) (hT:jq W w0.heap.size cP m.tail) (hC:iF W w0.heap.size kv' m.aQ) (hD:iF W w0.heap.size cQ m.rest) (hd:m.bu<4294967296)
 (t1:∀ k,qh cP=some k→k≠L∧k≠rb∧k≠rp∧kv'.ownBlock≠some k∧cQ.ownBlock≠some k) (c1:∀ k,kv'.ownBlock=some k→cQ.ownBlock≠some k) :
 bH w0 (W.setCell ⟨L,i,none⟩ u) L sb mb rb rp cP kv' cQ c m:=by
 obtain ⟨n1,n2,n3,n4,n5,n6,n7,n8,n9⟩:=h.qj;have hg:=aH W L i u;have hx:(W.setCell ⟨L,i,none⟩ u).heap[L]? = some (.cells #[.int .i64 (c.bh:Int),.int .i64 (c.bR:Int),.pointer (some ⟨sb,0,none⟩),.pointer (some ⟨mb,0,none⟩),.pointer (some ⟨rb,0,none⟩),cP,kv',cQ,.bool (!c.af),.int .u32 (m.bu:Int),.int .i64 (m.ag:Int),.bool m.am] 80 (0,0)):=by
  rw [lF _ _ _ _ _ _ h.X,hX]
 refine ⟨hx,?_,hT.kept fun k e=>hg.block k (hT.Ja e).2.2 (fun e2=>by injection e2 with e2;exact (t1 k e).1 e2),hC.grown hg (fun g e e2=>by injection e2 with e2;subst e2;exact absurd e (hC.kind h.X (by decide))),hD.grown hg (fun g e e2=>by injection e2 with e2;subst e2;exact absurd e (hD.kind h.X (by decide))),h.B,t1,c1,hd,h.low.grown hg h.low.size (fun k e=>by injection e with e;rw [← e];exact h.B.1)⟩;rw [hr];exact um h.R (hg.block rb h.R.Ky (fun e=>by injection e with e;exact n1 e.symm)) (hg.block rp h.R.VE (fun e=>by injection e with e;exact n2 e.symm))
theorem sG (W:World) (L rb rp:Nat) (tv kv qv:Value) (i:Nat) (u:Value) (t:∀ k,qh cP=some k→qh tv=some k∨W.heap.size≤k) (k1:∀ k,kv'.ownBlock=some k→kv.ownBlock=some k∨W.heap.size≤k) (q1:∀ k,cQ.ownBlock=some k→qv.ownBlock=some k∨W.heap.size≤k):bY W (W.setCell ⟨L,i,none⟩ u) L rb rp tv kv qv cP kv' cQ :=
 ⟨bM.grown (aH W L i u) (fun k e=>by injection e with e;exact .inl e.symm),fun k e=>by
  rcases e with rfl | rfl | rfl | e | e | e
  ·exact .inl (.inl rfl)
  ·exact .inl (.inr (.inl rfl))
  ·exact .inl (.inr (.inr (.inl rfl)))
  ·exact (t k e).imp (fun e=>.inr (.inr (.inr (.inl e)))) id
  ·exact (k1 k e).imp (fun e=>.inr (.inr (.inr (.inr (.inl e))))) id
  ·exact (q1 k e).imp (fun e=>.inr (.inr (.inr (.inr (.inr e))))) id⟩
theorem bH.aK (h:bH w0 W L sb mb rb rp tv kv qv c l) (T:mO W W' rb rp) (hR:OT.kH W' rb rp c.ah m.aK) (e2:m.tail=l.tail) (e3:m.aQ=l.aQ) (e4:m.rest=l.rest) (e5:m.bu=l.bu) (e6:m.ag=l.ag) (e7:m.am=l.am) :
 bH w0 W' L sb mb rb rp tv kv qv c m∧bY W W' L rb rp tv kv qv tv kv qv:=by
 obtain ⟨n1,n2,n3,n4,n5,n6,n7,n8,n9⟩:=h.qj;refine ⟨⟨by rw [e5,e6,e7,T.block L h.lt n1 n2];exact h.X,hR,by rw [e2];exact h.T.kept fun k e=>T.block k (h.T.Ja e).2.2 (h.tn k e).2.1 (h.tn k e).2.2.1,by rw [e3];exact h.C.block fun g e=>T.block g (h.C.lt e) (fun e2=>n6 (e2 ▸ e)) (fun e2=>n8 (e2 ▸ e)),by rw [e4];exact h.D.block fun g e=>T.block g (h.D.lt e) (fun e2=>n7 (e2 ▸ e)) (fun e2=>n9 (e2 ▸ e)),h.B,h.tn,h.cn,by rw [e5];exact h.dr,T.below h.low h.B.2.1 h.B.2.2⟩,⟨⟨T.os,T.tape,T.output,T.size,fun k hk hn=>T.block k hk (fun e=>hn (.inr (.inl e))) (fun e=>hn (.inr (.inr (.inl e))))⟩,fun k e=>.inl e⟩⟩
end
end
open jG (gU gQ)
section
variable {ae:Int} {st:aA.Ms}
section
variable {w0 W W':World} {L sb mb rb rp:Nat} {tv kv qv:Value} {c:Cf} {l:Lg}
theorem CP (h:bH w0 W L sb mb rb rp tv kv qv c l):Calls prog 57 #[.pointer (some ⟨L,0,none⟩)] W fun e w'=>e=.returned (.bool (!l.am))∧W=w':=by
 obtain ⟨-,-,-,-,-,-,-,-,-,-,L7,Iv⟩:=h.cells;clear h;go_enter func57,ntmps57;go_wp2;go_ret;exact ⟨rfl,rfl⟩
theorem TQ (h:bH w0 W L sb mb rb rp tv kv qv c l):Calls prog 28 #[.pointer (some ⟨L,0,none⟩)] W fun e w'=>e=.returned (.bool l.am)∧W=w':=by
 obtain ⟨-,-,-,-,-,-,-,-,-,-,L7,Iv⟩:=h.cells;clear h;go_enter func28,ntmps28;go_wp2;go_ret;exact ⟨rfl,rfl⟩
theorem Pm (h:bH w0 W L sb mb rb rp tv kv qv c l):Calls prog 30 #[.pointer (some ⟨L,0,none⟩)] W fun e w'=>e=.returned (.int .i64 (l.ag:Int))∧W=w':=by
 obtain ⟨-,-,-,-,-,-,-,-,-,-,L7,Iv⟩:=h.cells;clear h;go_enter func30,ntmps30;go_wp2;go_ret;exact ⟨rfl,rfl⟩
theorem Pn (h:bH w0 W L sb mb rb rp tv kv qv c l) (n:Nat) (hn:l.aK.length=n) (r:Bool) (hr:((n:Int)==0)=r):Calls prog 64 #[.pointer (some ⟨L,4,none⟩)] W fun e w'=>e=.returned (.bool r)∧W=w':=by
 obtain ⟨-,-,-,-,c4,-⟩:=h.cells;have T:=OT.XB W rb rp c.ah n l.aK h.R hn;clear h;go_enter func64,ntmps64;go_wp2_with fail
 refine T.mono ?_;rintro e w1 ⟨rfl,rfl⟩;clear T;go_wp2;go_ret;exact ⟨rfl,rfl⟩
theorem Po (h:bH w0 W L sb mb rb rp tv kv qv c l) (n:Nat) (hn:l.aK.length=n) (r:Bool) (hr:((n:Int)==0)=r):Calls prog 27 #[.pointer (some ⟨L,0,none⟩)] W fun e w'=>e=.returned (.bool r)∧W=w':=by
 have T:=Pn h n hn r hr;clear h hn hr;go_enter func27,ntmps27;go_wp2_with fail
 refine T.mono ?_;rintro e w1 ⟨rfl,rfl⟩;clear T;go_wp2;go_ret;exact ⟨rfl,rfl⟩
theorem AV (h:bH w0 W L sb mb rb rp tv kv qv c l) {mv mp:Value} (hm:gU w0 W mb ae st mv mp):Calls prog 31 #[.pointer (some ⟨L,0,none⟩)] W fun e w'=>e=.returned (.bool st.aL)∧W=w':=by
 obtain ⟨-,-,-,c3,-⟩:=h.cells;have T:=jG.SS hm.m;clear h hm;go_enter func31,ntmps31;go_wp2_with fail
 refine T.mono ?_;rintro e w1 ⟨rfl,rfl⟩;clear T;go_wp2;go_ret;exact ⟨rfl,rfl⟩
theorem wZ (h:bH w0 W L sb mb rb rp tv kv qv c l) (z:Int) (ah:List Nat) (ho:l.aK.take z.toNat=ah) (k:Nat) (hk:ah.length=k):Calls prog 33 #[.pointer (some ⟨L,0,none⟩),.int .i64 z] W fun e w'=>e=.returned (.slice (some ⟨W.heap.size,0,none⟩) k k)∧Sl (fA w' W.heap.size ah)∧Sl (Below W.heap.size W w'):=by
 obtain ⟨-,-,-,-,c4,-⟩:=h.cells;have T:=OT.xk w0 W rb rp c.ah k l.aK ah z h.low h.R ho hk;clear h ho hk;go_enter func33,ntmps33;go_wp2_with fail
 refine T.mono ?_;rintro e w1 ⟨rfl,H1,-,H2,-⟩;clear T;go_wp2;go_ret;exact ⟨rfl,H1,H2⟩
theorem Jb (h:bH w0 W L sb mb rb rp tv kv qv c l) (n:Nat) (hn:l.rest.length=n) (r:Bool) (hr:(!l.am&&((n:Int)==0))=r):Calls prog 35 #[.pointer (some ⟨L,0,none⟩)] W fun e w'=>e=.returned (.bool r)∧W=w':=by
 obtain ⟨-,-,-,-,-,-,-,c7,-⟩:=h.cells;obtain ⟨a,cap,rfl⟩:=h.D.slice;rw [hn] at c7;have T:=CP h;obtain ⟨b,hb⟩:=zX l.am;rw [hb] at T hr;clear h hn hb;cases b with
 | true =>
   obtain rfl:false=r:=hr;go_enter func35,ntmps35;go_wp2_with fail
   refine T.mono ?_;rintro e w1 ⟨rfl,rfl⟩;clear T;go_wp2;go_ret;exact ⟨rfl,rfl⟩
 | false =>
   have hr:((n:Int)==0)=r:=hr;go_enter func35,ntmps35;go_wp2_with fail
   refine T.mono ?_;rintro e w1 ⟨rfl,rfl⟩;clear T;go_wp2;go_ret;exact ⟨rfl,rfl⟩
theorem TR (h:bH w0 W L sb mb rb rp tv kv qv c l) {af:Bool} {part:List Nat} {bj:Nat} {sv:Value} (hs:dG w0 W sb af ae part bj sv) {mm:Int} {mv mp:Value} (hm:gU w0 W mb mm st mv mp) (a b n:Nat) (ha:part.length=a) (hb:st.aT.length=b) (hn:a+b=n) (hl:n≤10000000) :
 Calls prog 34 #[.pointer (some ⟨L,0,none⟩)] W fun e w'=>e=.returned (.int .i64 (n:Int))∧Sl (Below W.heap.size W w'):=by
 obtain ⟨-,-,c2,c3,-⟩:=h.cells;have bz:=h.lt;have T1:Sl (∀ V,Below W.heap.size W V→Calls prog 67 #[.pointer (some ⟨sb,0,none⟩)] V fun e w'=>e=.returned (.int .i64 (a:Int))∧V=w'):=⟨fun V k=>jS.Vm (hs.below k) a ha⟩;have T2:Sl (∀ V,Below W.heap.size W V→Calls prog 68 #[.pointer (some ⟨mb,0,none⟩)] V fun e w'=>e=.returned (.int .i64 (b:Int))∧V=w'):=⟨fun V k=>jG.BI (hm.below k).m b hb⟩;have Nn:IntKind.i64.wrap ((a:Int)+(b:Int))=(n:Int):=by rw [lZ];omega
 have hw:wrap64 ((a:Int)+(b:Int))=(n:Int):=by unfold wrap64;omega
 clear h hs hm ha hb;go_enter func34,ntmps34;go_upto_region 1 with fail
 refine zG (S:=fun V=>V.cell? ⟨L,2,none⟩=some (.pointer (some ⟨sb,0,none⟩))∧V.cell? ⟨L,3,none⟩=some (.pointer (some ⟨mb,0,none⟩))) (by kernel_rfl) (fun Rw aM=>?_);have al:Rw.cell? ⟨L,2,none⟩=some (.pointer (some ⟨sb,0,none⟩))∧Rw.cell? ⟨L,3,none⟩=some (.pointer (some ⟨mb,0,none⟩)):=⟨(aM.cell (p:=⟨L,2,none⟩) bz).trans c2,(aM.cell (p:=⟨L,3,none⟩) bz).trans c3⟩;refine zT 0 (some 3) (.move (.tmp 0)) _ al ?_;simp only [zA,zB,zS];refine zT 1 (some 4) (.nilCheck (.tmp 3)) _ al ?_;simp only [zA,zB,zS];refine zT 2 (some 5) (.fieldAddr 80 (.tmp 4) 2) _ al ?_;simp only [zA,zB,zS];refine zT 3 (some 6) (.load 77 (.tmp 5)) _ al ?_ (hy:=fun o' ho W hS=>by have d0:=hS.1;simp only [execOp,ho];go_simp;try rfl);simp only [zA,zB,zS];refine zT 5 (some 8) (.move (.tmp 0)) _ al ?_;simp only [zA,zB,zS];refine zT 6 (some 9) (.nilCheck (.tmp 8)) _ al ?_;simp only [zA,zB,zS];refine zT 7 (some 10) (.fieldAddr 80 (.tmp 9) 3) _ al ?_;simp only [zA,zB,zS];refine zT 8 (some 11) (.load 78 (.tmp 10)) _ al ?_ (hy:=fun o' ho W hS=>by have d1:=hS.2;simp only [execOp,ho];go_simp;try rfl);simp only [zA,zB,zS];refine zC 4 (some 7) (.call {callee:=.value (.func 67),args:=#[.tmp 6],argTypes:=#[77]}) 67 #[.pointer (some ⟨sb,0,none⟩)] ?_;refine (T1.ah _ aM).mono ?_;rintro e w2 ⟨rfl,rfl⟩;refine ⟨_,rfl,al,?_⟩;simp only [zA,zB,zS];refine zC 9 (some 12) (.call {callee:=.value (.func 68),args:=#[.tmp 11],argTypes:=#[78]}) 68 #[.pointer (some ⟨mb,0,none⟩)] ?_;refine (T2.ah _ aM).mono ?_;rintro e w2 ⟨rfl,rfl⟩;refine ⟨_,rfl,al,?_⟩;simp only [zA,zB,zS];refine zT 10 (some 13) (.binOp .add 3 (.tmp 7) (.tmp 12) 3) (.int .i64 (n:Int)) al ?_ (hy:=fun o' ho W hS=>by exact by simp only [execOp,ho];go_simp;first | done | (rw [hw];done) | (rw [Nn];done) | rfl);simp only [zA,zB,zS];refine zT 11 (some 2) (.assign (.tmp 13)) _ al ?_;simp only [zA,zB,zS];refine zE (by kernel_rfl) ?_;go_wp2;go_ret;exact ⟨rfl,⟨aM⟩⟩
theorem TS (n:Int) (w:World):Calls prog 86 #[.int .i64 n] w fun e w'=>e=.returned (.int .i64 (if n=1005 then 0 else n))∧w=w':=by
 by_cases hn:n=1005
 ·subst hn
  go_enter func86,ntmps86;go_wp2;go_ret;exact ⟨rfl,rfl⟩
 ·have hq:(n==1005)=false:=mJ.2 hn
  rw [if_neg hn];clear hn;go_enter func86,ntmps86;go_wp2;go_ret;exact ⟨rfl,rfl⟩
theorem yV (aN:Bool) (op:Int) (m:Bool) (ka kb kc kd:Nat) (s:ByteArray) (r:Bool) (hr:(op==10)=r) (w:World):Calls prog 114 #[(.agg (zV aN op m ka kb kc kd s))] w fun e w'=>e=.returned (.bool r)∧Sl (Below w.heap.size w w'):=by
 obtain ⟨V,hV⟩:=zX (w.alloc (.cells (zV aN op m ka kb kc kd s) 61));have HB:Sl (Below w.heap.size w V):=⟨by rw [← hV];exact (dW _ _).alloc (aY _) _⟩;obtain ⟨c0,c1,c2,c3,c4,c5,c6,c7⟩:=gK.bG (show V.heap[w.heap.size]? = some (.cells (zV aN op m ka kb kc kd s) 61 (0,0)) by rw [← hV];exact aI _ _ _ rfl);go_enter func114,ntmps114;go_upto_region 1 with fail
 (try rw [hV]);go_wp2;go_ret;exact ⟨rfl,HB⟩
end
end
open aj (ni dN dD)
open aC (aT size nI dF bn)
open aO (be)
section
variable {W:World}
theorem XD (n:Nat):be n 4=ni n:=by
 unfold ni;simp only [be,List.nil_append,DK,Nat.div_div_eq_div_mul]
theorem Jc {base g n cap:Nat} {bs:List Nat} (h:bJ W (.slice (some ⟨g,0,none⟩) n cap) bs) (hb:base≤g):jq W base (.slice (some ⟨g,0,none⟩) n cap) bs:=by
 obtain ⟨a,fd,sb,so,he,h1,h2,h3⟩:=h;injection he with e1 e2 e3
 subst e2 e3;refine ⟨_,_,sb,so,rfl,h1,fun hp=>?_,h3⟩;rw [← e1] at h2;have h4:=h2 hp;refine ⟨h4,?_⟩;injection h4 with h4
 injection h4 with h4 _
 omega
section
variable {w0 W W':World} {L sb mb rb rp:Nat} {tv kv qv:Value} {c:Cf} {l:Lg}
theorem bH.bu (h:bH w0 W L sb mb rb rp tv kv qv c l) (d:Nat) (hd:d<4294967296):bH w0 (W.setCell ⟨L,9,none⟩ (.int .u32 (d:Int))) L sb mb rb rp tv kv qv c {l with bu:=d}∧bY W (W.setCell ⟨L,9,none⟩ (.int .u32 (d:Int))) L rb rp tv kv qv tv kv qv :=
 ⟨h.set 9 _ (m:={l with bu:=d}) rfl rfl h.T h.C h.D hd h.tn h.cn,sG W L rb rp tv kv qv 9 _ (fun _ e=>.inl e) (fun _ e=>.inl e) (fun _ e=>.inl e)⟩
theorem bY.fH {V U:World} {L rb rp:Nat} {tv kv qv t1 k1 q1:Value} (h:bY W V L rb rp tv kv qv t1 k1 q1) {S:Nat→Prop} (k:bM S V U) (hs:∀ j,S j→W.heap.size≤j):bY W U L rb rp tv kv qv t1 k1 q1 :=
 ⟨h.kept.trans k (fun j hj e=>by have:=hs j e;omega),h.dy⟩
theorem VQ (d:Nat):∃ x,IntKind.u32.wrap ((d:Int)*1664525)=(x:Int)∧IntKind.u32.wrap ((x:Int)+1013904223)=((aj.next d:Nat):Int):=by
 refine ⟨d*1664525 % 4294967296,?_,?_⟩
 ·rw [IntKind.wrap_u32];try omega
 ·rw [IntKind.wrap_u32];unfold aj.next;omega
theorem CQ (h:bH w0 W L sb mb rb rp tv kv qv c l) (hg:jF.bD w0) (aN:Bool) (k:Nat) (m:Bool) (ka kb kc kd:Nat) (s:ByteArray) (hk:aU 256 [ka,kb,kc,kd]) (hc:dF (⟨aN,(k:Int),m,[ka,kb,kc,kd],bytes s⟩:Fr)=true) (hs:s.size≤65536) :
 Calls prog 120 #[.pointer (some ⟨L,4,none⟩),(.agg (zV aN (k:Int) m ka kb kc kd s))] W fun e w'=>∃ g n cap,e=.returned (.slice (some ⟨g,0,none⟩) n cap)∧W.heap.size≤g∧Sl (jq w' w0.heap.size (.slice (some ⟨g,0,none⟩) n cap) (aT (dN c (dD c l.bu) (⟨aN,(k:Int),m,[ka,kb,kc,kd],bytes s⟩:Fr)))) ∧
  Sl (bH w0 w' L sb mb rb rp tv kv qv c {l with bu:=dD c l.bu})∧Sl (bY W w' L rb rp tv kv qv tv kv qv):=by
 have mU:nI (⟨aN,(k:Int),m,[ka,kb,kc,kd],bytes s⟩:Fr)=0:=gK.tH hc (by rw [show ((⟨aN,(k:Int),m,[ka,kb,kc,kd],bytes s⟩:Fr)).data.length=s.size from au s];omega);have hx:∀ a b c' d:Nat,nI (⟨aN,(k:Int),true,[a,b,c',d],bytes s⟩:Fr)=0:=fun a b c' d=>gK.tH (aC.jC ⟨(aC.eF hc).1,.inl rfl⟩) (by rw [show ((⟨aN,(k:Int),true,[a,b,c',d],bytes s⟩:Fr)).data.length=s.size from au s];omega)
 obtain ⟨wa,cz,HB,hH⟩:=zY W (zV aN (k:Int) m ka kb kc kd s) 61;have mE:=Sl.mk (h.below HB);have lz:=Sl.mk (bY.below L rb rp tv kv qv HB);have lO:=Sl.mk h.low.size;have hI:=Sl.mk h.lt;have me:Sl (∀ j,EU L rb rp tv kv qv j→j<W.heap.size):=⟨fun j e=>(h.lu e).2⟩;have AS:Sl (∀ V,Below w0.heap.size w0 V→jF.bD V):=⟨fun V k=>hg.below k hg.size⟩;obtain ⟨-,-,-,-,-,-,-,-,c8,c9,-,-⟩:=mE.ah.cells;obtain ⟨a0,a1,a2,a3,a4,a5,a6,a7⟩:=gK.bG hH;have HH:=Sl.mk hH;have PF:=Sl.mk mU;have HHX:=Sl.mk hx;have HK0:=Sl.mk hk;clear h HB hH hc hx hg mU hk;cases hm:c.af with
 | true =>
   rw [hm] at c8;have c8:wa.cell? ⟨L,8,none⟩=some (.bool false):=c8;have T:=gK.Ia aN k m ka kb kc kd s _ wa (AS.ah wa mE.ah.low) HK0.ah PF.ah rfl;obtain ⟨n,hn⟩:=zX (size (⟨aN,(k:Int),m,[ka,kb,kc,kd],bytes s⟩:Fr));rw [hn] at T;have ed:dN c (dD c l.bu) (⟨aN,(k:Int),m,[ka,kb,kc,kd],bytes s⟩:Fr)=(⟨aN,(k:Int),m,[ka,kb,kc,kd],bytes s⟩:Fr):=if_pos hm;have W6:dD c l.bu=l.bu:=if_pos hm;rw [ed,W6];clear ed W6 hn;go_enter func120,ntmps120;go_upto_region 1 with fail
   (try rw [cz]);clear cz;go_wp2_with fail
   refine T.mono ?_;rintro e w2 ⟨g,cap,rfl,HS,bk,eg⟩;clear T;have HLX:=Sl.mk (mE.ah.below bk.ah);have HGX:=Sl.mk (lz.ah.trans (bY.below L rb rp tv kv qv bk.ah));have BW:W.heap.size≤g:=jd lz.ah.kept.size eg;have yp:=Sl.mk (Jc HS.ah (jd lO.ah BW));clear HS bk c8 c9 a0 a1 a2 a3 a4 a5 a6 a7;go_wp2;go_ret;exact ⟨g,n,cap,rfl,BW,yp,⟨HLX.ah.xH rfl rfl rfl rfl rfl rfl rfl⟩,HGX⟩
 | false =>
   rw [hm] at c8;have c8:wa.cell? ⟨L,8,none⟩=some (.bool true):=c8;obtain ⟨y,hy⟩:=zX (aj.next l.bu);have hy2:y<4294967296:=by rw [← hy];unfold aj.next;omega
   obtain ⟨x,bA,cE⟩:=VQ l.bu;rw [hy] at cE;have W6:dD c l.bu=y:=(if_neg (by rw [hm];decide)).trans hy;obtain ⟨x0,x1,x2,x3,hK⟩:∃ x0 x1 x2 x3,ni y=[x0,x1,x2,x3]:=⟨_,_,_,_,rfl⟩;have ed:dN c (dD c l.bu) (⟨aN,(k:Int),m,[ka,kb,kc,kd],bytes s⟩:Fr)=(⟨aN,(k:Int),true,[x0,x1,x2,x3],bytes s⟩:Fr):=by
    rw [W6];unfold dN;rw [if_neg (by rw [hm];decide),hK]
   rw [ed,W6];have im:Sl (aU 256 [x0,x1,x2,x3]):=⟨by rw [← hK];exact aj.oC y⟩;have hbk:be y 4=[x0,x1,x2,x3]:=(XD y).trans hK;obtain ⟨dd,mH⟩:=zX l.bu;rw [mH] at c9 bA;obtain ⟨eK,dE⟩:=mE.ah.bu y hy2;obtain ⟨wb,gR⟩:=zX (wa.setCell ⟨L,9,none⟩ (.int .u32 (y:Int)));rw [gR] at eK dE;have f9:=mE.ah.fF 9;have aeL:=mE.ah.lt;have nu:=Sl.mk eK;have HGB:=Sl.mk (lz.ah.trans dE);have HHB:Sl (wb.heap[W.heap.size]? = some (.cells (zV aN (k:Int) m ka kb kc kd s) 61 (0,0))):=⟨by
    rw [← gR,pI _ _ _ _ (show W.heap.size≠L from by have:=hI.ah;omega)];exact HH.ah⟩
   obtain ⟨-,-,-,-,-,-,-,-,-,d9,-,-⟩:=nu.ah.cells;have d9:wb.cell? ⟨L,9,none⟩=some (.int .u32 (y:Int)):=d9;have TK:Calls prog 146 #[.int .u32 (y:Int)] wb fun e w'=>e=.returned (.agg #[.int .u8 (x0:Int),.int .u8 (x1:Int),.int .u8 (x2:Int),.int .u8 (x3:Int)])∧Sl (Below wb.heap.size wb w'):=jF.Xt y [x0,x1,x2,x3] wb hy2 hbk
   clear hK mH hbk hy ed W6 eK dE aeL;go_enter func120,ntmps120;go_upto_region 1 with fail
   (try rw [cz]);clear cz;go_upto_region 3 with fail
   (try rw [gR]);clear gR c8 c9 f9 a0 a1 a2 a3 a4 a5 a6 a7 bA cE;go_wp2_with fail
   refine TK.mono ?_;rintro e w2 ⟨rfl,bk⟩;have lr:Sl (w2.heap[W.heap.size]? = some (.cells (zV aN (k:Int) m ka kb kc kd s) 61 (0,0))):=⟨ay HHB.ah bk.ah⟩;have nl:=Sl.mk (nu.ah.below bk.ah);have dt:=Sl.mk (HGB.ah.trans (bY.below L rb rp tv kv qv bk.ah));clear TK bk d9 HHB nu HGB;obtain ⟨q,hq⟩:=zX W.heap.size;have yf:Sl (W.heap.size≤q∧L<q):=⟨by have:=hI.ah;omega⟩;rw [hq] at lr ⊢;have Li:=Sl.mk hq;clear hq;obtain ⟨a0,a1,a2,a3,a4,a5,a6,a7⟩:=gK.bG lr.ah;have g2:w2.frozen? ⟨q,2,none⟩=false:=kT _ _ _ _ _ lr.ah;have g3:w2.frozen? ⟨q,3,none⟩=false:=kT _ _ _ _ _ lr.ah;have g4:w2.frozen? ⟨q,4,none⟩=false:=kT _ _ _ _ _ lr.ah;have g5:w2.frozen? ⟨q,5,none⟩=false:=kT _ _ _ _ _ lr.ah;have g6:w2.frozen? ⟨q,6,none⟩=false:=kT _ _ _ _ _ lr.ah;obtain ⟨kO,xh⟩:=iL.Gq (m':=true) (x0:Int) (x1:Int) (x2:Int) (x3:Int) lr.ah;simp only [World.setCells] at kO xh;obtain ⟨E,hE⟩:=zX (((((w2.setCell ⟨q,2,none⟩ (.bool true)).setCell ⟨q,3,none⟩ (.int .u8 (x0:Int))).setCell ⟨q,3+1,none⟩ (.int .u8 (x1:Int))).setCell ⟨q,3+1+1,none⟩ (.int .u8 (x2:Int))).setCell ⟨q,3+1+1+1,none⟩ (.int .u8 (x3:Int)));rw [hE] at kO xh;have Ma:((((w2.setCell ⟨q,2,none⟩ (.bool true)).setCell ⟨q,3,none⟩ (.int .u8 (x0:Int))).setCell ⟨q,4,none⟩ (.int .u8 (x1:Int))).setCell ⟨q,5,none⟩ (.int .u8 (x2:Int))).setCell ⟨q,6,none⟩ (.int .u8 (x3:Int))=E:=hE;have HQE:=Sl.mk kO;have Pp:bM (fun j=>j=q) w2 E:=bM.grown xh (fun j e=>by injection e with e;exact e.symm);have lc:=Sl.mk (nl.ah.pZ Pp (fun j e=>by have:=me.ah j e;have:=Li.ah;omega) (Pp.up nl.ah.low (fun j e=>by have:=Li.ah;have:=lO.ah;omega) nl.ah.low.size));have iS:=Sl.mk (dt.ah.fH Pp (fun j e=>by have:=Li.ah;omega));clear kO xh hE Pp;go_upto_region 4 with fail
   (try rw [Ma]);clear Ma a0 a1 a2 a3 a4 a5 a6 a7 g2 g3 g4 g5 g6 lr nl dt;obtain ⟨a0,a1,a2,a3,a4,a5,a6,a7⟩:=gK.bG HQE.ah;have T:=gK.Ia aN k true x0 x1 x2 x3 s _ E (AS.ah E lc.ah.low) im.ah (HHX.ah _ _ _ _) rfl;obtain ⟨n,hn⟩:=zX (size (⟨aN,(k:Int),true,[x0,x1,x2,x3],bytes s⟩:Fr));rw [hn] at T;clear hn;go_wp2_with fail
   refine T.mono ?_;rintro e w4 ⟨g,cap,rfl,HS,br,eg⟩;clear T;have HLX:=Sl.mk (lc.ah.below br.ah);have HGX:=Sl.mk (iS.ah.trans (bY.below L rb rp tv kv qv br.ah));have BW:W.heap.size≤g:=jd iS.ah.kept.size eg;have yp:=Sl.mk (Jc HS.ah (jd lO.ah BW));clear HS br a0 a1 a2 a3 a4 a5 a6 a7;go_wp2;go_ret;exact ⟨g,n,cap,rfl,by have:=Li.ah;omega,yp,HLX,HGX⟩
end
end
structure Kf where
 ra:Option Addr
 rn:Nat
 rc:Nat
 oa:Option Addr
 on:Nat
 oc:Nat
 z2:Int
 z5:Int
 z6:Int
 z8:Int
 z9:Int
 I0:Int
 I1:Int
abbrev zD:Array Value:=#[.slice none 0 0,.slice none 0 0,.int .i64 0,.int .i64 0,.int .i64 0,.int .i64 0,.int .i64 0,.int .i64 0,.int .i64 0,.int .i64 0,.int .i64 0,.int .i64 0,.bool false,.int .u32 0,.string {data:=#[]},.slice none 0 0,.string {data:=#[]},.string {data:=#[]},.slice none 0 0,.slice none 0 0,.bool false,.bool false,.int .i64 0]
abbrev zK (K:Kf) (c:Cf):Array Value:=#[.slice K.ra K.rn K.rc,.slice K.oa K.on K.oc,.int .i64 K.z2,.int .i64 (c.bh:Int),.int .i64 (c.bR:Int),.int .i64 K.z5,.int .i64 K.z6,.int .i64 (c.ah:Int),.int .i64 K.z8,.int .i64 K.z9,.int .i64 K.I0,.int .i64 K.I1]
abbrev zL (K:Kf) (c:Cf) (d:Int) (p:ByteArray) (fa:Option Addr) (fn fc:Nat) (r t:ByteArray) (ca:Option Addr) (cn cc:Nat) (ra:Option Addr) (rn rc:Nat) (s g:Bool) (x:Int):Array Value:=#[.slice K.ra K.rn K.rc,.slice K.oa K.on K.oc,.int .i64 K.z2,.int .i64 (c.bh:Int),.int .i64 (c.bR:Int),.int .i64 K.z5,.int .i64 K.z6,.int .i64 (c.ah:Int),.int .i64 K.z8,.int .i64 K.z9,.int .i64 K.I0,.int .i64 K.I1,.bool c.af,.int .u32 d,.string p,.slice fa fn fc,.string r,.string t,.slice ca cn cc,.slice ra rn rc,.bool s,.bool g,.int .i64 x]
abbrev zM (K:Kf) (c:Cf) (l:Lg) (p:ByteArray) (fa:Option Addr) (fn fc:Nat) (ca:Option Addr) (cn cc:Nat) (ra:Option Addr) (rn rc:Nat):Array Value:=zL K c (l.bu:Int) p fa fn fc (aF l.aK) (aF l.tail) ca cn cc ra rn rc l.am l.dA (l.ag:Int)
end Go.Proofs.YtlahonjmfecikaaGreatDoor.jo
namespace Go.Proofs.YtlahonjmfecikaaGreatDoor.KU
open Go.RowKit Go.WideShapes Go.ChangeShapes
open aA (Ev)
section
variable {es l:List Ev} {w w' W W':World} {v:Value} {base:Nat} {cs:Array Value}
def XH:Ev:=⟨0,0,[]⟩
def ec (e:Ev):List Value:=[.int .i64 e.op,.int .i64 e.ao,.string (aF e.data)]
def KV (es:List Ev):List Value:=es.flatMap ec
theorem CZ (e:Ev) (es:List Ev):KV (e :: es)=ec e++KV es:=rfl
theorem C4 (es:List Ev):(KV es).length=es.length*3:=by
 induction es with
 | nil=>rfl
 | cons e es ih=>rw [CZ,jB,ih];simp [ec];omega
theorem KW (a b:List Ev):KV (a++b)=KV a++KV b:=by simp [KV]
theorem XI (e:Ev):∀ u∈ec e,u.oneCell'=true:=fun u hu=>by
 simp only [ec,DN,pJ,or_false] at hu;rcases hu with rfl | rfl | rfl<;>rfl
theorem VU:∀ u∈KV es,u.oneCell'=true:=fun u hu=>by
 simp only [KV,List.mem_flatMap] at hu;obtain ⟨e,_,he⟩:=hu;exact XI e u he
theorem GO:∀ (es:List Ev) (i:Nat),i<es.length→∀ j,j<3→(KV es)[i*3+j]? = (ec (es.getD i XH))[j]?
 | [],i,hi,_,_=>by simp at hi
 | e :: es,0,_,j,hj=>by
   rw [CZ,Nat.zero_mul,vT,Ec (by simpa [ec] using hj)];rfl
 | e :: es,i+1,hi,j,hj=>by
   rw [CZ,show (i+1)*3+j=i*3+j+3 from by omega,QC (by simp [ec])];have:=GO es i (by simpa using hi) j hj;simpa [ec] using this
theorem XJ {j:Nat} {u:Value} (h:(KV es)[j]? = some u):j / 3<es.length∧(ec (es.getD (j / 3) XH))[j % 3]? = some u:=by
 have hj:j<(KV es).length:=(LV.1 h).1;rw [C4] at hj;refine ⟨by omega,?_⟩;rw [← GO es (j / 3) (by omega) (j % 3) (by omega),← h];congr 1;omega
theorem VV (e:Ev) (j:Nat) (hj:j<3):∃ u,(ec e)[j]? = some u:=⟨_,lD (by simpa [ec] using hj)⟩
def ig (W:World) (base:Nat) (v:Value) (es:List Ev):Prop:=W.ownsRow base 52 3 v es.length (KV es)
def nJ (W:World) (v:Value) (es:List Ev):Prop :=
 ∃ (a:Option Addr) (cap sb so:Nat),v=.slice a es.length cap∧es.length≤cap∧(0<es.length→a=some ⟨sb,so,none⟩)∧∀ i,i<es.length→∀ j,j<3→W.cell? ⟨sb,so+i*3+j,none⟩=(ec (es.getD i XH))[j]?
theorem nJ.below (h:nJ w v es) (hb:Below w.heap.size w w'):nJ w' v es:=by
 obtain ⟨a,cap,sb,so,h1,hc,h3,h4⟩:=h;refine ⟨a,cap,sb,so,h1,hc,h3,fun i hi j hj=>?_⟩;have g:=h4 i hi j hj;obtain ⟨u,hu⟩:=VV (es.getD i XH) j hj;rw [hu] at g ⊢;have k0:=zk g;rw [hb.cell (p:=⟨sb,so+i*3+j,none⟩) k0];exact g
theorem nJ.slice (h:nJ W v es):∃ a c,v=.slice a es.length c:=by
 obtain ⟨a,c,_,_,rfl,_⟩:=h;exact ⟨a,c,rfl⟩
theorem nJ.cap {a:Option Addr} {n cap:Nat} (h:nJ W (.slice a n cap) es):n=es.length∧n≤cap∧(0<n→∃ sb so,a=some ⟨sb,so,none⟩):=by
 obtain ⟨a',fd,xz,xD,he,hc,h3,_⟩:=h;injection he with e1 e2 e3
 refine ⟨e2,by omega,fun hp=>⟨xz,xD,?_⟩⟩;rw [e1];exact h3 (by omega)
theorem nJ.VW {sb so n cap:Nat} (h:nJ W (.slice (some ⟨sb,so,none⟩) n cap) es) (i:Nat) (hi:i<es.length) {o c:Int} {d:List Nat} (he:es.getD i XH=⟨o,c,d⟩) :
 W.cell? ⟨sb,so+i*3,none⟩=some (.int .i64 o)∧W.cell? ⟨sb,so+i*3+1,none⟩=some (.int .i64 c)∧W.cell? ⟨sb,so+i*3+2,none⟩=some (.string (aF d)):=by
 obtain ⟨a,fd,xz,xD,hs,_,h3,h4⟩:=h;injection hs with e1 e2 e3
 rw [h3 (by omega)] at e1;injection e1 with e1
 injection e1 with e4 e5
 subst e4 e5;have g:=h4 i hi;rw [he] at g;exact ⟨g 0 (by decide),g 1 (by decide),g 2 (by decide)⟩
theorem info57:∃ i,prog.info? 52=some i∧i.zero=some (.agg #[.int .i64 0,.int .i64 0,.string ByteArray.empty])∧i.size=3∧i.bytes=32:=by
 have h5:(prog.info? 52).map (fun i=>(i.zero,i.size,i.bytes))=some (some (.agg #[.int .i64 0,.int .i64 0,.string ByteArray.empty]),3,32):=by kernel_rfl
 cases hi:prog.info? 52 with
 | none=>rw [hi] at h5;cases h5
 | some i =>
   rw [hi] at h5;simp only [Dy,Option.some.injEq,Prod.mk.injEq] at h5;exact ⟨i,rfl,h5.1,h5.2.1,h5.2.2⟩
theorem ig.below (h:ig w base v l) (hb:Below w.heap.size w w'):ig w' base v l:=pO h hb
theorem C5 (R:World) (base:Nat):ig R base (.slice none 0 0) []:=US _ _ _ _
theorem PV (w:World) (base:Nat) (hb:base≤w.heap.size):ig (w.alloc (.cells #[] 52)) base (.slice (some ⟨w.heap.size,0,none⟩) 0 0) [] :=
 World.ownsRow_made w #[] 0 hb (by unfold maxLen;omega) rfl
theorem ig.slice (h:ig W base v l):∃ a c,v=.slice a l.length c:=by
 obtain ⟨_,h2⟩:=h;rcases h2 with ⟨rfl,hz⟩ | ⟨g,cap,fI,rfl,_⟩
 ·rw [hz];exact ⟨_,_,rfl⟩
 ·exact ⟨_,_,rfl⟩
theorem ig.rY (ho:ig W base v es):nJ W v es:=by
 obtain ⟨h1,h2⟩:=ho;rcases h2 with ⟨rfl,hz⟩ | ⟨g,cap,fI,rfl,hg,hh,qr,Dd,gh,GE⟩
 ·exact ⟨none,0,0,0,by rw [hz],by omega,fun h=>by omega,fun i hi=>by omega⟩
 ·refine ⟨some ⟨g,0,none⟩,cap,g,0,rfl,qr,fun _=>rfl,fun i hi j hj=>?_⟩
  have k:=GO es i hi j hj;rw [vT,← k,jg _ _ _ _ _ _ hh,← GE,NP (by omega)];simp
theorem ig.heap (h:ig W base v l) {g:Nat} (hg:v.ownBlock=some g):base≤g∧∃ cs,W.heap[g]? = some (.cells cs 52 (0,0)):=by
 rcases h.2 with ⟨rfl,_⟩ | ⟨k,cap,fI,rfl,hb,hh,_⟩
 ·cases hg
 ·have:k=g:=by simpa [Value.ownBlock] using hg
  subst this;exact ⟨hb,_,hh⟩
theorem ig.Eu {B:Nat} {w0:World} (h:ig W base v l) (hB:Below B w0 W) (hg:W.grownBy W' v.ownBlock) (hb:B≤base) (hs:B≤W.heap.size):Below B w0 W' :=
 hB.grown hg hs (fun _ hk=>jd hb (h.heap hk).1)
theorem ig.kept {r:Option Nat} (h:ig W base v l) (g:W.grownBy W' r) (hr:∀ k,r=some k→v.ownBlock≠some k):ig W' base v l:=by
 refine World.ownsRow.kept h g ?_;rcases h.2 with ⟨rfl,_⟩ | ⟨k,cap,fI,rfl,_⟩
 ·exact .inl rfl
 ·exact .inr (fun e=>hr k e.symm (by simp [Value.ownBlock]))
theorem tN:type_of% @Go.Proofs.YtlahonjmfecikaaGreatDoor.jS.tN:=@Go.Proofs.YtlahonjmfecikaaGreatDoor.jS.tN
theorem AY {Z:World} {v0 x:Value} {m:List Ev} (ef:ig Z base v0 m) (hx:nJ Z x l) (hl:m.length+l.length≤1000000) (eE:base≤Z.heap.size) :
 ∃ v1 w1,(Builtin.append_ #[47,47] 47 #[v0,x]).run prog Z=.ok v1 w1∧ig w1 base v1 (m++l)∧Z.grownBy w1 v0.ownBlock∧(v1.ownBlock=v0.ownBlock∨v1.ownBlock=some Z.heap.size):=by
 obtain ⟨i0,kn,ic,eI,dz⟩:=info57;obtain ⟨ad,cap,sb,so,rfl,db,mx,bL⟩:=hx;have key:∀ a:Addr,(0<l.length→a=⟨sb,so,none⟩)→∃ v1 w1,(Builtin.append_ #[47,47] 47 #[v0,.slice (some a) l.length cap]).run prog Z=.ok v1 w1∧ig w1 base v1 (m++l)∧Z.grownBy w1 v0.ownBlock∧(v1.ownBlock=v0.ownBlock∨v1.ownBlock=some Z.heap.size):=fun a ha=>by
  obtain ⟨v',w',h1,h2,h3,h4⟩:=tN (P:=prog) (w:=Z) base 47 47 52 i0 _ 3 32 underlying47 kn ic eI dz rfl (by decide) v0 m.length (KV m) ef a l.length cap (KV l) (C4 l) (fun j u hu=>by
   obtain ⟨hi,h⟩:=XJ hu;obtain rfl:=ha (by omega);have g1:=bL _ hi (j % 3) (by omega);rw [DD,← h,← g1];congr 2;omega) VU (by unfold maxLen;omega) (by omega) eE
  refine ⟨v',w',h1,?_,h3,h4⟩;unfold ig;rw [jB,KW];exact h2
 cases ad with
 | some a=>exact key a (fun h=>by have:=mx h;injection this)
 | none =>
   have hz:l.length=0:=by
    by_cases h:0<l.length
    ·have:=mx h;cases this
    ·omega
   have hf:l=[]:=yA hz;subst hf;refine ⟨v0,Z,?_,by rw [yC];exact ef,iV _ _,.inl rfl⟩;rcases ef.2 with ⟨rfl,_⟩ | ⟨g,c,fI,rfl,_,_,Vv,_⟩
   ·simp [Builtin.append_,run_underlying underlying47,sizeOf,typeInfo,kn,Builtin.lenOf,Builtin.firstCells]
   ·simp [Builtin.append_,run_underlying underlying47,sizeOf,typeInfo,kn,Builtin.lenOf,Builtin.firstCells,storeCells]
    intro hc;exact absurd hc (by omega)
theorem AZ {g:Nat} {e:Ev} {t:TypeId} (h:W.heap[g]? = some (.cells cs t (0,0))) (hc:cs=(ec e).toArray):nJ W (.slice (some ⟨g,0,none⟩) 1 1) [e]:=by
 subst hc;refine ⟨_,1,g,0,rfl,aY _,fun _=>rfl,fun i hi j hj=>?_⟩;obtain rfl:i=0:=by simpa using hi
 rw [jg _ _ _ _ _ _ h,Ed];congr 1;omega
theorem fK:type_of% @Go.Proofs.YtlahonjmfecikaaGreatDoor.iL.fK:=@Go.Proofs.YtlahonjmfecikaaGreatDoor.iL.fK
theorem lU (h:cs.size=3):(prog.info? 52).map (·.size)=some cs.size:=by rw [h];kernel_rfl
theorem ZD (o c:Int) (s:ByteArray) (o' c':Int) (s':ByteArray) (W:World):(Op.equalIn 10000 52 (.agg #[.int .i64 o,.int .i64 c,.string s]) (.agg #[.int .i64 o',.int .i64 c',.string s'])).run prog W=.ok ((o==o')&&((c==c')&&(s.toList==s'.toList))) W:=by
 have hp:prog.stoodInHeld 52=false:=by kernel_rfl
 have hu:prog.underlying 52=some (.struct (prog.fieldsOf 52)):=by kernel_rfl
 have hf : (prog.fieldsOf 52).toList = [⟨"Op", 3, 0, false, "", "", 0⟩, ⟨"Code", 3, 1, false, "", "", 8⟩, ⟨"Data", 9, 2, false, "", "", 16⟩] := by kernel_rfl
 rw [run_equalIn_struct W 9999 52 _ _ hu hp,hf];have e3:∀ (p q:Int) (w:World),(Op.equalIn 9999 3 (.int .i64 p) (.int .i64 q)).run prog w=.ok (p==q) w:=fun p q w=>run_equalIn_int w 9998 3 .i64 .i64 p q underlying3
 have e9:∀ (p q:ByteArray) (w:World),(Op.equalIn 9999 9 (.string p) (.string q)).run prog w=.ok (p.toList==q.toList) w:=fun p q w=>run_equalIn_string w 9998 9 p q underlying9
 have p0:∀ (o c:Int) (s:ByteArray) (w:World),(part 3 #[.int .i64 o,.int .i64 c,.string s] 0).run prog w=.ok (.int .i64 o) w:=fun o c s w=>by kernel_rfl
 have p1:∀ (o c:Int) (s:ByteArray) (w:World),(part 3 #[.int .i64 o,.int .i64 c,.string s] 1).run prog w=.ok (.int .i64 c) w:=fun o c s w=>by kernel_rfl
 have p2:∀ (o c:Int) (s:ByteArray) (w:World),(part 9 #[.int .i64 o,.int .i64 c,.string s] 2).run prog w=.ok (.string s) w:=fun o c s w=>by kernel_rfl
 have n0 : ("Op" ≠ "_") = True := eq_true (by decide);have n1 : ("Code" ≠ "_") = True := eq_true (by decide);have n2 : ("Data" ≠ "_") = True := eq_true (by decide);cases h0:(o==o')<;>cases h1:(c==c')<;>cases h2:(s.toList==s'.toList)<;>
  simp only [Op.eqFields,n0,n1,n2,if_true,rE,Sem.run_pure,Sem.run_ite,p0,p1,p2,e3,e9,h0,h1,h2,Result.andThen_ok,Bool.not_true,Bool.not_false,UM,if_false,JF,Dz,Bool.and_true]
theorem VX (o c:Int) (s:ByteArray) (W:World):(Op.equalIn 10000 52 (.agg #[.int .i64 o,.int .i64 c,.string s]) (.agg #[.int .i64 o,.int .i64 c,.string s])).run prog W=.ok true W :=
 (ZD o c s o c s W).trans (lG (fun b=>Result.ok b W) (by simp))
theorem iq:type_of% @Go.Proofs.YtlahonjmfecikaaGreatDoor.jG.iq:=@Go.Proofs.YtlahonjmfecikaaGreatDoor.jG.iq
theorem xK {α:Type} (d:α) (n:Nat) (p:Nat→α→Prop) (h:∀ i,i<n→∃ x,p i x):∃ l:List α,l.length=n∧∀ i,i<n→p i (l.getD i d):=by
 induction n with
 | zero=>exact ⟨[],rfl,fun i hi=>absurd hi (Fz _)⟩
 | succ n ih =>
   obtain ⟨l,hl,hp⟩:=ih (fun i hi=>h i (by omega));obtain ⟨x,hx⟩:=h n (by omega);refine ⟨l++[x],by simp [hl],fun i hi=>?_⟩;by_cases eV:i<n
   ·have e:(l++[x]).getD i d=l.getD i d:=by
     simp only [iw];rw [Ec (by omega)]
    rw [e];exact hp i eV
   ·obtain rfl:i=n:=by omega
    have e:(l++[x]).getD i d=x:=by
     simp only [iw];rw [QC (by omega)];simp [hl]
    rw [e];exact hx
theorem PW (es:List Ev) (u x:Value) (w:World) (hu:nJ w u es) (hx:nJ w x es) (hl:es.length≤1000000):Calls prog 29 #[u,x] w fun e w'=>e=.returned (.bool true)∧Sl (Below w.heap.size w w'):=by
 obtain ⟨a,c,rfl⟩:=hu.slice;obtain ⟨a',c',rfl⟩:=hx.slice;have HU:=Sl.mk hu;have HX:=Sl.mk hx;obtain ⟨n,hn⟩:=zX es.length;rw [hn] at HU HX ⊢;have HN:=Sl.mk hn;rw [hn] at hl;clear hu hx hn;go_enter func29,ntmps29;go_wp2;go_loopw [5] (fun i wr=>∃ k:Nat,i=.int .i64 (k:Int)∧k≤n∧Sl (Below w.heap.size w wr)) (fun i _=>n-(intOf i).toNat)
 case atStart=>exact ⟨0,rfl,ku _,⟨dW _ _⟩⟩
 case round =>
  obtain ⟨k,rfl,gf,HB⟩:=hrel;by_cases bz:k<n
  ·have hq:((k:Int)<(n:Int))=True:=eq_true (by omega)
   obtain ⟨sb,so,rfl⟩:=HU.ah.cap.2.2 (by omega);obtain ⟨xz,xD,rfl⟩:=HX.ah.cap.2.2 (by omega);obtain ⟨o,cd,d,he⟩:∃ o cd d,es.getD k XH=⟨o,cd,d⟩:=⟨_,_,_,rfl⟩;have hs:=VX o cd (aF d);obtain ⟨c0,c1,c2⟩:=((HU.ah.below HB.ah).below (dW _ _).drew).VW k (by rw [HN.ah];exact bz) he;obtain ⟨d0,d1,d2⟩:=((HX.ah.below HB.ah).below (dW _ _).drew).VW k (by rw [HN.ah];exact bz) he;obtain ⟨S,hS⟩:=zX (aF d);rw [hS] at hs c2 d2;clear he hS;go_upto_region 6 with fail
   go_still (by kernel_rfl)
   go_wp2;exact ⟨⟨k+1,by go_num,by omega,⟨HB.ah.drew⟩⟩,by simp [intOf];omega⟩
  ·obtain rfl:k=n:=by omega
   have hq:((k:Int)<(k:Int))=False:=dR (by omega);go_wp2;go_ret;exact ⟨rfl,HB⟩
end
end Go.Proofs.YtlahonjmfecikaaGreatDoor.KU
