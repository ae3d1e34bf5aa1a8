/- Texts, joined. -/
import Derived.Test.YtlahonjmfecikaaGreatDoorXc
import Derived.Test.YtlahonjmfecikaaGreatDoorXn
set_option maxRecDepth 100000
set_option maxHeartbeats 64000000
set_option linter.unusedVariables false
set_option linter.unusedSimpArgs false
open Go.Proofs.Tryz
namespace Go.Proofs.YtlahonjmfecikaaGreatDoor.jS
open Go.RowKit aO aC aV jF gK
section
variable {s:ByteArray}
theorem Uz {W:World} {ev:Operand→Value} {o:Oper} {x y:Operand} {n:Nat} (ho:o.op=.slice 9 x (some y) none none) (hx:ev x=.string s) (hy:ev y=.int .i64 (n:Int)) (h:n≤s.size):(execOp ev o).run prog W=.ok (.value (.string (s.extract n s.size))) W:=by
 simp only [execOp,ho,hx,hy,Dy,Option.map_none];have h':(n:Int)≤(s.size:Int):=by omega
 go_simp
theorem Qp {x:Nat} {xs:List Nat} (h:bytes s=x :: xs):bytes (s.extract 0 1)=[x]:=by
 rw [bC,h];rfl
theorem LC (s:ByteArray) (af:Bool) (ae:Int) (w:World) (hs:s.size≤100000) (kw:ae≤9223372036854775807):Calls prog 63 #[.string s,.bool af,.int .i64 ae] w fun e w'=>e=.returned (lN (one (bytes s) af ae))∧Sl (Below w.heap.size w w'):=by
 obtain ⟨f,n,k,tT⟩:∃ f n k,eX (bytes s) ae=(f,n,k):=⟨_,_,_,rfl⟩;obtain ⟨rf,ro,rm,ka,kb,kc,kd,rd,cK⟩:=jT f;have FW:∀ V,Calls prog 94 #[.string s,.int .i64 ae] V fun e w'=>e=.returned (.tuple #[.agg (zV rf ro rm ka kb kc kd rd),.int .i64 (n:Int),.int .i64 (k:Int)])∧Sl (Below V.heap.size V w'):=fun V=>by
  have:=Aa s ae V hs kw;rw [tT,lN,cK] at this;exact this
 obtain ⟨w1,bA⟩:=zX (w.alloc (.cells zZ 61));have bi:Sl (Below w.heap.size w w1):=⟨by rw [← bA];exact (fQ w _).ah⟩;have my:Sl (w1.heap[w.heap.size]? = some (.cells zZ 61 (0,0))):=⟨by rw [← bA];exact dQ _ _⟩;by_cases h0:s.size=0
 ·have hb:bytes s=[]:=yA (by rw [au];exact h0)
  have HQ:Sl (lN (one (bytes s) af ae)=.tuple #[.agg (zV rf ro rm ka kb kc kd rd),.int .i64 (n:Int),.int .i64 (k:Int)]):=⟨by
   rw [yN (by rw [hb];decide),tT,lN,cK]⟩
  have nf:((s.size:Int)>0)=False:=dR (by omega);have af5:(0<s.size)=False:=dR (by omega);have mw:((s.size:Int)>1)=False:=dR (by omega);clear tT cK hs kw hb h0;go_enter func63,ntmps63;go_wp2_with fail
  refine (FW w1).mono ?_;rintro e w4 ⟨rfl,cx⟩;have br:Sl (Below w.heap.size w w4):=⟨bi.ah.trans (cx.ah.mono bi.ah.size)⟩;have iN:Sl (w4.heap[w.heap.size]? = some (.cells zZ 61 (0,0))):=⟨ay my.ah cx.ah⟩;clear FW cx;have HI:=aW (cs:=(zV rf ro rm ka kb kc kd rd)) rfl;go_wp2_with (refine fG rfl 61 (.tmp 6) (.tmp 41) rfl w.heap.size (zV rf ro rm ka kb kc kd rd) rfl rfl 61 zZ iN.ah HI rfl (aZ _ _ _ _ _ _ _ _) ?_)
  refine gX (dw rfl _ _ w.heap.size 61 _ (0,0) rfl (gY _ _ _ _ _ _ iN.ah) rfl) rfl ?_;rw [HQ.ah];exact ⟨rfl,⟨below_setRow br.ah (aY _) _⟩⟩
 ·obtain ⟨x,xs,hb⟩:∃ x xs,bytes s=x :: xs:=by
   cases h:bytes s with
   | nil=>rw [← au,h] at h0;exact absurd rfl h0
   | cons x xs=>exact ⟨x,xs,rfl⟩
  have hx:x<256:=aJ s x (by rw [hb];simp);have nf:((s.size:Int)>0)=True:=eq_true (by omega);have af5:(0<s.size)=True:=eq_true (by omega);obtain ⟨f1,n1,k1,gA⟩:∃ f n k,eX [x] ae=(f,n,k):=⟨_,_,_,rfl⟩;obtain ⟨tA,tB,tD,tE,tF,tG,tI,tL,tM⟩:=jT f1;have F1:∀ V,Calls prog 94 #[.string (s.extract 0 1),.int .i64 ae] V fun e w'=>e=.returned (.tuple #[.agg (zV tA tB tD tE tF tG tI tL),.int .i64 (n1:Int),.int .i64 (k1:Int)])∧Sl (Below V.heap.size V w'):=fun V=>by
   have:=Aa (s.extract 0 1) ae V (by rw [DJ];omega) kw;rw [Qp hb,gA,lN,tM] at this;exact this
  have dC:=yL x ae;rw [gA] at dC;simp only at dC;have alb:1≤s.size:=by omega
  by_cases cX:gG x=true
  ·rw [if_pos cX] at dC
   subst dC;have HQ:Sl (lN (one (bytes s) af ae)=.tuple #[.agg zZ,.int .i64 0,.int .i64 91]):=⟨by rw [hb,iR,if_pos cX];rfl⟩;have xV:(((91:Nat):Int)==91)=true:=rfl;clear tT cK hs kw hb h0 hx gA tM cX FW;go_enter func63,ntmps63;go_wp2_with fail
   refine (F1 w1).mono ?_;rintro e w2 ⟨rfl,bw⟩;obtain ⟨w3,cH⟩:=zX ((w2.alloc (.cells zZ 61)).setRow w2.heap.size (zV tA tB tD tE tF tG tI tL));have cI:Sl (Below w2.heap.size w2 w3):=⟨by rw [← cH];exact mh w2 (zV tA tB tD tE tF tG tI tL)⟩;have bv:Sl (Below w.heap.size w w3):=⟨(bi.ah.trans (bw.ah.mono bi.ah.size)).trans (cI.ah.mono (bi.ah.trans (bw.ah.mono bi.ah.size)).size)⟩;have dg:Sl (w3.heap[w.heap.size]? = some (.cells zZ 61 (0,0))):=⟨ay (ay my.ah bw.ah) cI.ah⟩;have sj:=aW (cs:=(zV tA tB tD tE tF tG tI tL)) rfl;clear F1 bw cI;go_upto_region 3 with (refine fG rfl 61 (.tmp 9) (.tmp 20) rfl w2.heap.size (zV tA tB tD tE tF tG tI tL) rfl rfl 61 zZ (dQ w2 _) sj rfl (aZ _ _ _ _ _ _ _ _) ?_)
   clear sj;have HI:=aW (cs:=zZ) rfl;go_wp2_with (refine fG rfl 61 (.tmp 6) (.tmp 25) rfl w.heap.size zZ rfl rfl 61 zZ dg.ah HI rfl (aZ _ _ _ _ _ _ _ _) ?_)
   refine gX (dw rfl _ _ w.heap.size 61 _ (0,0) rfl (gY _ _ _ _ _ _ dg.ah) rfl) rfl ?_;rw [HQ.ah];exact ⟨rfl,⟨below_setRow bv.ah (aY _) _⟩⟩
  ·rw [if_neg cX] at dC
   subst dC;have xV:(((90:Nat):Int)==91)=false:=rfl;have Mx:gG x=false:=by simpa using cX
   by_cases h1:s.size=1
   ·have mw:((s.size:Int)>1)=False:=dR (by omega)
    have HQ:Sl (lN (one (bytes s) af ae)=.tuple #[.agg (zV rf ro rm ka kb kc kd rd),.int .i64 (n:Int),.int .i64 (k:Int)]):=⟨by
     rw [yN (by rw [au];omega),tT,lN,cK]⟩
    clear tT cK hs kw hb h0 hx gA tM cX Mx h1;go_enter func63,ntmps63;go_wp2_with fail
    refine (F1 w1).mono ?_;rintro e w2 ⟨rfl,bw⟩;obtain ⟨w3,cH⟩:=zX ((w2.alloc (.cells zZ 61)).setRow w2.heap.size (zV tA tB tD tE tF tG tI tL));have cI:Sl (Below w2.heap.size w2 w3):=⟨by rw [← cH];exact mh w2 (zV tA tB tD tE tF tG tI tL)⟩;have bv:Sl (Below w.heap.size w w3):=⟨(bi.ah.trans (bw.ah.mono bi.ah.size)).trans (cI.ah.mono (bi.ah.trans (bw.ah.mono bi.ah.size)).size)⟩;have dg:Sl (w3.heap[w.heap.size]? = some (.cells zZ 61 (0,0))):=⟨ay (ay my.ah bw.ah) cI.ah⟩;have sj:=aW (cs:=(zV tA tB tD tE tF tG tI tL)) rfl;clear F1 bw cI;go_upto_region 3 with (refine fG rfl 61 (.tmp 9) (.tmp 20) rfl w2.heap.size (zV tA tB tD tE tF tG tI tL) rfl rfl 61 zZ (dQ w2 _) sj rfl (aZ _ _ _ _ _ _ _ _) ?_)
    clear sj;go_wp2_with fail
    refine (FW w3).mono ?_;rintro e w4 ⟨rfl,cx⟩;have br:Sl (Below w.heap.size w w4):=⟨bv.ah.trans (cx.ah.mono bv.ah.size)⟩;have iN:Sl (w4.heap[w.heap.size]? = some (.cells zZ 61 (0,0))):=⟨ay dg.ah cx.ah⟩;clear FW cx;have HI:=aW (cs:=(zV rf ro rm ka kb kc kd rd)) rfl;go_wp2_with (refine fG rfl 61 (.tmp 6) (.tmp 41) rfl w.heap.size (zV rf ro rm ka kb kc kd rd) rfl rfl 61 zZ iN.ah HI rfl (aZ _ _ _ _ _ _ _ _) ?_)
    refine gX (dw rfl _ _ w.heap.size 61 _ (0,0) rfl (gY _ _ _ _ _ _ iN.ah) rfl) rfl ?_;rw [HQ.ah];exact ⟨rfl,⟨below_setRow br.ah (aY _) _⟩⟩
   ·have mw:((s.size:Int)>1)=True:=eq_true (by omega)
    obtain ⟨y,ys,cG⟩:∃ y ys,bytes s=x :: y :: ys:=by
     cases xs with
     | nil=>have:=lG List.length hb;rw [au] at this;exact absurd this h1
     | cons y ys=>exact ⟨y,ys,hb⟩
    have hy:y<256:=aJ s y (by rw [cG];simp);have tS:1<s.size:=by omega
    have ue:(s[1]'tS).toNat=y:=by
     have h:=dL s 1 tS;rw [cG] at h;exact h.symm
    obtain ⟨u,hu⟩:=zX (decide (128≤y) != af);have hud:(decide ((128:Int)≤(y:Int)))=decide (128≤y):=decide_eq_decide.2 (by omega);obtain ⟨dd,mH⟩:=zX (decide (128≤y));rw [mH] at hud;cases u with
    | false =>
      have HQ:Sl (lN (one (bytes s) af ae)=.tuple #[.agg (zV rf ro rm ka kb kc kd rd),.int .i64 (n:Int),.int .i64 (k:Int)]):=⟨by
       rw [cG,Ic hu,← cG,tT,lN,cK]⟩
      rw [mH] at hu;have hu2:(!(dd==af))=false:=hu;clear tT cK hs kw hb cG h0 hx gA tM cX Mx h1 mH hu;go_enter func63,ntmps63;go_wp2_with fail
      refine (F1 w1).mono ?_;rintro e w2 ⟨rfl,bw⟩;obtain ⟨w3,cH⟩:=zX ((w2.alloc (.cells zZ 61)).setRow w2.heap.size (zV tA tB tD tE tF tG tI tL));have cI:Sl (Below w2.heap.size w2 w3):=⟨by rw [← cH];exact mh w2 (zV tA tB tD tE tF tG tI tL)⟩;have bv:Sl (Below w.heap.size w w3):=⟨(bi.ah.trans (bw.ah.mono bi.ah.size)).trans (cI.ah.mono (bi.ah.trans (bw.ah.mono bi.ah.size)).size)⟩;have dg:Sl (w3.heap[w.heap.size]? = some (.cells zZ 61 (0,0))):=⟨ay (ay my.ah bw.ah) cI.ah⟩;have sj:=aW (cs:=(zV tA tB tD tE tF tG tI tL)) rfl;clear F1 bw cI;go_upto_region 3 with (refine fG rfl 61 (.tmp 9) (.tmp 20) rfl w2.heap.size (zV tA tB tD tE tF tG tI tL) rfl rfl 61 zZ (dQ w2 _) sj rfl (aZ _ _ _ _ _ _ _ _) ?_)
      clear sj;go_wp2_with fail
      refine (FW w3).mono ?_;rintro e w4 ⟨rfl,cx⟩;have br:Sl (Below w.heap.size w w4):=⟨bv.ah.trans (cx.ah.mono bv.ah.size)⟩;have iN:Sl (w4.heap[w.heap.size]? = some (.cells zZ 61 (0,0))):=⟨ay dg.ah cx.ah⟩;clear FW cx;have HI:=aW (cs:=(zV rf ro rm ka kb kc kd rd)) rfl;go_wp2_with (refine fG rfl 61 (.tmp 6) (.tmp 41) rfl w.heap.size (zV rf ro rm ka kb kc kd rd) rfl rfl 61 zZ iN.ah HI rfl (aZ _ _ _ _ _ _ _ _) ?_)
      refine gX (dw rfl _ _ w.heap.size 61 _ (0,0) rfl (gY _ _ _ _ _ _ iN.ah) rfl) rfl ?_;rw [HQ.ah];exact ⟨rfl,⟨below_setRow br.ah (aY _) _⟩⟩
    | true =>
      have HQ:Sl (lN (one (bytes s) af ae)=.tuple #[.agg zZ,.int .i64 0,.int .i64 100]):=⟨by rw [cG,BJ Mx hu];rfl⟩;rw [mH] at hu;have hu2:(!(dd==af))=true:=hu;clear tT cK hs kw hb cG h0 hx gA tM cX Mx h1 mH hu FW;go_enter func63,ntmps63;go_wp2_with fail
      refine (F1 w1).mono ?_;rintro e w2 ⟨rfl,bw⟩;obtain ⟨w3,cH⟩:=zX ((w2.alloc (.cells zZ 61)).setRow w2.heap.size (zV tA tB tD tE tF tG tI tL));have cI:Sl (Below w2.heap.size w2 w3):=⟨by rw [← cH];exact mh w2 (zV tA tB tD tE tF tG tI tL)⟩;have bv:Sl (Below w.heap.size w w3):=⟨(bi.ah.trans (bw.ah.mono bi.ah.size)).trans (cI.ah.mono (bi.ah.trans (bw.ah.mono bi.ah.size)).size)⟩;have dg:Sl (w3.heap[w.heap.size]? = some (.cells zZ 61 (0,0))):=⟨ay (ay my.ah bw.ah) cI.ah⟩;have sj:=aW (cs:=(zV tA tB tD tE tF tG tI tL)) rfl;clear F1 bw cI;go_upto_region 3 with (refine fG rfl 61 (.tmp 9) (.tmp 20) rfl w2.heap.size (zV tA tB tD tE tF tG tI tL) rfl rfl 61 zZ (dQ w2 _) sj rfl (aZ _ _ _ _ _ _ _ _) ?_)
      clear sj;have HI:=aW (cs:=zZ) rfl;go_wp2_with (refine fG rfl 61 (.tmp 6) (.tmp 37) rfl w.heap.size zZ rfl rfl 61 zZ dg.ah HI rfl (aZ _ _ _ _ _ _ _ _) ?_)
      refine gX (dw rfl _ _ w.heap.size 61 _ (0,0) rfl (gY _ _ _ _ _ _ dg.ah) rfl) rfl ?_;rw [HQ.ah];exact ⟨rfl,⟨below_setRow bv.ah (aY _) _⟩⟩
theorem Ea {w w1 w2:World} {r:Option Nat} (k:Below w.heap.size w w1) (h:w1.grownBy w2 r):w.grownBy w2 r :=
 ⟨h.os.trans k.os,h.tape.trans k.tape,h.output.trans k.output,jd k.size h.size,fun j hj eW=>(h.block j (NQ hj k.size) eW).trans (k.block j hj)⟩
def OS (v:Value):Nat:=match v with | .string s=>s.size | _=>0
theorem mF (s:ByteArray) (af:Bool) (ae:Int) (w:World) (hs:s.size≤100000) (kw:ae≤9223372036854775807) (gs:List Fr) (e lf:Nat) (dx:all (bytes s) af ae=(gs,e,lf)) :
 Calls prog 26 #[.string s,.bool af,.int .i64 ae] w fun x w'=>∃ vf,x=.returned (.tuple #[vf,.int .i64 (e:Int),.int .i64 (lf:Int)])∧Sl (gZ w' w.heap.size vf gs)∧Sl (Below w.heap.size w w'):=by
 have gE:=Sl.mk dx;have HS:=Sl.mk hs;have N3:=Sl.mk kw;have HO0:Sl (gZ (w.alloc (.cells #[] 61)) w.heap.size (.slice (some ⟨w.heap.size,0,none⟩) 0 0) []):=⟨World.ownsRow_lit w #[] 0 (aY _) (by decide) rfl⟩;have oA:Sl (Below w.heap.size w (w.alloc (.cells #[] 61))):=⟨(dW _ _).alloc (aY _) _⟩;clear dx hs kw;go_enter func26,ntmps26;go_wp2;go_loopw [0,9] (fun y u0 wr=>∃ (S0:ByteArray) (u:Value) (fs:List Fr),y=.string S0∧u=u0∧Sl (all (bytes s) af ae=(fs++(all (bytes S0) af ae).1,(all (bytes S0) af ae).2))∧Sl (S0.size≤s.size∧2*fs.length+S0.size≤s.size)∧Sl (gZ wr w.heap.size u fs)∧Sl (Below w.heap.size w wr)) (fun y _ _=>OS y)
 case atStart=>exact ⟨s,_,[],rfl,rfl,⟨rfl⟩,⟨aY _,by simp⟩,HO0,oA⟩
 case round =>
  obtain ⟨S0,u,fs,rfl,rfl,HA,bS,HO,HB⟩:=hrel;obtain ⟨f,n,k,Kh⟩:∃ f n k,one (bytes S0) af ae=(f,n,k):=⟨_,_,_,rfl⟩;have CO:=LC S0 af ae wr (by have:=bS.ah.1;have:=HS.ah;omega) N3.ah;obtain ⟨rf,ro,rm,ka,kb,kc,kd,rd,cK⟩:=jT f;rw [Kh,lN,cK] at CO;have eh:(cv f).toArray=(zV rf ro rm ka kb kc kd rd):=by have h:=cK;rw [F9] at h;injection h
  have eQ:=dX (bytes S0) af ae (aJ S0);rw [Kh] at eQ;simp only at eQ;have hn:=MI (aJ S0) Kh;rw [au] at hn;clear cK Kh;go_wp2_with fail
  refine CO.mono ?_;rintro e2 w2 ⟨rfl,bw⟩;clear CO;obtain ⟨w3,cH⟩:=zX ((w2.alloc (.cells zZ 61)).setRow w2.heap.size (zV rf ro rm ka kb kc kd rd));have cI:Sl (Below w2.heap.size w2 w3):=⟨by rw [← cH];exact mh w2 (zV rf ro rm ka kb kc kd rd)⟩;have df:Sl (Below wr.heap.size wr w3):=⟨bw.ah.trans (cI.ah.mono bw.ah.size)⟩;have bv:Sl (Below w.heap.size w w3):=⟨HB.ah.trans (df.ah.mono HB.ah.size)⟩;have wN:Sl (w3.heap[w2.heap.size]? = some (.cells (zV rf ro rm ka kb kc kd rd) 61 (0,0))):=⟨by rw [← cH];exact (F7 (zV rf ro rm ka kb kc kd rd) (dW _ _)).2⟩;have zm:=Sl.mk (HO.ah.below df.ah);have sj:=aW (cs:=(zV rf ro rm ka kb kc kd rd)) rfl;clear bw cI df HO HB;by_cases h9:k=90
  ·subst h9
   rw [if_pos rfl,au] at eQ;have ha:=HA.ah;rw [eQ,gE.ah] at ha;injection ha with ha1 ha
   injection ha with Bs Ow
   subst Bs Ow;have hO4:Sl (gZ w3 w.heap.size u gs):=⟨by rw [ha1,yC];exact zm.ah⟩;have xV:(((90:Nat):Int)==90)=true:=rfl;clear eQ hn HA bS zm gE ha1 eh wN;go_wp2_with (refine fG rfl 61 (.tmp 10) (.tmp 19) rfl w2.heap.size (zV rf ro rm ka kb kc kd rd) rfl rfl 61 zZ (dQ w2 _) sj rfl (aZ _ _ _ _ _ _ _ _) ?_)
   go_ret3
   exact ⟨u,rfl,hO4,bv⟩
  ·have xV:((k:Int)==90)=false:=by simp;omega
   rw [if_neg h9] at eQ;by_cases h0:k=0
   ·subst h0
    have yd:(((0:Nat):Int) != 0)=false:=rfl;rw [if_neg (by decide)] at eQ;have pD:=hn.2.2 rfl;have pH:Sl (n≤S0.size):=⟨hn.1⟩;have HA':Sl (all (bytes s) af ae=((fs++[f])++(all (bytes (S0.extract n S0.size)) af ae).1,(all (bytes (S0.extract n S0.size)) af ae).2)):=⟨by
     have h:=HA.ah;rw [eQ] at h;rw [h,bC,nC (by rw [au];exact aY _)];simp⟩
    have u2:(S0.extract n S0.size).size=S0.size-n:=by rw [DJ];omega
    have af7:Sl ((S0.extract n S0.size).size≤s.size∧2*(fs++[f]).length+(S0.extract n S0.size).size≤s.size):=⟨by
     have h1:=bS.ah;have h2:=pH.ah;rw [u2,jB];simp only [Fv];omega⟩
    have mT:Sl (fs.length+[f].length≤1000000):=⟨by have:=bS.ah.2;have:=HS.ah;simp;omega⟩;have af8:Sl ((S0.extract n S0.size).size<S0.size):=⟨by have:=pH.ah;omega⟩;clear eQ hn HA pD h9 u2;go_upto_region 7 with (refine fG rfl 61 (.tmp 10) (.tmp 19) rfl w2.heap.size (zV rf ro rm ka kb kc kd rd) rfl rfl 61 zZ (dQ w2 _) sj rfl (aZ _ _ _ _ _ _ _ _) ?_)
    refine zG (S:=fun _=>True) (by kernel_rfl) (fun Rw al=>?_);have uR:=ay wN.ah al;have Fl:=zm.ah.below al;obtain ⟨A7,hA7⟩:=zX (Rw.alloc (.cells (zV rf ro rm ka kb kc kd rd) 61));have BA7:Below Rw.heap.size Rw A7:=by rw [← hA7];exact (dW _ _).alloc (aY _) _
    have HOA:=Fl.below BA7;have hNA:w.heap.size≤A7.heap.size:=jd (jd bv.ah.size al.size) BA7.size;obtain ⟨u',w8,fX,sk,it,_⟩:=MH HOA (mP (W:=A7) (g:=Rw.heap.size) (f:=f) (by rw [← hA7];exact aI _ _ _ rfl) eh.symm) mT.ah hNA;refine zT 0 (some 31) (.move (.tmp 9)) _ trivial ?_;simp only [zA,zB,zS];refine zT 4 (some 35) (.move (.tmp 0)) _ trivial ?_;simp only [zA,zB,zS];refine zT 5 (some 36) (.move (.tmp 11)) _ trivial ?_;simp only [zA,zB,zS];refine zT 6 (some 37) (.slice 9 (.tmp 35) (some (.tmp 36)) none none) (.string (S0.extract n S0.size)) trivial ?_ (hy:=fun o' ho W hS=>Uz ho (by rfl) (by rfl) pH.ah);simp only [zA,zB,zS];refine zR 1 (some 32) (.load 61 (.tmp 10)) 61 (.agg (zV rf ro rm ka kb kc kd rd)) Rw trivial ?_ (hy:=fun o' ho ht=>BH ho (by rfl) rfl uR);simp only [zA,zB,zS];refine zR 2 (some 33) (.buildSlice 34 1 #[(0,.tmp 32)]) 34 (.slice (some ⟨Rw.heap.size,0,none⟩) 1 1) A7 trivial ?_ (hy:=fun o' ho ht=>by simp only [execOp,ho];go_simp;first | done | rw [hA7] | rfl);simp only [zA,zB,zS];refine zR 3 (some 34) (.call {callee:=.builtin .append,args:=#[.tmp 31,.tmp 33],argTypes:=#[34,34]}) 34 u' w8 trivial ?_ (hy:=fun o' ho ht=>wR ho ht (by rfl) (by rfl) fX);simp only [zA,zB,zS];refine zT 7 (some 9) (.assign (.tmp 34)) _ trivial ?_;simp only [zA,zB,zS];refine zT 8 (some 0) (.assign (.tmp 37)) _ trivial ?_;simp only [Act.put,List.setIfInBounds_toArray,List.set_cons_zero];refine zE (by kernel_rfl) ?_;have aga:=Sl.mk sk;have lA:Sl (Below w.heap.size w w8):=⟨(bv.ah.trans ((al.mono bv.ah.size))).grown ((Ea BA7 it)) (jd bv.ah.size al.size) (fun g hg=>HOA.ge hg)⟩;clear al uR Fl BA7 HOA hNA fX sk it hA7 wN zm bv;go_wp2;exact ⟨⟨S0.extract n S0.size,u',fs++[f],rfl,rfl,HA',af7,aga,lA⟩,af8.ah⟩
   ·have yd:((k:Int) != 0)=true:=by simp;omega
    rw [if_pos h0] at eQ;have ha:=HA.ah;rw [eQ,gE.ah] at ha;injection ha with ha1 ha
    injection ha with Bs Ow
    subst Bs Ow;have hO4:Sl (gZ w3 w.heap.size u gs):=⟨by rw [ha1,yC];exact zm.ah⟩;clear eQ hn HA bS zm gE ha1 eh wN h0 h9;go_wp2_with (refine fG rfl 61 (.tmp 10) (.tmp 19) rfl w2.heap.size (zV rf ro rm ka kb kc kd rd) rfl rfl 61 zZ (dQ w2 _) sj rfl (aZ _ _ _ _ _ _ _ _) ?_)
    go_ret3
    exact ⟨u,rfl,hO4,bv⟩
end
end Go.Proofs.YtlahonjmfecikaaGreatDoor.jS
