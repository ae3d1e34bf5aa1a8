/- Texts, joined. -/
import Derived.Test.YtlahonjmfecikaaGreatDoorXa
import Derived.Test.YtlahonjmfecikaaGreatDoorXc
import Derived.Test.YtlahonjmfecikaaGreatDoorXd
import Derived.Test.YtlahonjmfecikaaGreatDoorXf
import Derived.Test.YtlahonjmfecikaaGreatDoorXj
import Derived.Test.YtlahonjmfecikaaGreatDoorXk
import Derived.Test.YtlahonjmfecikaaGreatDoorXl
set_option maxRecDepth 100000
set_option maxHeartbeats 64000000
set_option linter.unusedVariables false
set_option linter.unusedSimpArgs false
open Go.Proofs.Tryz
namespace Go.Proofs.YtlahonjmfecikaaGreatDoor.jS
open Go.RowKit aO aC aV jF gK
section
variable {s:ByteArray}
theorem Uz {W:World} {ev:Operand→Value} {o:Oper} {x y:Operand} {n:Nat} (ho:o.op=.slice 9 x (some y) none none) (hx:ev x=.string s) (hy:ev y=.int .i64 (n:Int)) (h:n≤s.size):(execOp ev o).run prog W=.ok (.value (.string (s.extract n s.size))) W:=by
 simp only [execOp,ho,hx,hy,Dy,Option.map_none];have h':(n:Int)≤(s.size:Int):=by omega
 go_simp
theorem Qp {x:Nat} {xs:List Nat} (h:bytes s=x :: xs):bytes (s.extract 0 1)=[x]:=by
 rw [bC,h];rfl
theorem LC (s:ByteArray) (af:Bool) (ae:Int) (w:World) (hs:s.size≤100000) (kw:ae≤9223372036854775807):Calls prog 63 #[.string s,.bool af,.int .i64 ae] w fun e w'=>e=.returned (lN (one (bytes s) af ae))∧Sl (Below w.heap.size w w'):=by
 obtain ⟨f,n,k,tT⟩:∃ f n k,eX (bytes s) ae=(f,n,k):=⟨_,_,_,rfl⟩;obtain ⟨rf,ro,rm,ka,kb,kc,kd,rd,cK⟩:=jT f;have FW:∀ V,Calls prog 94 #[.string s,.int .i64 ae] V fun e w'=>e=.returned (.tuple #[.agg (zV rf ro rm ka kb kc kd rd),.int .i64 (n:Int),.int .i64 (k:Int)])∧Sl (Below V.heap.size V w'):=fun V=>by
  have:=Aa s ae V hs kw;rw [tT,lN,cK] at this;exact this
 obtain ⟨w1,bA⟩:=zX (w.alloc (.cells zZ 61));have bi:Sl (Below w.heap.size w w1):=⟨by rw [← bA];exact (fQ w _).ah⟩;have my:Sl (w1.heap[w.heap.size]? = some (.cells zZ 61 (0,0))):=⟨by rw [← bA];exact dQ _ _⟩;by_cases h0:s.size=0
 ·have hb:bytes s=[]:=yA (by rw [au];exact h0)
  have HQ:Sl (lN (one (bytes s) af ae)=.tuple #[.agg (zV rf ro rm ka kb kc kd rd),.int .i64 (n:Int),.int .i64 (k:Int)]):=⟨by
   rw [yN (by rw [hb];decide),tT,lN,cK]⟩
  have nf:((s.size:Int)>0)=False:=dR (by omega);have af5:(0<s.size)=False:=dR (by omega);have mw:((s.size:Int)>1)=False:=dR (by omega);clear tT cK hs kw hb h0;go_enter func63,ntmps63;go_wp2_with fail
  refine (FW w1).mono ?_;rintro e w4 ⟨rfl,cx⟩;have br:Sl (Below w.heap.size w w4):=⟨bi.ah.trans (cx.ah.mono bi.ah.size)⟩;have iN:Sl (w4.heap[w.heap.size]? = some (.cells zZ 61 (0,0))):=⟨ay my.ah cx.ah⟩;clear FW cx;have HI:=aW (cs:=(zV rf ro rm ka kb kc kd rd)) rfl;go_wp2_with (refine fG rfl 61 (.tmp 6) (.tmp 41) rfl w.heap.size (zV rf ro rm ka kb kc kd rd) rfl rfl 61 zZ iN.ah HI rfl (aZ _ _ _ _ _ _ _ _) ?_)
  refine gX (dw rfl _ _ w.heap.size 61 _ (0,0) rfl (gY _ _ _ _ _ _ iN.ah) rfl) rfl ?_;rw [HQ.ah];exact ⟨rfl,⟨below_setRow br.ah (aY _) _⟩⟩
 ·obtain ⟨x,xs,hb⟩:∃ x xs,bytes s=x :: xs:=by
   cases h:bytes s with
   | nil=>rw [← au,h] at h0;exact absurd rfl h0
   | cons x xs=>exact ⟨x,xs,rfl⟩
  have hx:x<256:=aJ s x (by rw [hb];simp);have nf:((s.size:Int)>0)=True:=eq_true (by omega);have af5:(0<s.size)=True:=eq_true (by omega);obtain ⟨f1,n1,k1,gA⟩:∃ f n k,eX [x] ae=(f,n,k):=⟨_,_,_,rfl⟩;obtain ⟨tA,tB,tD,tE,tF,tG,tI,tL,tM⟩:=jT f1;have F1:∀ V,Calls prog 94 #[.string (s.extract 0 1),.int .i64 ae] V fun e w'=>e=.returned (.tuple #[.agg (zV tA tB tD tE tF tG tI tL),.int .i64 (n1:Int),.int .i64 (k1:Int)])∧Sl (Below V.heap.size V w'):=fun V=>by
   have:=Aa (s.extract 0 1) ae V (by rw [DJ];omega) kw;rw [Qp hb,gA,lN,tM] at this;exact this
  have dC:=yL x ae;rw [gA] at dC;simp only at dC;have alb:1≤s.size:=by omega
  by_cases cX:gG x=true
  ·rw [if_pos cX] at dC
   subst dC;have HQ:Sl (lN (one (bytes s) af ae)=.tuple #[.agg zZ,.int .i64 0,.int .i64 91]):=⟨by rw [hb,iR,if_pos cX];rfl⟩;have xV:(((91:Nat):Int)==91)=true:=rfl;clear tT cK hs kw hb h0 hx gA tM cX FW;go_enter func63,ntmps63;go_wp2_with fail
   refine (F1 w1).mono ?_;rintro e w2 ⟨rfl,bw⟩;obtain ⟨w3,cH⟩:=zX ((w2.alloc (.cells zZ 61)).setRow w2.heap.size (zV tA tB tD tE tF tG tI tL));have cI:Sl (Below w2.heap.size w2 w3):=⟨by rw [← cH];exact mh w2 (zV tA tB tD tE tF tG tI tL)⟩;have bv:Sl (Below w.heap.size w w3):=⟨(bi.ah.trans (bw.ah.mono bi.ah.size)).trans (cI.ah.mono (bi.ah.trans (bw.ah.mono bi.ah.size)).size)⟩;have dg:Sl (w3.heap[w.heap.size]? = some (.cells zZ 61 (0,0))):=⟨ay (ay my.ah bw.ah) cI.ah⟩;have sj:=aW (cs:=(zV tA tB tD tE tF tG tI tL)) rfl;clear F1 bw cI;go_upto_region 3 with (refine fG rfl 61 (.tmp 9) (.tmp 20) rfl w2.heap.size (zV tA tB tD tE tF tG tI tL) rfl rfl 61 zZ (dQ w2 _) sj rfl (aZ _ _ _ _ _ _ _ _) ?_)
   clear sj;have HI:=aW (cs:=zZ) rfl;go_wp2_with (refine fG rfl 61 (.tmp 6) (.tmp 25) rfl w.heap.size zZ rfl rfl 61 zZ dg.ah HI rfl (aZ _ _ _ _ _ _ _ _) ?_)
   refine gX (dw rfl _ _ w.heap.size 61 _ (0,0) rfl (gY _ _ _ _ _ _ dg.ah) rfl) rfl ?_;rw [HQ.ah];exact ⟨rfl,⟨below_setRow bv.ah (aY _) _⟩⟩
  ·rw [if_neg cX] at dC
   subst dC;have xV:(((90:Nat):Int)==91)=false:=rfl;have Mx:gG x=false:=by simpa using cX
   by_cases h1:s.size=1
   ·have mw:((s.size:Int)>1)=False:=dR (by omega)
    have HQ:Sl (lN (one (bytes s) af ae)=.tuple #[.agg (zV rf ro rm ka kb kc kd rd),.int .i64 (n:Int),.int .i64 (k:Int)]):=⟨by
     rw [yN (by rw [au];omega),tT,lN,cK]⟩
    clear tT cK hs kw hb h0 hx gA tM cX Mx h1;go_enter func63,ntmps63;go_wp2_with fail
    refine (F1 w1).mono ?_;rintro e w2 ⟨rfl,bw⟩;obtain ⟨w3,cH⟩:=zX ((w2.alloc (.cells zZ 61)).setRow w2.heap.size (zV tA tB tD tE tF tG tI tL));have cI:Sl (Below w2.heap.size w2 w3):=⟨by rw [← cH];exact mh w2 (zV tA tB tD tE tF tG tI tL)⟩;have bv:Sl (Below w.heap.size w w3):=⟨(bi.ah.trans (bw.ah.mono bi.ah.size)).trans (cI.ah.mono (bi.ah.trans (bw.ah.mono bi.ah.size)).size)⟩;have dg:Sl (w3.heap[w.heap.size]? = some (.cells zZ 61 (0,0))):=⟨ay (ay my.ah bw.ah) cI.ah⟩;have sj:=aW (cs:=(zV tA tB tD tE tF tG tI tL)) rfl;clear F1 bw cI;go_upto_region 3 with (refine fG rfl 61 (.tmp 9) (.tmp 20) rfl w2.heap.size (zV tA tB tD tE tF tG tI tL) rfl rfl 61 zZ (dQ w2 _) sj rfl (aZ _ _ _ _ _ _ _ _) ?_)
    clear sj;go_wp2_with fail
    refine (FW w3).mono ?_;rintro e w4 ⟨rfl,cx⟩;have br:Sl (Below w.heap.size w w4):=⟨bv.ah.trans (cx.ah.mono bv.ah.size)⟩;have iN:Sl (w4.heap[w.heap.size]? = some (.cells zZ 61 (0,0))):=⟨ay dg.ah cx.ah⟩;clear FW cx;have HI:=aW (cs:=(zV rf ro rm ka kb kc kd rd)) rfl;go_wp2_with (refine fG rfl 61 (.tmp 6) (.tmp 41) rfl w.heap.size (zV rf ro rm ka kb kc kd rd) rfl rfl 61 zZ iN.ah HI rfl (aZ _ _ _ _ _ _ _ _) ?_)
    refine gX (dw rfl _ _ w.heap.size 61 _ (0,0) rfl (gY _ _ _ _ _ _ iN.ah) rfl) rfl ?_;rw [HQ.ah];exact ⟨rfl,⟨below_setRow br.ah (aY _) _⟩⟩
   ·have mw:((s.size:Int)>1)=True:=eq_true (by omega)
    obtain ⟨y,ys,cG⟩:∃ y ys,bytes s=x :: y :: ys:=by
     cases xs with
     | nil=>have:=lG List.length hb;rw [au] at this;exact absurd this h1
     | cons y ys=>exact ⟨y,ys,hb⟩
    have hy:y<256:=aJ s y (by rw [cG];simp);have tS:1<s.size:=by omega
    have ue:(s[1]'tS).toNat=y:=by
     have h:=dL s 1 tS;rw [cG] at h;exact h.symm
    obtain ⟨u,hu⟩:=zX (decide (128≤y) != af);have hud:(decide ((128:Int)≤(y:Int)))=decide (128≤y):=decide_eq_decide.2 (by omega);obtain ⟨dd,mH⟩:=zX (decide (128≤y));rw [mH] at hud;cases u with
    | false =>
      have HQ:Sl (lN (one (bytes s) af ae)=.tuple #[.agg (zV rf ro rm ka kb kc kd rd),.int .i64 (n:Int),.int .i64 (k:Int)]):=⟨by
       rw [cG,Ic hu,← cG,tT,lN,cK]⟩
      rw [mH] at hu;have hu2:(!(dd==af))=false:=hu;clear tT cK hs kw hb cG h0 hx gA tM cX Mx h1 mH hu;go_enter func63,ntmps63;go_wp2_with fail
      refine (F1 w1).mono ?_;rintro e w2 ⟨rfl,bw⟩;obtain ⟨w3,cH⟩:=zX ((w2.alloc (.cells zZ 61)).setRow w2.heap.size (zV tA tB tD tE tF tG tI tL));have cI:Sl (Below w2.heap.size w2 w3):=⟨by rw [← cH];exact mh w2 (zV tA tB tD tE tF tG tI tL)⟩;have bv:Sl (Below w.heap.size w w3):=⟨(bi.ah.trans (bw.ah.mono bi.ah.size)).trans (cI.ah.mono (bi.ah.trans (bw.ah.mono bi.ah.size)).size)⟩;have dg:Sl (w3.heap[w.heap.size]? = some (.cells zZ 61 (0,0))):=⟨ay (ay my.ah bw.ah) cI.ah⟩;have sj:=aW (cs:=(zV tA tB tD tE tF tG tI tL)) rfl;clear F1 bw cI;go_upto_region 3 with (refine fG rfl 61 (.tmp 9) (.tmp 20) rfl w2.heap.size (zV tA tB tD tE tF tG tI tL) rfl rfl 61 zZ (dQ w2 _) sj rfl (aZ _ _ _ _ _ _ _ _) ?_)
      clear sj;go_wp2_with fail
      refine (FW w3).mono ?_;rintro e w4 ⟨rfl,cx⟩;have br:Sl (Below w.heap.size w w4):=⟨bv.ah.trans (cx.ah.mono bv.ah.size)⟩;have iN:Sl (w4.heap[w.heap.size]? = some (.cells zZ 61 (0,0))):=⟨ay dg.ah cx.ah⟩;clear FW cx;have HI:=aW (cs:=(zV rf ro rm ka kb kc kd rd)) rfl;go_wp2_with (refine fG rfl 61 (.tmp 6) (.tmp 41) rfl w.heap.size (zV rf ro rm ka kb kc kd rd) rfl rfl 61 zZ iN.ah HI rfl (aZ _ _ _ _ _ _ _ _) ?_)
      refine gX (dw rfl _ _ w.heap.size 61 _ (0,0) rfl (gY _ _ _ _ _ _ iN.ah) rfl) rfl ?_;rw [HQ.ah];exact ⟨rfl,⟨below_setRow br.ah (aY _) _⟩⟩
    | true =>
      have HQ:Sl (lN (one (bytes s) af ae)=.tuple #[.agg zZ,.int .i64 0,.int .i64 100]):=⟨by rw [cG,BJ Mx hu];rfl⟩;rw [mH] at hu;have hu2:(!(dd==af))=true:=hu;clear tT cK hs kw hb cG h0 hx gA tM cX Mx h1 mH hu FW;go_enter func63,ntmps63;go_wp2_with fail
      refine (F1 w1).mono ?_;rintro e w2 ⟨rfl,bw⟩;obtain ⟨w3,cH⟩:=zX ((w2.alloc (.cells zZ 61)).setRow w2.heap.size (zV tA tB tD tE tF tG tI tL));have cI:Sl (Below w2.heap.size w2 w3):=⟨by rw [← cH];exact mh w2 (zV tA tB tD tE tF tG tI tL)⟩;have bv:Sl (Below w.heap.size w w3):=⟨(bi.ah.trans (bw.ah.mono bi.ah.size)).trans (cI.ah.mono (bi.ah.trans (bw.ah.mono bi.ah.size)).size)⟩;have dg:Sl (w3.heap[w.heap.size]? = some (.cells zZ 61 (0,0))):=⟨ay (ay my.ah bw.ah) cI.ah⟩;have sj:=aW (cs:=(zV tA tB tD tE tF tG tI tL)) rfl;clear F1 bw cI;go_upto_region 3 with (refine fG rfl 61 (.tmp 9) (.tmp 20) rfl w2.heap.size (zV tA tB tD tE tF tG tI tL) rfl rfl 61 zZ (dQ w2 _) sj rfl (aZ _ _ _ _ _ _ _ _) ?_)
      clear sj;have HI:=aW (cs:=zZ) rfl;go_wp2_with (refine fG rfl 61 (.tmp 6) (.tmp 37) rfl w.heap.size zZ rfl rfl 61 zZ dg.ah HI rfl (aZ _ _ _ _ _ _ _ _) ?_)
      refine gX (dw rfl _ _ w.heap.size 61 _ (0,0) rfl (gY _ _ _ _ _ _ dg.ah) rfl) rfl ?_;rw [HQ.ah];exact ⟨rfl,⟨below_setRow bv.ah (aY _) _⟩⟩
theorem Ea {w w1 w2:World} {r:Option Nat} (k:Below w.heap.size w w1) (h:w1.grownBy w2 r):w.grownBy w2 r :=
 ⟨h.os.trans k.os,h.tape.trans k.tape,h.output.trans k.output,jd k.size h.size,fun j hj eW=>(h.block j (NQ hj k.size) eW).trans (k.block j hj)⟩
def OS (v:Value):Nat:=match v with | .string s=>s.size | _=>0
theorem mF (s:ByteArray) (af:Bool) (ae:Int) (w:World) (hs:s.size≤100000) (kw:ae≤9223372036854775807) (gs:List Fr) (e lf:Nat) (dx:all (bytes s) af ae=(gs,e,lf)) :
 Calls prog 26 #[.string s,.bool af,.int .i64 ae] w fun x w'=>∃ vf,x=.returned (.tuple #[vf,.int .i64 (e:Int),.int .i64 (lf:Int)])∧Sl (gZ w' w.heap.size vf gs)∧Sl (Below w.heap.size w w'):=by
 have gE:=Sl.mk dx;have HS:=Sl.mk hs;have N3:=Sl.mk kw;have HO0:Sl (gZ (w.alloc (.cells #[] 61)) w.heap.size (.slice (some ⟨w.heap.size,0,none⟩) 0 0) []):=⟨World.ownsRow_lit w #[] 0 (aY _) (by decide) rfl⟩;have oA:Sl (Below w.heap.size w (w.alloc (.cells #[] 61))):=⟨(dW _ _).alloc (aY _) _⟩;clear dx hs kw;go_enter func26,ntmps26;go_wp2;go_loopw [0,9] (fun y u0 wr=>∃ (S0:ByteArray) (u:Value) (fs:List Fr),y=.string S0∧u=u0∧Sl (all (bytes s) af ae=(fs++(all (bytes S0) af ae).1,(all (bytes S0) af ae).2))∧Sl (S0.size≤s.size∧2*fs.length+S0.size≤s.size)∧Sl (gZ wr w.heap.size u fs)∧Sl (Below w.heap.size w wr)) (fun y _ _=>OS y)
 case atStart=>exact ⟨s,_,[],rfl,rfl,⟨rfl⟩,⟨aY _,by simp⟩,HO0,oA⟩
 case round =>
  obtain ⟨S0,u,fs,rfl,rfl,HA,bS,HO,HB⟩:=hrel;obtain ⟨f,n,k,Kh⟩:∃ f n k,one (bytes S0) af ae=(f,n,k):=⟨_,_,_,rfl⟩;have CO:=LC S0 af ae wr (by have:=bS.ah.1;have:=HS.ah;omega) N3.ah;obtain ⟨rf,ro,rm,ka,kb,kc,kd,rd,cK⟩:=jT f;rw [Kh,lN,cK] at CO;have eh:(cv f).toArray=(zV rf ro rm ka kb kc kd rd):=by have h:=cK;rw [F9] at h;injection h
  have eQ:=dX (bytes S0) af ae (aJ S0);rw [Kh] at eQ;simp only at eQ;have hn:=MI (aJ S0) Kh;rw [au] at hn;clear cK Kh;go_wp2_with fail
  refine CO.mono ?_;rintro e2 w2 ⟨rfl,bw⟩;clear CO;obtain ⟨w3,cH⟩:=zX ((w2.alloc (.cells zZ 61)).setRow w2.heap.size (zV rf ro rm ka kb kc kd rd));have cI:Sl (Below w2.heap.size w2 w3):=⟨by rw [← cH];exact mh w2 (zV rf ro rm ka kb kc kd rd)⟩;have df:Sl (Below wr.heap.size wr w3):=⟨bw.ah.trans (cI.ah.mono bw.ah.size)⟩;have bv:Sl (Below w.heap.size w w3):=⟨HB.ah.trans (df.ah.mono HB.ah.size)⟩;have wN:Sl (w3.heap[w2.heap.size]? = some (.cells (zV rf ro rm ka kb kc kd rd) 61 (0,0))):=⟨by rw [← cH];exact (F7 (zV rf ro rm ka kb kc kd rd) (dW _ _)).2⟩;have zm:=Sl.mk (HO.ah.below df.ah);have sj:=aW (cs:=(zV rf ro rm ka kb kc kd rd)) rfl;clear bw cI df HO HB;by_cases h9:k=90
  ·subst h9
   rw [if_pos rfl,au] at eQ;have ha:=HA.ah;rw [eQ,gE.ah] at ha;injection ha with ha1 ha
   injection ha with Bs Ow
   subst Bs Ow;have hO4:Sl (gZ w3 w.heap.size u gs):=⟨by rw [ha1,yC];exact zm.ah⟩;have xV:(((90:Nat):Int)==90)=true:=rfl;clear eQ hn HA bS zm gE ha1 eh wN;go_wp2_with (refine fG rfl 61 (.tmp 10) (.tmp 19) rfl w2.heap.size (zV rf ro rm ka kb kc kd rd) rfl rfl 61 zZ (dQ w2 _) sj rfl (aZ _ _ _ _ _ _ _ _) ?_)
   go_ret3
   exact ⟨u,rfl,hO4,bv⟩
  ·have xV:((k:Int)==90)=false:=by simp;omega
   rw [if_neg h9] at eQ;by_cases h0:k=0
   ·subst h0
    have yd:(((0:Nat):Int) != 0)=false:=rfl;rw [if_neg (by decide)] at eQ;have pD:=hn.2.2 rfl;have pH:Sl (n≤S0.size):=⟨hn.1⟩;have HA':Sl (all (bytes s) af ae=((fs++[f])++(all (bytes (S0.extract n S0.size)) af ae).1,(all (bytes (S0.extract n S0.size)) af ae).2)):=⟨by
     have h:=HA.ah;rw [eQ] at h;rw [h,bC,nC (by rw [au];exact aY _)];simp⟩
    have u2:(S0.extract n S0.size).size=S0.size-n:=by rw [DJ];omega
    have af7:Sl ((S0.extract n S0.size).size≤s.size∧2*(fs++[f]).length+(S0.extract n S0.size).size≤s.size):=⟨by
     have h1:=bS.ah;have h2:=pH.ah;rw [u2,jB];simp only [Fv];omega⟩
    have mT:Sl (fs.length+[f].length≤1000000):=⟨by have:=bS.ah.2;have:=HS.ah;simp;omega⟩;have af8:Sl ((S0.extract n S0.size).size<S0.size):=⟨by have:=pH.ah;omega⟩;clear eQ hn HA pD h9 u2;go_upto_region 7 with (refine fG rfl 61 (.tmp 10) (.tmp 19) rfl w2.heap.size (zV rf ro rm ka kb kc kd rd) rfl rfl 61 zZ (dQ w2 _) sj rfl (aZ _ _ _ _ _ _ _ _) ?_)
    refine zG (S:=fun _=>True) (by kernel_rfl) (fun Rw al=>?_);have uR:=ay wN.ah al;have Fl:=zm.ah.below al;obtain ⟨A7,hA7⟩:=zX (Rw.alloc (.cells (zV rf ro rm ka kb kc kd rd) 61));have BA7:Below Rw.heap.size Rw A7:=by rw [← hA7];exact (dW _ _).alloc (aY _) _
    have HOA:=Fl.below BA7;have hNA:w.heap.size≤A7.heap.size:=jd (jd bv.ah.size al.size) BA7.size;obtain ⟨u',w8,fX,sk,it,_⟩:=MH HOA (mP (W:=A7) (g:=Rw.heap.size) (f:=f) (by rw [← hA7];exact aI _ _ _ rfl) eh.symm) mT.ah hNA;refine zT 0 (some 31) (.move (.tmp 9)) _ trivial ?_;simp only [zA,zB,zS];refine zT 4 (some 35) (.move (.tmp 0)) _ trivial ?_;simp only [zA,zB,zS];refine zT 5 (some 36) (.move (.tmp 11)) _ trivial ?_;simp only [zA,zB,zS];refine zT 6 (some 37) (.slice 9 (.tmp 35) (some (.tmp 36)) none none) (.string (S0.extract n S0.size)) trivial ?_ (hy:=fun o' ho W hS=>Uz ho (by rfl) (by rfl) pH.ah);simp only [zA,zB,zS];refine zR 1 (some 32) (.load 61 (.tmp 10)) 61 (.agg (zV rf ro rm ka kb kc kd rd)) Rw trivial ?_ (hy:=fun o' ho ht=>BH ho (by rfl) rfl uR);simp only [zA,zB,zS];refine zR 2 (some 33) (.buildSlice 34 1 #[(0,.tmp 32)]) 34 (.slice (some ⟨Rw.heap.size,0,none⟩) 1 1) A7 trivial ?_ (hy:=fun o' ho ht=>by simp only [execOp,ho];go_simp;first | done | rw [hA7] | rfl);simp only [zA,zB,zS];refine zR 3 (some 34) (.call {callee:=.builtin .append,args:=#[.tmp 31,.tmp 33],argTypes:=#[34,34]}) 34 u' w8 trivial ?_ (hy:=fun o' ho ht=>wR ho ht (by rfl) (by rfl) fX);simp only [zA,zB,zS];refine zT 7 (some 9) (.assign (.tmp 34)) _ trivial ?_;simp only [zA,zB,zS];refine zT 8 (some 0) (.assign (.tmp 37)) _ trivial ?_;simp only [Act.put,List.setIfInBounds_toArray,List.set_cons_zero];refine zE (by kernel_rfl) ?_;have aga:=Sl.mk sk;have lA:Sl (Below w.heap.size w w8):=⟨(bv.ah.trans ((al.mono bv.ah.size))).grown ((Ea BA7 it)) (jd bv.ah.size al.size) (fun g hg=>HOA.ge hg)⟩;clear al uR Fl BA7 HOA hNA fX sk it hA7 wN zm bv;go_wp2;exact ⟨⟨S0.extract n S0.size,u',fs++[f],rfl,rfl,HA',af7,aga,lA⟩,af8.ah⟩
   ·have yd:((k:Int) != 0)=true:=by simp;omega
    rw [if_pos h0] at eQ;have ha:=HA.ah;rw [eQ,gE.ah] at ha;injection ha with ha1 ha
    injection ha with Bs Ow
    subst Bs Ow;have hO4:Sl (gZ w3 w.heap.size u gs):=⟨by rw [ha1,yC];exact zm.ah⟩;clear eQ hn HA bS zm gE ha1 eh wN h0 h9;go_wp2_with (refine fG rfl 61 (.tmp 10) (.tmp 19) rfl w2.heap.size (zV rf ro rm ka kb kc kd rd) rfl rfl 61 zZ (dQ w2 _) sj rfl (aZ _ _ _ _ _ _ _ _) ?_)
    go_ret3
    exact ⟨u,rfl,hO4,bv⟩
end
end Go.Proofs.YtlahonjmfecikaaGreatDoor.jS
namespace Go.Proofs.YtlahonjmfecikaaGreatDoor.jo
open Go.RowKit jS
open aC (Fr dn)
open aj (Cf Lg)
open jG (bM gU gQ)
open aj (lC bQ fill mv dN dD ni AQ iI gV)
open aG (eY dI)
open aV (all)
open aA (M0 run)
section
variable {W:World} {K:Kf} {c:Cf} {inp:ByteArray} {fa ra:Option Addr} {fc cn cc rn:Nat}
theorem Fh (L:Value) (a:Int) (b:Bool) (n:Int) (W:World):(Instr.field 129 (.agg #[L,.int .i64 a,.bool b,.int .i64 n]) 3).run prog W=.ok (.int .i64 n) W:=by kernel_rfl
theorem Jz {ev:Operand→Value} {o:Oper} {x:Operand} {b:Nat} {dr:Nat} {fn:Nat} {rg tl:ByteArray} {ca:Option Addr} {rc:Nat} {am dA:Bool} {ag:Int} (ho:o.op=.load 25 x) (hx:ev x=.pointer (some ⟨b,0,none⟩)) (h:W.heap[b]? = some (.cells (zL K c (dr:Int) inp fa fn fc rg tl ca cn cc ra rn rc am dA ag) 36 (0,0))) :
 (execOp ev o).run prog W=.ok (.value (.agg (zK K c))) W:=by
 have hr:W.rangeAt b 0 [.slice K.ra K.rn K.rc,.slice K.oa K.on K.oc,.int .i64 K.z2,.int .i64 (c.bh:Int),.int .i64 (c.bR:Int),.int .i64 K.z5,.int .i64 K.z6,.int .i64 (c.ah:Int),.int .i64 K.z8,.int .i64 K.z9,.int .i64 K.I0,.int .i64 K.I1]:=fun j u hu=>by
  rw [jg _ _ _ _ _ _ h,vT];rcases j with _ | _ | _ | _ | _ | _ | _ | _ | _ | _ | _ | _ | j;all_goals first
   | exact hu
   | (simp at hu;done)
 unfold execOp;simp only [ho,hx,Instr.loadAt,Instr.sureAddr,rE,Sem.run_pure,Result.andThen_ok,run_loadVar_mid (P:=prog) W b 0 25 _ _ hr underlying25 rfl (by kernel_rfl)]
theorem Qq {l:Lg} {fn:Nat} {ca:Option Addr} {rc:Nat} {F gs:List Fr} {e lf:Nat} (hF:aS W (.slice fa fn fc) F) (ok:∀ f∈F,vw f) (hd:∀ f∈F,f.data.length≤100000) (hl:F.length≤900000) (hc:iI c) (eV:inp.size≤100000) (dx:all (bytes inp) c.af (bQ c:Int)=(gs,e,lf)) (IR:lf≤100000) (htx:(run (c.bh:Int) M0 F).1.aT.length≤1000000) :
 Calls prog 50 #[.agg (zM K c l inp fa fn fc ca cn cc ra rn rc)] W fun en w'=>en=.returned (.int .i64 (((if e=0 then lf else 0)+(run (c.bh:Int) M0 F).1.aT.length:Nat):Int))∧Sl (Below W.heap.size W w'):=by
 obtain ⟨w1,bA,dc,ey⟩:=zY W (zM K c l inp fa fn fc ca cn cc ra rn rc) 36;obtain ⟨b1,cM⟩:=zX W.heap.size;rw [cM] at ey;have sx:=Sl.mk ey;have bi:=Sl.mk dc;have sB:=Sl.mk eV;have ri:=Sl.mk dx;have HBD:Sl ((bQ c:Int)≤9223372036854775807):=⟨by have:=hc.m2;unfold aj.bQ;omega⟩;obtain ⟨tx,Ki⟩:=zX ((run (c.bh:Int) M0 F).1.aT.length);rw [Ki] at htx;rw [Ki];obtain ⟨N,hN⟩:∃ z,(if e=0 then lf else 0)+tx=z:=⟨_,rfl⟩;rw [hN];have HN:=Sl.mk hN;clear hN;have MD:∀ V,Below W.heap.size W V→Calls prog 74 #[.slice fa fn fc,.int .i64 (c.bh:Int)] V fun x w'=>∃ L,x=.returned (.agg #[L,.int .i64 ((run (c.bh:Int) M0 F).1.bj:Int),.bool (run (c.bh:Int) M0 F).1.aL,.int .i64 (tx:Int)])∧Sl (Below V.heap.size V w'):=fun V hV=>(Mdc.mF F (.slice fa fn fc) (c.bh:Int) V (hF.below hV) ok hd (by have:=hc.m2;omega) hl).mono (fun x w' ⟨L,h1,_,h2⟩=>⟨L,by rw [h1,Ki],h2⟩)
 clear hF ok hd eV dx hc Ki ey dc;go_enter func50,ntmps50;go_upto_region 1 with fail
 (try rw [bA]);(try rw [cM]);have io:=Sl.mk cM;clear bA cM;refine zG (S:=fun V=>V.heap[b1]? = some (.cells (zM K c l inp fa fn fc ca cn cc ra rn rc) 36 (0,0))) (by kernel_rfl) (fun Rw aM=>?_);have al:Rw.heap[b1]? = some (.cells (zM K c l inp fa fn fc ca cn cc ra rn rc) 36 (0,0)):=ay sx.ah aM;refine zT 0 (some 7) (.fieldAddr 36 (.tmp 1) 3) _ al ?_;simp only [zA,zB,zS];refine zT 1 (some 8) (.load 9 (.tmp 7)) (.string inp) al ?_ (hy:=fun o' ho W hS=>by have d1:=bP.aB hS 14 _ rfl;simp only [execOp,ho];go_simp;try rfl);simp only [zA,zB,zS];refine zT 2 (some 9) (.fieldAddr 36 (.tmp 1) 1) _ al ?_;simp only [zA,zB,zS];refine zT 3 (some 10) (.load 4 (.tmp 9)) (.bool c.af) al ?_ (hy:=fun o' ho W hS=>by have d1:=bP.aB hS 12 _ rfl;simp only [execOp,ho];go_simp;try rfl);simp only [zA,zB,zS];refine zT 4 (some 11) (.fieldAddr 36 (.tmp 1) 0) _ al ?_;simp only [zA,zB,zS];refine zT 5 (some 12) (.load 25 (.tmp 11)) (.agg (zK K c)) al ?_ (hy:=fun o' ho W hS=>Jz ho (by rfl) hS);simp only [zA,zB,zS];refine zC 6 (some 13) (.call {callee:=.value (.func 73),args:=#[.tmp 12],argTypes:=#[25]}) 73 #[.agg (zK K c)] ?_;refine (Df K c Rw).mono ?_;rintro e w2 ⟨rfl,bk⟩;have cJ:w2.heap[b1]? = some (.cells (zM K c l inp fa fn fc ca cn cc ra rn rc) 36 (0,0)):=ay al bk.ah;have RA:=jS.mF inp c.af (bQ c:Int) w2 sB.ah HBD.ah gs e lf ri.ah;refine ⟨_,rfl,cJ,?_⟩;simp only [zA,zB,zS];refine zC 7 (some 14) (.call {callee:=.value (.func 26),args:=#[.tmp 8,.tmp 10,.tmp 13],argTypes:=#[9,4,3]}) 26 #[.string inp,.bool c.af,.int .i64 (bQ c:Int)] ?_;refine (RA).mono ?_;rintro e w3 ⟨vf,rfl,o4,bv⟩;have da:w3.heap[b1]? = some (.cells (zM K c l inp fa fn fc ca cn cc ra rn rc) 36 (0,0)):=ay cJ bv.ah;refine ⟨_,rfl,da,?_⟩;simp only [zA,zB,zS];refine zT 8 (some 6) (.move (.tmp 14)) (.tuple #[vf,.int .i64 (e:Int),.int .i64 (lf:Int)]) da ?_;simp only [zA,zB,zS];refine zT 9 (some 15) (.extract (.tmp 6) 0) (vf) da ?_;simp only [zA,zB,zS];refine zT 10 (some 16) (.extract (.tmp 6) 1) (.int .i64 (e:Int)) da ?_;simp only [zA,zB,zS];refine zT 11 (some 17) (.extract (.tmp 6) 2) (.int .i64 (lf:Int)) da ?_;simp only [zA,zB,zS];refine zT 12 (some 3) (.assign (.tmp 15)) (vf) da ?_;simp only [zA,zB,zS];refine zT 13 (some 4) (.assign (.tmp 16)) (.int .i64 (e:Int)) da ?_;simp only [zA,zB,zS];refine zT 14 (some 5) (.assign (.tmp 17)) (.int .i64 (lf:Int)) da ?_;simp only [zA,zB,zS];refine zE (by kernel_rfl) ?_;(try go_frame);have cI:=Sl.mk da;have Rd:Below W.heap.size W w3:=bi.ah.trans (((aM.trans (bk.ah.mono aM.size)).trans (bv.ah.mono (jd aM.size bk.ah.size))).mono bi.ah.size);have M3:=MD w3 Rd;have k3:w3.cell? ⟨b1,3,none⟩=some (.int .i64 (c.bh:Int)):=bP.aB cI.ah 3 _ rfl;have k15:w3.cell? ⟨b1,15,none⟩=some (.slice fa fn fc):=bP.aB cI.ah 15 _ rfl;have nl:=Sl.mk Rd;clear al cJ da bk bv aM o4 RA MD Rd;by_cases he:e=0
 ·have q:((e:Int) != 0)=false:=by simp;omega
  have hw:IntKind.i64.wrap ((lf:Int)+(tx:Int))=(N:Int):=by
   rw [lZ,← HN.ah,if_pos he];omega
  clear he;go_wp2_with fail
  refine M3.mono ?_;rintro x w4 ⟨L,rfl,br⟩;clear M3;have FD:=Fh L ((run (c.bh:Int) M0 F).1.bj:Int) (run (c.bh:Int) M0 F).1.aL (tx:Int) w4;go_wp2;go_ret;exact ⟨rfl,⟨nl.ah.trans (br.ah.mono nl.ah.size)⟩⟩
 ·have q:((e:Int) != 0)=true:=by simp;omega
  have hw:IntKind.i64.wrap (tx:Int)=(N:Int):=by
   rw [lZ,← HN.ah,if_neg he];omega
  clear he;go_wp2_with fail
  refine M3.mono ?_;rintro x w4 ⟨L,rfl,br⟩;clear M3;have FD:=Fh L ((run (c.bh:Int) M0 F).1.bj:Int) (run (c.bh:Int) M0 F).1.aL (tx:Int) w4;go_wp2;go_ret;exact ⟨rfl,⟨nl.ah.trans (br.ah.mono nl.ah.size)⟩⟩
end
open aj (kV)
section
variable {L:List Fr}
theorem xI (d:List Nat):∀ (L:List Fr) (i:Nat),(∀ j,j<i→(L.getD j dn).op≠10)→i<L.length→(L.getD i dn).op=10→kV d L=L.set i {L.getD i dn with data:=d}
 | [],i,_,h,_=>absurd h (Fz _)
 | f :: L,0,_,_,h=>by
   have h:f.op=10:=h;unfold aj.kV;rw [if_pos h];rfl
 | f :: L,i+1,h1,h2,h3=>by
   have h0:f.op≠10:=h1 0 (Nat.succ_pos _);unfold aj.kV;rw [if_neg h0,xI d L i (fun j hj=>h1 (j+1) (Nat.succ_lt_succ hj)) (Nat.lt_of_succ_lt_succ h2) h3];rfl
theorem UA {i:Nat} (hi:i<L.length) (h:(L.getD i dn).op=10):L.any (fun f=>decide (f.op=10))=true:=by
 rw [List.any_eq_true];refine ⟨L.getD i dn,?_,iG h⟩;rw [iw,lD hi];exact Hg _
theorem GL (h:∀ j,j<L.length→(L.getD j dn).op≠10):L.any (fun f=>decide (f.op=10))=false:=by
 rw [List.any_eq_false];intro f hf e;obtain ⟨i,hi,rfl⟩:=List.mem_iff_getElem.1 hf;refine h i hi ?_;rw [iw,lD hi];exact QE e
theorem Qr {K:Kf} {c:Cf} {l:Lg} {inp:ByteArray} {fa:Option Addr} {fn fc:Nat} {ca:Option Addr} {cn cc:Nat} {ra:Option Addr} {rn rc:Nat} {W:World} (h:DH W c l ca cn cc ra rn rc) (s:ByteArray) (hs:s.size≤125) (hn:l.aQ.length≤1000) {P:Nat→Prop} (hP:∀ j,W.heap.size≤j→P j) (hp:PB P ca cn∧PB P ra rn):Calls prog 76 #[.agg (zM K c l inp fa fn fc ca cn cc ra rn rc),.string s] W fun e w'=>∃ aq ar aD aw az aE,e=.returned (.agg (zM K c (aj.lV c l (bytes s)) inp fa fn fc aq ar aD aw az aE))∧Sl (aS w' (.slice aq ar aD) (aj.lV c l (bytes s)).aQ∧aS w' (.slice aw az aE) (aj.lV c l (bytes s)).rest)∧Sl (Below W.heap.size W w')∧Sl (PB P aq ar∧PB P aw az):=by
 have HP:=Sl.mk hP;have oT:=Sl.mk hp;clear hP hp;obtain ⟨eC,bN⟩:=zX (aj.lV c l (bytes s));rw [bN];have js:=Sl.mk bN;clear bN;obtain ⟨w1,bA,dc,ey⟩:=zY W (zM K c l inp fa fn fc ca cn cc ra rn rc) 36;obtain ⟨w2,cE,fY,jN⟩:=zY w1 zD 36;have eI:w1.heap.size=W.heap.size+1:=by rw [← bA,aP]
 have cA:MX W w2 W.heap.size w1.heap.size (zM K c l inp fa fn fc ca cn cc ra rn rc) zD:=⟨ay ey fY,jN,dc.trans (fY.mono dc.size),aY _,dc.size,by omega⟩;obtain ⟨b1,cM⟩:=zX W.heap.size;obtain ⟨b2,cG⟩:=zX w1.heap.size;rw [cM,cG] at cA;have cA:=Sl.mk cA;have dz:w2.heap.size=b2+1:=by rw [← cE,aP,cG]
 have kl:Sl (W.heap.size=b1∧b2=b1+1∧w2.heap.size=b2+1):=⟨cM,by omega,dz⟩;clear ey jN dc fY eI dz;have dk:Sl (aS w2 (.slice ca cn cc) l.aQ∧aS w2 (.slice ra rn rc) l.rest):=⟨h.C.below cA.ah.L,h.S.below cA.ah.L⟩;have HH:=Sl.mk h;have ze:=Sl.mk hn;have vA:=Sl.mk hs;have ul:Sl (cn=l.aQ.length):=⟨h.C.cap.1⟩;have nm:Sl (∀ f∈l.aQ,vw f):=⟨fun f hf=>by
  have h1:=h.I.aQ f hf;exact Dj h1.key h1.fO (by have:=h1.len;omega) (by rcases h1.op with e | e | e<;>omega)⟩
 obtain ⟨sn,pi⟩:=zX l.am;have Mq:w2.cell? ⟨b1,20,none⟩=some (.bool l.am):=bP.aB cA.ah.X 20 _ rfl;rw [pi] at Mq;have Bw:=Sl.mk pi;clear h pi hn hs;go_enter func76,ntmps76;go_upto_region 1 with fail
 (try rw [bA]);(try rw [cE]);(try rw [cM]);(try rw [cG]);clear bA cE cM cG;cases sn with
 | true =>
   obtain rfl:eC=l:=by rw [← js.ah];unfold aj.lV;rw [if_pos Bw.ah]
   go_wp2_with (first
    | (refine uY rfl 36 (.tmp 2) rfl b1 rfl 36 _ (0,0) _ cA.ah.X underlying36 rfl (aX rfl) ?_)
    | (refine fG rfl 36 (.tmp 4) (.tmp 11) rfl b2 (zM K c eC inp fa fn fc ca cn cc ra rn rc) rfl rfl 36 zD cA.ah.R (aX rfl) rfl (dV ..) ?_))
   have et:=cA.ah.ah (zM K c eC inp fa fn fc ca cn cc ra rn rc);(try simp only [Exit.inBlock,Exit.then]);refine gX (sJ rfl _ _ b2 _ rfl et.R rfl) rfl ?_;exact ⟨ca,cn,cc,ra,rn,rc,rfl,⟨iO cA.ah dk.ah.1,iO cA.ah dk.ah.2⟩,⟨et.L⟩,oT⟩
 | false =>
   have HNT:Sl (¬ l.am=true):=⟨by rw [Bw.ah];decide⟩;go_wp2;clear Mq;go_loopw [5,6,7,8] (fun u5 u6 u7 u8 wr=>∃ i:Nat,u5=.int .i64 (i:Int)∧i≤cn∧Sl (∀ j,j<i→(l.aQ.getD j dn).op≠10)∧Sl (MX W wr b1 b2 (zM K c l inp fa fn fc ca cn cc ra rn rc) zD)) (fun u5 _ _ _ _=>cn-(intOf u5).toNat)
   case atStart=>exact ⟨0,rfl,ku _,⟨fun j hj=>absurd hj (Fz _)⟩,cA⟩
   case round =>
    obtain ⟨i,rfl,hi,X2,ly⟩:=hrel;clear cA dk;have Ct:=bP.aB ly.ah.X 18 _ rfl;by_cases eV:i<cn
    ·have bz:((i:Int)<(cn:Int))=True:=eq_true (by omega)
     have ab5:(i:Int)<(cn:Int):=by omega
     obtain ⟨sb,so,rfl⟩:=HH.ah.C.cap.2 (by omega);obtain ⟨aN,C0,fm,ka,kb,kc,kd,ds,nL,eh,-,-⟩:=iL.MR nm.ah i (by rw [← ul.ah];exact eV);obtain ⟨-,a1,-,-,-,-,-,-⟩:=(HH.ah.C.below ly.ah.L).XZ i (by rw [← ul.ah];exact eV) eh;have A4:(l.aQ.getD i dn).op=C0:=by rw [nL]
     clear eh nL;by_cases gD:C0=10
     ·have agc:(C0==10)=true:=by simp [gD]
      obtain ⟨RL,hRL⟩:=zX (kV (bytes s) l.aQ);have us:=xI (bytes s) l.aQ i X2.ah (by rw [← ul.ah];exact eV) (by rw [A4];exact gD);rw [hRL] at us;obtain rfl:eC=aj.move c {l with aQ:=RL}:=by
       rw [← js.ah];unfold aj.lV;rw [if_neg HNT.ah,if_pos (UA (by rw [← ul.ah];exact eV) (by rw [A4];exact gD)),hRL]
      have tU:Sl (RL=l.aQ.set i {l.aQ.getD i dn with data:=bytes s}):=⟨us⟩;obtain ⟨w5,dq⟩:=zX (wr.alloc (.cells #[] 61));have B5:Below wr.heap.size wr w5:=by rw [← dq];exact (dW _ _).alloc (aY _) _
      have CC:Sl (gZ w5 wr.heap.size (.slice (some ⟨wr.heap.size,0,none⟩) 0 0) (RL.take 0)∧wr.heap.size≤w5.heap.size):=⟨by rw [← dq];exact Fb wr _ (aY _),B5.size⟩;have eN:=Sl.mk (ly.ah.below B5);have ch:Sl (b1<wr.heap.size∧b2<wr.heap.size∧W.heap.size≤wr.heap.size):=⟨(zl ly.ah.X),(zl ly.ah.R),ly.ah.L.size⟩;obtain ⟨B,hB⟩:=zX wr.heap.size;rw [hB] at CC ch;have ut:Sl (kV (bytes s) l.aQ=RL):=⟨hRL⟩;clear us hRL gD A4 ly B5;go_upto_region 8 with fail
      (try rw [dq]);(try rw [hB]);clear dq hB a1 Ct;go_wp2;go_loopw [6,7,8] (fun u6 u7 u8 wq=>∃ (k:Nat) (va:Option Addr) (vn vc:Nat),u6=.slice va vn vc∧u7=.int .i64 (k:Int)∧k≤cn∧Sl (gZ wq B (.slice va vn vc) (RL.take k)∧B≤wq.heap.size)∧Sl (MX W wq b1 b2 (zM K c l inp fa fn fc (some ⟨sb,so,none⟩) cn cc ra rn rc) zD)) (fun _ u7 _ _=>cn-(intOf u7).toNat)
      case atStart=>exact ⟨0,_,_,_,rfl,rfl,ku _,CC,eN⟩
      case round =>
       obtain ⟨k,va,vn,vc,rfl,rfl,hk,Fl,C3⟩:=hrel;clear CC eN;have Ct:=bP.aB C3.ah.X 18 _ rfl;by_cases gf:k<cn
       ·have hlk:((k:Int)<(cn:Int))=True:=eq_true (by omega)
        have alg:(k:Int)<(cn:Int):=by omega
        obtain ⟨aN,C0,fm,ka,kb,kc,kd,ds,nL,eh,-,-⟩:=iL.MR nm.ah k (by rw [← ul.ah];exact gf);obtain ⟨a0,a1,a2,a3,a4,a5,a6,a7⟩:=(HH.ah.C.below C3.ah.L).XZ k (by rw [← ul.ah];exact gf) eh;obtain ⟨w6,iB,B6,X6⟩:=zY wr (zV aN C0 fm ka kb kc kd ds) 61;have fi:=Sl.mk (C3.ah.below B6);have jj:=Sl.mk (Fl.ah.1.below B6);have gb:Sl (B≤wr.heap.size∧wr.heap.size<w6.heap.size):=⟨Fl.ah.2,(zl X6)⟩;have HQ6:Sl (b1≠wr.heap.size∧b2≠wr.heap.size∧W.heap.size≤wr.heap.size):=⟨fun e=>by have:=(zl C3.ah.X);omega,fun e=>by have:=(zl C3.ah.R);omega,C3.ah.L.size⟩;have HNO:Sl (∀ g,(Value.slice va vn vc).ownBlock=some g→g≠wr.heap.size):=⟨fun g e e2=>by
         rcases Fl.ah.1.2 with ⟨e3,_⟩ | ⟨g',fd,alh,e3,_,e4,_⟩
         ·rw [e3] at e;cases e
         ·rw [e3] at e
          have e:g'=g:=by simpa [Value.ownBlock] using e
          have:=(zl e4);omega⟩
        obtain ⟨q,hq⟩:=zX wr.heap.size;rw [hq] at X6 gb HQ6 HNO;have pn:=Sl.mk X6;clear B6 X6 C3 Fl eh;go_upto_region 12 with fail
        (try rw [iB]);(try rw [hq]);clear iB hq a0 a1 a2 a3 a4 a5 a6 a7 Ct;by_cases hki:k=i
        ·have hqi:((k:Int)==(i:Int))=true:=by simp;omega
         subst hki;have eg:RL.getD k dn=⟨aN,C0,fm,[ka,kb,kc,kd],bytes s⟩:=by
          rw [tU.ah,nL,iw,List.getElem?_set_self (by rw [← ul.ah];exact gf)];rfl
         have g7:w6.frozen? ⟨q,7,none⟩=false:=kT _ _ _ _ _ pn.ah;have s7:=bP.aB pn.ah 7 _ rfl;have hx7:=lF w6 q 7 _ _ (.string s) pn.ah;have J2:=aH w6 q 7 (.string s);obtain ⟨w7,gk⟩:=zX (w6.setCell ⟨q,7,none⟩ (.string s));rw [gk] at hx7 J2;have kh:Sl (w7.heap[q]? = some (.cells (zV aN C0 fm ka kb kc kd s) 61 (0,0))):=⟨hx7⟩;have ej:=Sl.mk (fi.ah.XK J2 HQ6.ah.1 HQ6.ah.2.1 HQ6.ah.2.2);have pg:Sl (gZ w7 B (.slice va vn vc) (RL.take k)):=⟨iL.kJ jj.ah (bM.grown (S:=fun j=>some q=some j) J2 (fun j e=>e)) (fun j e e2=>by injection e2 with e2;exact HNO.ah j e e2.symm)⟩;have bS:Sl (w6.heap.size≤w7.heap.size):=⟨J2.size⟩;clear hx7 J2;go_upto_region 14 with fail
         (try rw [gk]);clear gk s7 g7 pn fi jj;obtain ⟨l0,l1,l2,l3,l4,l5,l6,l7⟩:=gK.bG kh.ah;obtain ⟨w8,ff,B8,X8⟩:=zY w7 (zV aN C0 fm ka kb kc kd s) 61;have sk:=pg.ah.below B8;have pl:aS w8 (.slice (some ⟨w7.heap.size,0,none⟩) 1 1) [RL.getD k dn]:=mP X8 (by rw [eg];unfold cv;rw [bT];rfl);have ma:=Sl.mk (ej.ah.below B8);have Tg:B≤w8.heap.size:=by have:=gb.ah;have:=bS.ah;have:=B8.size;omega
         have bt:(RL.take k).length+1≤1000000:=by rw [kQ];have:=ul.ah;have:=ze.ah;omega
         have IA:k<RL.length:=by rw [tU.ah,QM,← ul.ah];exact gf
         have dC:k≤1001:=by have:=ul.ah;have:=ze.ah;omega
         clear B8 X8 nL;go_wp2_with (at_builtin;refine nK rfl (.tmp 44) (.tmp 46) rfl rfl B (.slice va vn vc) (.slice (some ⟨w7.heap.size,0,none⟩) 1 1) (RL.take k) [RL.getD k dn] rfl (by first | exact sk | (rw [ff];exact sk)) rfl (by first | exact pl | (rw [ff];exact pl)) bt (by first | exact Tg | (rw [ff];exact Tg)) ?_)
         intro v9 w9 Kj vE;(try rw [ff] at vE);have HM9:=Sl.mk (ma.ah.grown vE.ah (fun g e=>by
          have:=sk.ge e;have:=ch.ah;omega))
         obtain ⟨va9,vc9,rfl⟩:=Kj.ah.slice;have Th:Sl (gZ w9 B (.slice va9 (RL.take (k+1)).length vc9) (RL.take (k+1))∧B≤w9.heap.size):=⟨by first | exact Kj.ah | (rw [iL.AO RL k IA];exact Kj.ah),by have:=vE.ah.size;omega⟩;clear sk pl ma vE ff bt IA Tg Kj l0 l1 l2 l3 l4 l5 l6 l7;go_wp2;exact ⟨⟨k+1,_,_,_,rfl,by go_num,by omega,Th,HM9⟩,by simp [intOf];omega⟩
        ·have hqi:((k:Int)==(i:Int))=false:=by simp;omega
         have eg:RL.getD k dn=⟨aN,C0,fm,[ka,kb,kc,kd],bytes ds⟩:=by
          rw [tU.ah,iw,List.getElem?_set_ne (fun e=>hki e.symm),← iw,nL]
         have bS:Sl (w6.heap.size≤w6.heap.size):=⟨aY _⟩;go_upto_region 14 with fail
         obtain ⟨l0,l1,l2,l3,l4,l5,l6,l7⟩:=gK.bG pn.ah;obtain ⟨w8,ff,B8,X8⟩:=zY w6 (zV aN C0 fm ka kb kc kd ds) 61;have sk:=jj.ah.below B8;have pl:aS w8 (.slice (some ⟨w6.heap.size,0,none⟩) 1 1) [RL.getD k dn]:=mP X8 (by rw [eg];unfold cv;rw [bT];rfl);have ma:=Sl.mk (fi.ah.below B8);have Tg:B≤w8.heap.size:=by have:=gb.ah;have:=bS.ah;have:=B8.size;omega
         have bt:(RL.take k).length+1≤1000000:=by rw [kQ];have:=ul.ah;have:=ze.ah;omega
         have IA:k<RL.length:=by rw [tU.ah,QM,← ul.ah];exact gf
         have dC:k≤1001:=by have:=ul.ah;have:=ze.ah;omega
         clear B8 X8 nL;go_wp2_with (at_builtin;refine nK rfl (.tmp 44) (.tmp 46) rfl rfl B (.slice va vn vc) (.slice (some ⟨w6.heap.size,0,none⟩) 1 1) (RL.take k) [RL.getD k dn] rfl (by first | exact sk | (rw [ff];exact sk)) rfl (by first | exact pl | (rw [ff];exact pl)) bt (by first | exact Tg | (rw [ff];exact Tg)) ?_)
         intro v9 w9 Kj vE;(try rw [ff] at vE);have HM9:=Sl.mk (ma.ah.grown vE.ah (fun g e=>by
          have:=sk.ge e;have:=ch.ah;omega))
         obtain ⟨va9,vc9,rfl⟩:=Kj.ah.slice;have Th:Sl (gZ w9 B (.slice va9 (RL.take (k+1)).length vc9) (RL.take (k+1))∧B≤w9.heap.size):=⟨by first | exact Kj.ah | (rw [iL.AO RL k IA];exact Kj.ah),by have:=vE.ah.size;omega⟩;clear sk pl ma vE ff bt IA Tg Kj l0 l1 l2 l3 l4 l5 l6 l7;go_wp2;exact ⟨⟨k+1,_,_,_,rfl,by go_num,by omega,Th,HM9⟩,by simp [intOf];omega⟩
       ·obtain rfl:k=cn:=by omega
        have hlk:((k:Int)<(k:Int))=False:=dR (by omega);have wv:RL.take k=RL:=nC (by rw [tU.ah,QM,ul.ah];exact aY _);have dk:aS wr (.slice va vn vc) RL:=by have:=Fl.ah.1.jr;rwa [wv] at this
        have f18:=C3.ah.fF 18;have ej:=Sl.mk (C3.ah.set 18 (.slice va vn vc) rfl);obtain ⟨w7,gk⟩:=zX (wr.setCell ⟨b1,18,none⟩ (.slice va vn vc));rw [gk] at ej;have HD7:DH w7 c {l with aQ:=RL} va vn vc ra rn rc:=⟨by rw [← gk];exact pF C3.ah dk,HH.ah.S.below ej.ah.L,⟨HH.ah.I.bytes,HH.ah.I.bE,fun f hf=>by
         have hf:f∈kV (bytes s) l.aQ:=by rw [ut.ah];exact hf
         rcases aj.rZ hf with ⟨g,g1,g2,g3⟩ | hf
         ·have h1:=HH.ah.I.aQ g g1
          rw [g3];exact ⟨h1.aN,h1.op,h1.af,h1.key,by show (bytes s).length≤125;rw [au];exact vA.ah,aJ s⟩
         ·exact HH.ah.I.aQ f hf,HH.ah.I.rest,HH.ah.I.aK⟩,HH.ah.T,HH.ah.D,HH.ah.ok,by show RL.length≤1001;rw [tU.ah,QM];have:=ze.ah;omega⟩
        have MV:=qw (K:=K) (inp:=inp) (fa:=fa) (fn:=fn) (fc:=fc) HD7 ⟨Bc Fl.ah.1 (fun j hj=>HP.ah j (by have:=ch.ah;omega)),oT.ah.2⟩;clear wv dk HD7 Fl;go_upto_region 16 with fail
        (try rw [gk]);clear gk Ct f18 C3;go_wp2_with (refine uY rfl 36 (.tmp 2) rfl b1 rfl 36 _ (0,0) _ ej.ah.X underlying36 rfl (aX rfl) ?_)
        refine MV.mono ?_;rintro e wm ⟨aq,ar,aD,aw,az,aE,rfl,gM,ki,cN⟩;clear MV;have ei:=Sl.mk (ej.ah.below ki.ah);go_wp2_with (refine fG rfl 36 (.tmp 4) (.tmp 51) rfl b2 (zM K c (aj.move c {l with aQ:=RL}) inp fa fn fc aq ar aD aw az aE) rfl rfl 36 zD ei.ah.R (aX rfl) rfl (dV ..) ?_)
        have et:=ei.ah.ah (zM K c (aj.move c {l with aQ:=RL}) inp fa fn fc aq ar aD aw az aE);(try simp only [Exit.inBlock,Exit.then]);refine gX (sJ rfl _ _ b2 _ rfl et.R rfl) rfl ?_;exact ⟨aq,ar,aD,aw,az,aE,rfl,⟨iO ei.ah gM.ah.1,iO ei.ah gM.ah.2⟩,⟨et.L⟩,cN⟩
     ·have agc:(C0==10)=false:=by simp [gD]
      have agi:Sl (∀ j,j<i+1→(l.aQ.getD j dn).op≠10):=⟨fun j hj=>by
       rcases Nat.lt_succ_iff_lt_or_eq.1 hj with e | e
       ·exact X2.ah j e
       ·rw [e,A4];exact gD⟩
      have hi1:i≤1001:=by have:=ul.ah;have:=ze.ah;omega
      clear A4 gD;go_wp2;exact ⟨⟨i+1,by go_num,by omega,agi,ly⟩,by simp [intOf];omega⟩
    ·obtain rfl:i=cn:=by omega
     have bz:((i:Int)<(i:Int))=False:=dR (by omega);obtain rfl:eC=aj.control c l 10 (bytes s):=by
      rw [← js.ah];unfold aj.lV;rw [if_neg HNT.ah,if_neg (by rw [GL (fun j hj=>X2.ah j (by rw [ul.ah];exact hj))];decide)]
     have CT:=qU (K:=K) (inp:=inp) (fa:=fa) (fn:=fn) (fc:=fc) (HH.ah.below ly.ah.L) 10 s (.inr (.inr rfl)) vA.ah ze.ah (PU HP.ah ly.ah.L) oT.ah;go_upto_region 17 with fail
     clear Ct;go_wp2_with (refine uY rfl 36 (.tmp 2) rfl b1 rfl 36 _ (0,0) _ ly.ah.X underlying36 rfl (aX rfl) ?_)
     refine CT.mono ?_;rintro e wm ⟨aq,ar,aD,aw,az,aE,rfl,gM,ki,cN⟩;clear CT;have ei:=Sl.mk (ly.ah.below ki.ah);go_wp2_with (refine fG rfl 36 (.tmp 4) (.tmp 54) rfl b2 (zM K c (aj.control c l 10 (bytes s)) inp fa fn fc aq ar aD aw az aE) rfl rfl 36 zD ei.ah.R (aX rfl) rfl (dV ..) ?_)
     have et:=ei.ah.ah (zM K c (aj.control c l 10 (bytes s)) inp fa fn fc aq ar aD aw az aE);(try simp only [Exit.inBlock,Exit.then]);refine gX (sJ rfl _ _ b2 _ rfl et.R rfl) rfl ?_;exact ⟨aq,ar,aD,aw,az,aE,rfl,⟨iO ei.ah gM.ah.1,iO ei.ah gM.ah.2⟩,⟨et.L⟩,cN⟩
end
open aj (kN)
section
variable {c:Cf} {l:Lg} {k cn cc rn fc:Nat} {ra fa:Option Addr} {W:World} {K:Kf} {inp:ByteArray} {P:Nat→Prop}
structure DF (W:World) (c:Cf) (l:Lg) (k:Nat) (ca:Option Addr) (cn cc:Nat) (ra:Option Addr) (rn rc:Nat):Prop where
 C:aS W (.slice ca cn cc) l.aQ
 S:aS W (.slice ra rn rc) l.rest
 F:kN c l k
 D:l.bu<4294967296
 ok:iI c
 hk:k≤900
theorem DF.dh {ca:Option Addr} {rc:Nat} (h:DF W c l k ca cn cc ra rn rc):DH W c l ca cn cc ra rn rc:=⟨h.C,h.S,h.F.ok.eB,h.F.tail,h.D,h.ok,by have:=aj.NF h.F;have:=h.hk;omega⟩
theorem DF.n {ca:Option Addr} {rc:Nat} (h:DF W c l k ca cn cc ra rn rc):l.aQ.length≤1000:=by have:=aj.NF h.F;have:=h.hk;omega
theorem DF.below {ca:Option Addr} {rc:Nat} {W':World} (h:DF W c l k ca cn cc ra rn rc) (b:Below W.heap.size W W'):DF W' c l k ca cn cc ra rn rc:=⟨h.C.below b,h.S.below b,h.F,h.D,h.ok,h.hk⟩
theorem DF.abR {ca:Option Addr} {rc:Nat} {m:Lg} (h:DF W c l k ca cn cc ra rn rc) (e:m.cj=l.cj∧m.aK=l.aK∧m.tail=l.tail∧m.bE=l.bE∧m.aQ=l.aQ∧m.rest=l.rest∧m.bX=l.bX∧m.gy=l.gy∧m.am=l.am) (d:m.bu=l.bu):DF W c m k ca cn cc ra rn rc :=
 ⟨by rw [e.2.2.2.2.1];exact h.C,by rw [e.2.2.2.2.2.1];exact h.S,aj.sD h.F (aj.zJ h.F.ok e) ⟨e.2.2.1,e.2.2.2.2.1,e.2.2.2.2.2.1,e.2.2.2.2.2.2.2.2⟩,by rw [d];exact h.D,h.ok,h.hk⟩
theorem DF.mono {ca:Option Addr} {rc:Nat} {j:Nat} (h:DF W c l k ca cn cc ra rn rc) (hj:k≤j) (h2:j≤900):DF W c l j ca cn cc ra rn rc:=⟨h.C,h.S,h.F.mono hj,h.D,h.ok,h2⟩
theorem WG {fn:Nat} {ca:Option Addr} {rc:Nat} (h:DF W c l k ca cn cc ra rn rc) (s:ByteArray) (hs:s.size≤125) (hP:∀ j,W.heap.size≤j→P j) (hp:PB P ca cn∧PB P ra rn):Calls prog 76 #[.agg (zM K c l inp fa fn fc ca cn cc ra rn rc),.string s] W fun ee w'=>∃ aq ar aD aw az aE,ee=.returned (.agg (zM K c (aj.lV c l (bytes s)) inp fa fn fc aq ar aD aw az aE))∧Sl (DF w' c (aj.lV c l (bytes s)) k aq ar aD aw az aE)∧Sl (Below W.heap.size W w')∧Sl (PB P aq ar∧PB P aw az):=by
 refine (Qr (K:=K) (inp:=inp) (fa:=fa) (fn:=fn) (fc:=fc) h.dh s hs h.n hP hp).mono ?_;rintro ee w' ⟨aq,ar,aD,aw,az,aE,rfl,H1,H2,H3⟩;exact ⟨aq,ar,aD,aw,az,aE,rfl,⟨H1.ah.1,H1.ah.2,aj.I4 h.ok.f2 h.F _ (by rw [au];exact hs) (aJ s),aj.Qw c h.D _,h.ok,h.hk⟩,H2,H3⟩
theorem NG {fn:Nat} {ca:Option Addr} {rc:Nat} (h:DF W c l k ca cn cc ra rn rc) (e:Nat) (hP:∀ j,W.heap.size≤j→P j) (hp:PB P ca cn∧PB P ra rn):Calls prog 75 #[.agg (zM K c l inp fa fn fc ca cn cc ra rn rc),.int .i64 (e:Int)] W fun ee w'=>∃ aq ar aD aw az aE,ee=.returned (.agg (zM K c (aj.fail c l e) inp fa fn fc aq ar aD aw az aE))∧Sl (DF w' c (aj.fail c l e) k aq ar aD aw az aE)∧Sl (Below W.heap.size W w')∧Sl (PB P aq ar∧PB P aw az):=by
 refine (Ql (K:=K) (inp:=inp) (fa:=fa) (fn:=fn) (fc:=fc) h.dh e h.n hP hp).mono ?_;rintro ee w' ⟨aq,ar,aD,aw,az,aE,rfl,H1,H2,H3⟩;exact ⟨aq,ar,aD,aw,az,aE,rfl,⟨H1.ah.1,H1.ah.2,aj.UB h.ok.f2 h.F e,aj.Qx c h.D e,h.ok,h.hk⟩,H2,H3⟩
theorem JB {fn:Nat} {ca:Option Addr} {rc:Nat} (h:DF W c l k ca cn cc ra rn rc) (n:Int) (s:ByteArray) (hs:s.size≤100000) (hP:∀ j,W.heap.size≤j→P j) (hp:PB P ca cn∧PB P ra rn):Calls prog 46 #[.agg (zM K c l inp fa fn fc ca cn cc ra rn rc),.int .i64 n,.string s] W fun ee w'=>∃ aq ar aD aw az aE,ee=.returned (.tuple #[.agg (zM K c ((aj.bU c l n (bytes s)).1) inp fa fn fc aq ar aD aw az aE),.bool (aj.bU c l n (bytes s)).2])∧Sl (DF w' c (aj.bU c l n (bytes s)).1 k aq ar aD aw az aE)∧Sl (Below W.heap.size W w')∧Sl (PB P aq ar∧PB P aw az):=by
 refine (Dp (K:=K) (inp:=inp) (fa:=fa) (fn:=fn) (fc:=fc) h.dh n s hs h.n hP hp).mono ?_;rintro ee w' ⟨aq,ar,aD,aw,az,aE,rfl,H1,H2,H3⟩;exact ⟨aq,ar,aD,aw,az,aE,rfl,⟨H1.ah.1,H1.ah.2,aj.qg h.ok.f2 h.F n _ (aJ s),aj.Dt c h.D n _,h.ok,h.hk⟩,H2,H3⟩
theorem WI {fn:Nat} {ca:Option Addr} {rc:Nat} (h:DF W c l k ca cn cc ra rn rc) (s:ByteArray) (hP:∀ j,W.heap.size≤j→P j) (hp:PB P ca cn∧PB P ra rn) (tW:k+1≤900):Calls prog 45 #[.agg (zM K c l inp fa fn fc ca cn cc ra rn rc),.string s] W fun ee w'=>∃ aq ar aD aw az aE,ee=.returned (.tuple #[.agg (zM K c ((aj.jW c l (bytes s)).1) inp fa fn fc aq ar aD aw az aE),.bool (aj.jW c l (bytes s)).2])∧Sl (DF w' c (aj.jW c l (bytes s)).1 (k+1) aq ar aD aw az aE)∧Sl (Below W.heap.size W w')∧Sl (PB P aq ar∧PB P aw az):=by
 refine (Qj (K:=K) (inp:=inp) (fa:=fa) (fn:=fn) (fc:=fc) h.dh s h.n hP hp).mono ?_;rintro ee w' ⟨aq,ar,aD,aw,az,aE,rfl,H1,H2,H3⟩;exact ⟨aq,ar,aD,aw,az,aE,rfl,⟨H1.ah.1,H1.ah.2,aj.IZ h.ok.f2 h.F _ (aJ s),aj.Qs c h.D _,h.ok,tW⟩,H2,H3⟩
theorem WJ {fn:Nat} {ca:Option Addr} {rc:Nat} (h:DF W c l k ca cn cc ra rn rc) (op qq:Int) (s:ByteArray) (hP:∀ j,W.heap.size≤j→P j) (hp:PB P ca cn∧PB P ra rn):Calls prog 44 #[.agg (zM K c l inp fa fn fc ca cn cc ra rn rc),.agg #[.int .i64 op,.int .i64 qq,.string s]] W fun ee w'=>∃ aq ar aD aw az aE,ee=.returned (.tuple #[.agg (zM K c ((aj.send c l op (bytes s)).1) inp fa fn fc aq ar aD aw az aE),.bool (aj.send c l op (bytes s)).2])∧Sl (DF w' c (aj.send c l op (bytes s)).1 k aq ar aD aw az aE)∧Sl (Below W.heap.size W w')∧Sl (PB P aq ar∧PB P aw az):=by
 refine (Qm (K:=K) (inp:=inp) (fa:=fa) (fn:=fn) (fc:=fc) h.dh op qq s hP hp).mono ?_;rintro ee w' ⟨aq,ar,aD,aw,az,aE,rfl,H1,H2,H3⟩;exact ⟨aq,ar,aD,aw,az,aE,rfl,⟨H1.ah.1,H1.ah.2,aj.IY h.ok.f2 h.ok.f1 h.F op _ (aJ s),aj.Qu c h.D op _,h.ok,h.hk⟩,H2,H3⟩
theorem WL {fn:Nat} {ca:Option Addr} {rc:Nat} (h:DF W c l k ca cn cc ra rn rc) (n:Int) (hP:∀ j,W.heap.size≤j→P j) (hp:PB P ca cn∧PB P ra rn):Calls prog 47 #[.agg (zM K c l inp fa fn fc ca cn cc ra rn rc),.int .i64 n] W fun ee w'=>∃ aq ar aD aw az aE,ee=.returned (.tuple #[.agg (zM K c ((aj.jD c l n).1) inp fa fn fc aq ar aD aw az aE),.string (aF (aj.jD c l n).2)])∧Sl (DF w' c (aj.jD c l n).1 k aq ar aD aw az aE)∧Sl (Below W.heap.size W w')∧Sl (PB P aq ar∧PB P aw az):=by
 refine (Qk (K:=K) (inp:=inp) (fa:=fa) (fn:=fn) (fc:=fc) h.dh n hP hp).mono ?_;rintro ee w' ⟨aq,ar,aD,aw,az,aE,rfl,H1,H2,H3⟩;exact ⟨aq,ar,aD,aw,az,aE,rfl,⟨H1.ah.1,H1.ah.2,aj.IX h.ok.f2 h.F n,aj.Qv c h.D n,h.ok,h.hk⟩,H2,H3⟩
end
section
variable {W W':World} {S S':Nat→Prop} {c:Cf} {l:Lg} {k:Nat}
theorem yu (g:eH W W' S S') {a:Option Addr} {n cap:Nat} {fs:List Fr} (h:aS W (.slice a n cap) fs) (hp:PB (fun j=>¬ S j) a n):aS W' (.slice a n cap) fs∧PB (fun j=>¬ S' j) a n:=by
 obtain ⟨a',fd,sb,so,e,h1,h2,h3⟩:=h;injection e with e1 e2 e3
 subst e1 e2 e3;have hb:0<fs.length→¬ S sb∧sb<W.heap.size:=fun h0=>by
  have h4:W.cell? ⟨sb,so+0*8+0,none⟩=some (.bool (fs.getD 0 dn).aN):=h3 0 h0 0 (by decide);exact ⟨hp h0 _ (h2 h0),zk h4⟩
 refine ⟨⟨a,cap,sb,so,rfl,h1,h2,fun i hi j hj=>?_⟩,fun h0 x hx=>?_⟩
 ·rw [← h3 i hi j hj]
  obtain ⟨b1,b2⟩:=hb (by omega);exact DV (w:=W) (g.kept.block sb b2 b1)
 ·rw [h2 h0] at hx
  injection hx with hx
  subst hx;obtain ⟨b1,b2⟩:=hb h0;intro e;rcases g.dy sb e with e | e
  ·exact b1 e
  ·omega
theorem DF.ou {ca:Option Addr} {cn cc:Nat} {ra:Option Addr} {rn rc:Nat} (h:DF W c l k ca cn cc ra rn rc) (g:eH W W' S S') (hp:PB (fun j=>¬ S j) ca cn∧PB (fun j=>¬ S j) ra rn):DF W' c l k ca cn cc ra rn rc∧PB (fun j=>¬ S' j) ca cn∧PB (fun j=>¬ S' j) ra rn:=by
 obtain ⟨a1,a2⟩:=yu g h.C hp.1;obtain ⟨b1,b2⟩:=yu g h.S hp.2;exact ⟨⟨a1,b1,h.F,h.D,h.ok,h.hk⟩,a2,b2⟩
theorem iT.fH {w0:World} {L:Nat} (h:iT w0 W L S c l k):∀ j,W.heap.size≤j→¬ S j:=fun j hj e=>by
 have:=(h.lu e).2;omega
end
theorem UC (K:Kf) (c:Cf) (d:Nat) (W:World):Calls prog 15 #[.agg (zK K c),.bool c.af,.int .u32 (d:Int)] W fun e w'=>e=.returned (.agg (zL K c (d:Int) {data:=#[]} none 0 0 {data:=#[]} {data:=#[]} none 0 0 none 0 0 false false 0))∧Sl (Below W.heap.size W w'):=by
 obtain ⟨w1,bA,dc,ey⟩:=zY W (zK K c) 25;obtain ⟨w2,cE,fY,jN⟩:=zY w1 zD 36;have hc:=ay ey fY;have HR:=Sl.mk jN;have HB:=Sl.mk (dc.trans (fY.mono dc.size));have hg:W.heap.size≤w1.heap.size:=dc.size;have k0:=bP.aB hc 0 _ rfl;have k1:=bP.aB hc 1 _ rfl;have k2:=bP.aB hc 2 _ rfl;have k3:=bP.aB hc 3 _ rfl;have k4:=bP.aB hc 4 _ rfl;have k5:=bP.aB hc 5 _ rfl;have k6:=bP.aB hc 6 _ rfl;have k7:=bP.aB hc 7 _ rfl;have k8:=bP.aB hc 8 _ rfl;have k9:=bP.aB hc 9 _ rfl;have uc:=bP.aB hc 10 _ rfl;have ud:=bP.aB hc 11 _ rfl;obtain ⟨b2,cG⟩:=zX w1.heap.size;rw [cG] at HR hg;clear hc ey jN dc fY;go_enter func15,ntmps15;go_upto_region 1 with fail
 (try rw [bA]);(try rw [cE]);(try rw [cG]);clear bA cE cG;go_wp2_with (refine fG rfl 36 (.tmp 6) (.tmp 10) rfl b2 (zL K c (d:Int) {data:=#[]} none 0 0 {data:=#[]} {data:=#[]} none 0 0 none 0 0 false false 0) rfl rfl 36 zD HR.ah (aX rfl) rfl (by simp [Value.oneCell']) ?_)
 refine gX (sJ rfl _ _ b2 _ rfl (gY _ _ _ _ _ _ HR.ah) rfl) rfl ?_;exact ⟨rfl,⟨below_setRow HB.ah hg _⟩⟩
open aj (fP uJ DR)
open aA (Ev Ms)
open KU
section
variable {W W' W0 wr V V':World} {a fa ra xa ya aq aw aa La:Option Addr} {fs A F:List Fr} {P Q:Nat→Prop} {b1 dr k fc cn cc rn xn xc yn yc base b ar aD az aE na q Lc er tx:Nat} {rg tl ip:ByteArray} {am ov:Bool} {ag:Int} {K:Kf} {c:Cf} {l:Lg} {rx cs oB:Array Value} {v v2 ev:Value} {es e2:List Ev} {o:Oper} {x y:Operand}
theorem Qy {r:Option Nat} {n cap:Nat} (h:aS W (.slice a n cap) fs) (hg:W.grownBy W' r) (hp:PB (fun j=>r≠some j) a n):aS W' (.slice a n cap) fs:=by
 obtain ⟨a',fd,sb,so,e,h1,h2,h3⟩:=h;injection e with e1 e2 e3
 subst e1 e2 e3;refine ⟨a,cap,sb,so,rfl,h1,h2,fun i hi j hj=>?_⟩;have h0:0<fs.length:=by omega
 have h4:W.cell? ⟨sb,so+0*8+0,none⟩=some (.bool (fs.getD 0 dn).aN):=h3 0 h0 0 (by decide);rw [← h3 i hi j hj];exact DV (w:=W) ((bM.grown (S:=fun j=>r=some j) hg (fun j e=>e)).block sb (zk h4) (hp h0 _ (h2 h0)))
theorem PB.lt {n cap:Nat} (h:aS W (.slice a n cap) fs):PB (fun j=>j<W.heap.size) a n:=by
 obtain ⟨a',fd,sb,so,e,h1,h2,h3⟩:=h;injection e with e1 e2 e3
 subst e1 e2 e3;intro h0 x hx;rw [h2 h0] at hx;injection hx with hx
 subst hx;have h4:W.cell? ⟨sb,so+0*8+0,Option.none⟩=some (.bool (fs.getD 0 dn).aN):=h3 0 h0 0 (by decide);exact zk h4
theorem PB.imp {n:Nat} (h:PB P a n) (hi:∀ j,P j→Q j):PB Q a n:=fun h0 x hx=>hi _ (h h0 x hx)
theorem PB.Hz {n:Nat} (h:PB P a n) (g:PB Q a n):PB (fun j=>P j∧Q j) a n:=fun h0 x hx=>⟨h h0 x hx,g h0 x hx⟩
theorem LD {b2 ix:Nat} {u:Value} {zs:Array Value} {dA:Bool} {fn:Nat} {ca:Option Addr} {rc:Nat} (M:MX W0 W b1 b2 (zL K c (dr:Int) ip fa fn fc rg tl xa xn xc ya yn yc am dA ag) zs) (h:DF W c l k ca cn cc ra rn rc):DF (W.setCell ⟨b1,ix,none⟩ u) c l k ca cn cc ra rn rc :=
 ⟨pF M h.C,pF M h.S,h.F,h.D,h.ok,h.hk⟩
theorem XO {b2:Nat} {zs:Array Value} {dA:Bool} {fn:Nat} {ca:Option Addr} {rc:Nat} (M:MX W0 W b1 b2 (zL K c (dr:Int) ip fa fn fc rg tl xa xn xc ya yn yc am dA ag) zs) (h:DF W c l k ca cn cc ra rn rc):DF (W.setRow b1 rx) c l k ca cn cc ra rn rc :=
 ⟨zf M h.C,zf M h.S,h.F,h.D,h.ok,h.hk⟩
theorem XP {b2:Nat} {ca:Option Addr} {rc:Nat} (M:MX W0 W b1 b2 cs zD) (h:DF W c l k ca cn cc ra rn rc):DF (W.setRow b2 rx) c l k ca cn cc ra rn rc :=
 ⟨iO M h.C,iO M h.S,h.F,h.D,h.ok,h.hk⟩
theorem mG {ty:TypeId} (h:ig W base v es) (hb:W.heap[b]? = some (.cells cs ty (0,0))) (ht:ty≠52) (hg:W.grownBy W' (some b)):ig W' base v es :=
 h.kept hg (fun k e e2=>by
  injection e with e
  subst e;obtain ⟨_,rx,h3⟩:=h.heap e2;rw [hb] at h3;injection h3 with h3
  injection h3 with _ h3 _
  exact ht h3)
structure yw (W wr:World) (b1 b2:Nat) (K:Kf) (c:Cf) (k:Nat) (ip:ByteArray) (A:List Fr) (aa:Option Addr) (na ac:Nat) (P:Nat→Prop) (F:List Fr) (l:Lg) (es:List Ev) (ev:Value) (fa:Option Addr) (fn fc:Nat) (ca:Option Addr) (cn cc:Nat) (ra:Option Addr) (rn rc:Nat):Prop where
 M:MX W wr b1 b2 (zM K c l ip fa fn fc ca cn cc ra rn rc) zD
 D:DF wr c l k ca cn cc ra rn rc
 E:ig wr W.heap.size ev es
 F:aS wr (.slice fa fn fc) F
 V:aS wr (.slice aa na ac) A
 pc:PB (fun j=>P j∧ev.ownBlock≠some j) ca cn∧PB (fun j=>P j∧ev.ownBlock≠some j) ra rn
 pf:PB (fun j=>P j∧ev.ownBlock≠some j) fa fn
 pa:PB (fun j=>P j∧ev.ownBlock≠some j) aa na
section
variable {W wr w':World} {b1 b2:Nat} {K:Kf} {c:Cf} {l m:Lg} {k:Nat} {ip:ByteArray} {fa:Option Addr} {fn fc:Nat} {ca:Option Addr} {cn cc:Nat} {ra:Option Addr} {rn rc:Nat} {A F:List Fr} {aa:Option Addr} {na ac:Nat} {P:Nat→Prop} {es:List Ev} {ev:Value}
theorem yw.below (h:yw W wr b1 b2 K c k ip A aa na ac P F l es ev fa fn fc ca cn cc ra rn rc) (b:Below wr.heap.size wr w'):yw W w' b1 b2 K c k ip A aa na ac P F l es ev fa fn fc ca cn cc ra rn rc :=
 ⟨h.M.below b,h.D.below b,h.E.below b,h.F.below b,h.V.below b,h.pc,h.pf,h.pa⟩
theorem yw.Ua (h:yw W wr b1 b2 K c k ip A aa na ac P F l es ev fa fn fc ca cn cc ra rn rc) (j:Nat) (hj:j≤na):yw W (wr.setCell ⟨b1,15,none⟩ (.slice aa j ac)) b1 b2 K c k ip A aa na ac P (A.take j) l es ev aa j ac ca cn cc ra rn rc :=
 ⟨h.M.set 15 _ rfl,LD h.M h.D,mG h.E h.M.X (by decide) (aH _ _ _ _),pF h.M (iL.aS.to h.V hj),pF h.M h.V,h.pc,fun h0 x hx=>h.pa (by omega) x hx,h.pa⟩
theorem yw.put (h:yw W wr b1 b2 K c k ip A aa na ac P F l es ev fa fn fc ca cn cc ra rn rc) (hD:DF wr c m k aq ar aD aw az aE) (hp:PB (fun j=>P j∧ev.ownBlock≠some j) aq ar∧PB (fun j=>P j∧ev.ownBlock≠some j) aw az):yw W (wr.setRow b1 (zM K c m ip fa fn fc aq ar aD aw az aE)) b1 b2 K c k ip A aa na ac P F m es ev fa fn fc aq ar aD aw az aE :=
 ⟨h.M.Xa _,XO h.M hD,mG h.E h.M.X (by decide) (bZ _ _ _),zf h.M h.F,zf h.M h.V,hp,h.pf,h.pa⟩
theorem yw.dA (h:yw W wr b1 b2 K c k ip A aa na ac P F l es ev fa fn fc ca cn cc ra rn rc):yw W (wr.setCell ⟨b1,21,none⟩ (.bool true)) b1 b2 K c k ip A aa na ac P F {l with dA:=true} es ev fa fn fc ca cn cc ra rn rc :=
 ⟨h.M.set 21 _ rfl,(LD h.M h.D).abR ⟨rfl,rfl,rfl,rfl,rfl,rfl,rfl,rfl,rfl⟩ rfl,mG h.E h.M.X (by decide) (aH _ _ _ _),pF h.M h.F,pF h.M h.V,h.pc,h.pf,h.pa⟩
theorem Fj (h:ig W base v es) (hb:W.heap[b]? = some (.cells cs 36 (0,0))):v.ownBlock≠some b:=fun e=>by
 obtain ⟨_,rx,h3⟩:=h.heap e;rw [hb] at h3;injection h3 with h3
 injection h3 with _ h3 _
 exact absurd h3 (by decide)
theorem yw.Td (h:yw W wr b1 b2 K c k ip A aa na ac P F l es ev fa fn fc ca cn cc ra rn rc) (ho:ig w' W.heap.size v2 e2) (hg:wr.grownBy w' ev.ownBlock) (hv:v2.ownBlock=ev.ownBlock∨v2.ownBlock=some wr.heap.size):yw W w' b1 b2 K c k ip A aa na ac P F l e2 v2 fa fn fc ca cn cc ra rn rc:=by
 have hq:∀ {a:Option Addr} {n cap:Nat} {fs:List Fr},aS wr (.slice a n cap) fs→PB (fun j=>P j∧ev.ownBlock≠some j) a n→PB (fun j=>P j∧v2.ownBlock≠some j) a n:=fun hf hp h0 x hx=>⟨(hp h0 x hx).1,by
  rcases hv with e | e
  ·rw [e];exact (hp h0 x hx).2
  ·rw [e];intro e3;injection e3 with e3;have:=PB.lt hf h0 x hx;omega⟩
 have hk:∀ {a:Option Addr} {n cap:Nat} {fs:List Fr},aS wr (.slice a n cap) fs→PB (fun j=>P j∧ev.ownBlock≠some j) a n→aS w' (.slice a n cap) fs:=fun hf hp=>Qy hf hg (hp.imp fun j e=>e.2)
 refine ⟨h.M.grown hg (fun j e=>⟨fun e2=>Fj h.E h.M.X (by rw [e,e2]),fun e2=>Fj h.E h.M.R (by rw [e,e2]),(h.E.heap e).1⟩),⟨hk h.D.C h.pc.1,hk h.D.S h.pc.2,h.D.F,h.D.D,h.D.ok,h.D.hk⟩,ho,hk h.F h.pf,hk h.V h.pa,⟨hq h.D.C h.pc.1,hq h.D.S h.pc.2⟩,hq h.F h.pf,hq h.V h.pa⟩
end
structure FdO (W w':World) (c:Cf) (m:Lg) (k:Nat) (P:Nat→Prop) (ip:ByteArray) (F:List Fr) (fa:Option Addr) (fn fc:Nat) (ca:Option Addr) (cn cc:Nat) (ra:Option Addr) (rn rc:Nat) (ev:Value) (es:List Ev):Prop where
 D:DF w' c m k ca cn cc ra rn rc
 B:Below W.heap.size W w'
 p:PB P ca cn∧PB P ra rn
 pf:PB P fa fn
 T:aS w' (.slice fa fn fc) F
 R:DR c m (bytes ip) F
 t:∃ j,F=(fP c (bytes ip)).1.take j
 E:ig w' W.heap.size ev es
theorem yw.ah {b2:Nat} {m:Lg} {fn:Nat} {ca:Option Addr} {rc:Nat} {ac:Nat} (h:yw W wr b1 b2 K c k ip A aa na ac P F l es ev fa fn fc ca cn cc ra rn rc) (hD:DF wr c m k aq ar aD aw az aE) (hp:PB P aq ar∧PB P aw az) (hR:DR c m (bytes ip) F) (ht:∃ j,F=(fP c (bytes ip)).1.take j) (hE:ig wr W.heap.size v2 e2):FdO W (wr.setRow b2 cs) c m k P ip F fa fn fc aq ar aD aw az aE v2 e2 :=
 ⟨XP h.M hD,(h.M.ah cs).L,hp,h.pf.imp fun _ e=>e.1,iO h.M h.F,hR,ht,mG hE h.M.R (by decide) (bZ _ _ _)⟩
theorem UD (hc:iI c) {G:List Nat} (hs:∀ y∈G,y<256):(∀ f∈(fP c G).1,vw f)∧(∀ f∈(fP c G).1,f.data.length≤100000)∧2*(fP c G).1.length≤G.length:=by
 obtain ⟨h1,_,h3⟩:=aV.AA c.af (bQ c:Int) _ G (aY _) hs;have hb:(bQ c:Int)≤65536:=by have:=hc.m2;unfold aj.bQ;omega
 refine ⟨fun f hf=>?_,fun f hf=>?_,h3⟩
 ·obtain ⟨g1,g2,g3,g4,g5⟩:=h1 f hf
  refine ⟨g2,g3,g4,by unfold maxLen;omega,?_⟩;rcases (aC.eF g1).1 with e | e<;>omega
 ·have:=(h1 f hf).2.2.2.2
  omega
theorem yw.dJ {b2:Nat} {fn:Nat} {ca:Option Addr} {rc:Nat} {ac:Nat} (h:yw W wr b1 b2 K c k ip A aa na ac P F l es ev fa fn fc ca cn cc ra rn rc) (i2:ByteArray) (b:List Nat):yw W (wr.setCell ⟨b1,14,none⟩ (.string i2)) b1 b2 K c k i2 A aa na ac P F (aj.dJ c l b) es ev fa fn fc ca cn cc ra rn rc :=
 ⟨h.M.set 14 _ rfl,(LD h.M h.D).abR ⟨rfl,rfl,rfl,rfl,rfl,rfl,rfl,rfl,rfl⟩ rfl,mG h.E h.M.X (by decide) (aH _ _ _ _),pF h.M h.F,pF h.M h.V,h.pc,h.pf,h.pa⟩
theorem yw.all {b2:Nat} {fn:Nat} {ca:Option Addr} {rc:Nat} {B:List Fr} {aa':Option Addr} {ac na' ac':Nat} (h:yw W wr b1 b2 K c k ip A aa na ac P F l es ev fa fn fc ca cn cc ra rn rc) (ho:gZ wr base (.slice aa' na' ac') B) (hP:∀ j,base≤j→P j) (he:∀ g,ev.ownBlock=some g→g<base):yw W wr b1 b2 K c k ip B aa' na' ac' P F l es ev fa fn fc ca cn cc ra rn rc :=
 ⟨h.M,h.D,h.E,h.F,ho.jr,h.pc,h.pf,Bc ho (fun j hj=>⟨hP j hj,fun e=>by have:=he j e;omega⟩)⟩
theorem NH {ev:Operand→Value} {n cap:Nat} (j:Nat) (ho:o.op=.slice 34 x none (some y) none) (hx:ev x=.slice a n cap) (hy:ev y=.int .i64 (j:Int)) (h:j≤cap) :
 (execOp ev o).run prog W=.ok (.value (.slice a j cap)) W:=by
 have h2:(Instr.slice 34 (.slice a n cap) none (some (.int .i64 (j:Int))) none).run prog W=.ok (.slice a j cap) W:=iL.EG W a n cap j h;unfold execOp;simp only [ho,hx,hy,Option.map_none,Dy,rE];refine (lG (fun r=>Result.andThen r _) h2).trans ?_;rfl
structure UU (V:World) (q:Nat) (La:Option Addr) (n Lc er:Nat) (ov:Bool) (tx:Nat) (es:List Ev):Prop where
 X:V.heap[q]? = some (.cells #[.slice La n Lc,.int .i64 (er:Int),.bool ov,.int .i64 (tx:Int)] 129 (0,0))
 E:ig V 0 (.slice La n Lc) es
theorem UU.below {n:Nat} (h:UU V q La n Lc er ov tx es) (b:Below V.heap.size V V'):UU V' q La n Lc er ov tx es:=⟨ay h.X b,h.E.below b⟩
theorem UU.kind {n:Nat} (h:UU V q La n Lc er ov tx es) (hb:V.heap[b]? = some (.cells cs 36 (0,0))) (hg:V.grownBy V' (some b)):UU V' q La n Lc er ov tx es:=by
 refine ⟨?_,mG h.E hb (by decide) hg⟩;rw [(bM.grown (S:=fun j=>some b=some j) hg (fun j e=>e)).block q (zl h.X) (fun e=>by
  injection e with e
  subst e;have h1:=h.X;rw [hb] at h1;injection h1 with h1
  injection h1 with _ h1 _
  exact absurd h1 (by decide))]
 exact h.X
theorem G8 {B:Nat} {Wr:World} {n:Nat} (hV:Below B Wr V) (hq:B≤q) (hX:V.heap[q]? = some (.cells oB 129 (0,0))) (hE:ig V base (.slice La n Lc) es) :
 Below B Wr (V.setRow q #[.slice La n Lc,.int .i64 (er:Int),.bool ov,.int .i64 (tx:Int)])∧UU (V.setRow q #[.slice La n Lc,.int .i64 (er:Int),.bool ov,.int .i64 (tx:Int)]) q La n Lc er ov tx es :=
 ⟨below_setRow hV hq _,gY _ _ _ _ _ _ hX,mG (jS.wS hE (ku _)) hX (by decide) (bZ _ _ _)⟩
theorem Be (a b:Int) (La:Option Addr) (n Lc:Nat) (ov:Bool):(#[.slice La n Lc,.int .i64 a,.bool ov,.int .i64 b]:Array Value).all (·.oneCell')=true:=by simp [Value.oneCell']
theorem uz {ev:Operand→Value} {g:Nat} {cells:Array Value} (ho:o.op=.store 129 x y) (hx:ev x=.pointer (some ⟨g,0,none⟩)) (hy:ev y=.agg cells) (hg:W.heap[g]? = some (.cells oB 129 (0,0))) (hs:oB.size=cells.size) (h2:cells.size=4) (h1:cells.all (·.oneCell')=true) :
 (execOp ev o).run prog W=.ok .skip (W.setRow g cells):=by
 unfold execOp;simp only [ho,hx,hy,Instr.storeAt,Instr.sureAddr,rE,Sem.run_pure,Result.andThen_ok,run_storeVar_row W g 129 129 oB cells hg (show (prog.info? 129).map (·.size)=some cells.size by rw [h2];kernel_rfl) hs h1]
end
open aj (jO jZ dJ fail iM)
section
variable {W:World}
theorem WM {ev:Operand→Value} {o:Oper} {x:Operand} {g:Nat} {cs:Array Value} (ho:o.op=.load 52 x) (hx:ev x=.pointer (some ⟨g,0,none⟩)) (h:W.heap[g]? = some (.cells cs 52 (0,0))) (hs:cs.size=3) :
 (execOp ev o).run prog W=.ok (.value (.agg cs)) W:=by
 unfold execOp;simp only [ho,hx,Instr.loadAt,Instr.sureAddr,rE,Sem.run_pure,Result.andThen_ok,UR W g 52 52 _ (0,0) _ h underlying52 rfl (lU hs)]
theorem Qz {K:Kf} {c:Cf} {l:Lg} {k:Nat} {inp:ByteArray} {fa:Option Addr} {fn fc:Nat} {ca:Option Addr} {cn cc:Nat} {ra:Option Addr} {rn rc:Nat} {F:List Fr} (h:DF W c l k ca cn cc ra rn rc) (hF:aS W (.slice fa fn fc) F) (hR:DR c l (bytes inp) F) (hq:∃ j,F=(fP c (bytes inp)).1.take j) (yz:l.dA=false→l.ag=0→jO c l) (s:ByteArray) (hs:inp.size+s.size≤100000) {P:Nat→Prop} (hP:∀ j,W.heap.size≤j→P j) (hp:PB P ca cn∧PB P ra rn) (hpf:PB P fa fn) :
 Calls prog 43 #[.agg (zM K c l inp fa fn fc ca cn cc ra rn rc),.string s] W fun ee w'=>∃ ip ft fg fu aq ar aD aw az aE F' ev,ee=.returned (.tuple #[.agg (zM K c ((iM c l (bytes s)).1) ip ft fg fu aq ar aD aw az aE),ev])∧Sl (FdO W w' c (iM c l (bytes s)).1 k P ip F' ft fg fu aq ar aD aw az aE ev (iM c l (bytes s)).2)∧Sl (ip.size≤inp.size+s.size):=by
 obtain ⟨eC,bN⟩:=zX (iM c l (bytes s));rw [bN];have js:=Sl.mk bN;clear bN;have HP:=Sl.mk hP;have oT:=Sl.mk hp;have HRQ:Sl (DR c l (bytes inp) F∧∃ j,F=(fP c (bytes inp)).1.take j):=⟨hR,hq⟩;obtain ⟨w1,bA,dc,ey⟩:=zY W (zM K c l inp fa fn fc ca cn cc ra rn rc) 36;obtain ⟨w2,cE,fY,jN⟩:=zY w1 zD 36;have eI:w1.heap.size=W.heap.size+1:=by rw [← bA,aP]
 have cA:MX W w2 W.heap.size w1.heap.size (zM K c l inp fa fn fc ca cn cc ra rn rc) zD:=⟨ay ey fY,jN,dc.trans (fY.mono dc.size),aY _,dc.size,by omega⟩;obtain ⟨b1,cM⟩:=zX W.heap.size;obtain ⟨b2,cG⟩:=zX w1.heap.size;rw [cM,cG] at cA;have cA:=Sl.mk cA;have dz:w2.heap.size=b2+1:=by rw [← cE,aP,cG]
 have kl:Sl (W.heap.size=b1∧b2=b1+1∧w2.heap.size=b2+1):=⟨cM,by omega,dz⟩;clear ey jN dc fY eI dz;obtain ⟨w3,cH⟩:=zX (w2.alloc (.cells #[] 52));have B3:Below w2.heap.size w2 w3:=by rw [← cH];exact (dW _ _).alloc (aY _) _
 have O3:ig w3 W.heap.size (.slice (some ⟨w2.heap.size,0,none⟩) 0 0) []:=by rw [← cH];exact PV w2 _ (by have:=kl.ah;omega)
 have Ex:w3.heap.size=w2.heap.size+1:=by rw [← cH,aP]
 obtain ⟨be,Kb⟩:=zX w2.heap.size;rw [Kb] at O3 Ex;have sY:Sl (W.heap.size≤be∧be<w3.heap.size):=⟨by have:=kl.ah;omega⟩;have eO:=Sl.mk (cA.ah.below B3);have pbe:∀ {a:Option Addr} {n cap:Nat} {fs:List Fr},aS W (.slice a n cap) fs→PB P a n→PB (fun j=>P j∧(Value.slice (some ⟨be,0,none⟩) 0 0).ownBlock≠some j) a n:=fun hf hpp=>(hpp.Hz (PB.lt hf)).imp (fun j e=>⟨e.1,fun e2=>by
  have e2:some be=some j:=e2;injection e2 with e2;have:=e.2;have:=sY.ah;omega⟩)
 have HW0:Sl (yw W w3 b1 b2 K c k inp [] none 0 0 P F l [] (.slice (some ⟨be,0,none⟩) 0 0) fa fn fc ca cn cc ra rn rc):=⟨⟨eO.ah,h.below eO.ah.L,O3,hF.below eO.ah.L,⟨none,0,0,0,rfl,aY _,fun e=>absurd e (JK _),fun i hi=>absurd hi (Fz _)⟩,⟨pbe h.C hp.1,pbe h.S hp.2⟩,pbe hF hpf,PB.none _ _⟩⟩;obtain ⟨gt,sg⟩:=zX l.dA;obtain ⟨wz,fq⟩:∃ z:Int,(l.ag:Int)=z:=⟨_,rfl⟩;have R0:w3.cell? ⟨b1,21,none⟩=some (.bool l.dA):=bP.aB eO.ah.X 21 _ rfl;have Yg:w3.cell? ⟨b1,22,none⟩=some (.int .i64 (l.ag:Int)):=bP.aB eO.ah.X 22 _ rfl;rw [sg] at R0;rw [fq] at Yg;have My:F.length=fn:=hF.cap.1.symm;have Mt:=Sl.mk h.ok;clear B3 O3 Ex pbe cA hp hpf hq;by_cases hx:l.dA=true∨l.ag≠0
 ·obtain rfl:eC=(l,[]):=by rw [← js.ah];exact aj.qc (bytes s) hx
  have DQ:gt=true∨(gt=false∧(wz != 0)=true):=by
   cases gt with
   | true=>exact .inl rfl
   | false=>exact .inr ⟨rfl,by
     rcases hx with e | e
     ·rw [sg] at e;cases e
     ·have:wz≠0:=by omega
      simpa using this⟩
  clear h hF hR yz hP hx sg fq hs My;go_enter func43,ntmps43;go_upto_region 1 with fail
  (try rw [bA]);(try rw [cE]);(try rw [cM]);(try rw [cG]);clear bA cE cM cG;go_upto_region 2 with fail
  (try rw [cH]);(try rw [Kb]);clear cH Kb;rcases DQ with rfl | ⟨rfl,q⟩;all_goals
   go_wp2_with (first
    | (refine uY rfl 36 (.tmp 2) rfl b1 rfl 36 _ (0,0) _ eO.ah.X underlying36 rfl (aX rfl) ?_)
    | (refine fG rfl 36 (.tmp 4) (.tmp 22) rfl b2 (zM K c l inp fa fn fc ca cn cc ra rn rc) rfl rfl 36 zD eO.ah.R (aX rfl) rfl (dV ..) ?_))
   have et:=eO.ah.ah (zM K c l inp fa fn fc ca cn cc ra rn rc);(try simp only [Exit.inBlock,Exit.then]);refine gX (iE rfl _ _ b2 _ rfl et.R rfl) rfl ?_;exact ⟨inp,fa,fn,fc,ca,cn,cc,ra,rn,rc,F,_,rfl,⟨HW0.ah.ah HW0.ah.D oT.ah HRQ.ah.1 HRQ.ah.2 HW0.ah.E⟩,⟨Nat.le_add_right _ _⟩⟩
 ·have De:l.dA=false:=by cases e:l.dA with
   | false=>rfl
   | true=>exact absurd (.inl e) hx
  have Cn:l.ag=0:=DI fun e=>hx (.inr e)
  have hr:=yz De Cn;obtain ⟨ip,hip⟩:=zX (inp++s);have zp:bytes ip=bytes inp++bytes s:=by rw [← hip,iK]
  have agm:ip.size=inp.size+s.size:=by rw [← au ip,zp,jB,au,au]
  obtain ⟨gs,AC⟩:=zX ((fP c (l.bO++bytes s)).1);obtain ⟨e,he⟩:=zX ((fP c (l.bO++bytes s)).2.1);obtain ⟨lf,IR⟩:=zX ((fP c (l.bO++bytes s)).2.2);have hm:=hR.dY hr (aJ s);obtain ⟨R,Wm⟩:=zX (jZ c l.ms (dJ c l (bytes s)) [] gs);have lz:=uJ.start (gs:=gs) hR hr (dJ c l (bytes s));have hfd:=hR.iM hr (aJ s);rw [AC,Wm,he,js.ah] at hfd;obtain ⟨A,hA⟩:=zX (F++gs);rw [hA,Wm,My] at lz;have dx:fP c (bytes ip)=(A,e,lf):=by rw [zp,hm,AC,hA,← he,← IR]
  have lj:Sl (∀ F',(run (c.bh:Int) M0 F').1=(run (c.bh:Int) M0 A).1→(eC.1.dA=false→eC.1.ag=0→F'=A)→DR c eC.1 (bytes ip) F'):=⟨fun F' h1 h2=>by
   have:=hR.fed hr (aJ s) (F':=F') (by rw [← zp,dx];exact h1) (by rw [js.ah,← zp,dx];exact h2);rwa [js.ah,← zp] at this⟩
  have oR:Sl (eC=((if R.2.2=true then R.1 else if e≠0 then fail c R.1 e else R.1),R.2.1)):=⟨hfd⟩;obtain ⟨ep,pS,sy⟩:=UD h.ok (aJ ip);rw [dx,au] at sy;rw [dx] at ep pS;obtain ⟨na,hna⟩:=zX A.length;have ab9:∀ f∈A,∀ y∈f.data,y<256:=fun f hf=>(ep f hf).ds
  have nm:Sl ((∀ f∈A,vw f)∧(∀ f∈A,f.data.length≤100000)∧A.length=na∧(∀ f∈A,∀ y∈f.data,y<256)):=⟨ep,pS,hna,ab9⟩;have hfa:fn≤na∧A.take fn=F:=by
   rw [← hna,← hA,jB,← My];exact ⟨Nat.le_add_right _ _,List.take_left' rfl⟩
  have pH:Sl (na≤50000):=⟨by have sy:2*A.length≤ip.size:=sy;omega⟩;have gE:Sl ((fP c (bytes ip)).1=A):=⟨by rw [dx]⟩;have acd:Sl (aV.all (bytes ip) c.af (bQ c:Int)=(A,e,lf)):=⟨dx⟩;have sB:Sl (ip.size≤100000):=⟨by omega⟩;have lc:Sl (ip.size≤inp.size+s.size):=⟨by omega⟩;have HBD:Sl ((bQ c:Int)≤9223372036854775807):=⟨by have:=Mt.ah.m2;unfold aj.bQ;omega⟩;have AD:∀ V,(Op.stringOp .add inp s).run prog V=.ok (.string ip) V:=fun V=>by rw [← hip];exact run_string_add_sum _ _ _ (by omega)
  have k14:w3.cell? ⟨b1,14,none⟩=some (.string inp):=bP.aB eO.ah.X 14 _ rfl;have f14:=eO.ah.fF 14;have tO:=HW0.ah.dJ ip (bytes s);obtain ⟨w4,cS⟩:=zX (w3.setCell ⟨b1,14,none⟩ (.string ip));rw [cS] at tO;obtain ⟨m0,WD⟩:=zX (dJ c l (bytes s));rw [WD] at tO lz;have tO:=Sl.mk tO;have gL:=Sl.mk lz;have Tk:Sl (be<w4.heap.size∧W.heap.size≤w4.heap.size):=⟨NQ sY.ah.2 (by rw [← cS];exact (aH _ _ _ _).size),tO.ah.M.L.size⟩;obtain rfl:gt=false:=by rw [← sg];exact De
  have qz:(wz != 0)=false:=by have:wz=0:=by omega
                              simpa using this
  clear h hF hR yz hP hx sg fq hs My De Cn hr hip zp agm AC he IR hm Wm hfd lz hA dx ep pS sy hna ab9 WD HW0 HRQ;go_enter func43,ntmps43;go_upto_region 1 with fail
  (try rw [bA]);(try rw [cE]);(try rw [cM]);(try rw [cG]);clear bA cE cM cG;go_upto_region 2 with fail
  (try rw [cH]);(try rw [Kb]);clear cH Kb;go_upto_region 5 with fail
  (try rw [cS]);clear cS k14 f14 R0 Yg AD eO qz;refine zG (S:=fun V=>V.heap[b1]? = some (.cells (zM K c m0 ip fa fn fc ca cn cc ra rn rc) 36 (0,0))) (by kernel_rfl) (fun Rw aM=>?_);have al:Rw.heap[b1]? = some (.cells (zM K c m0 ip fa fn fc ca cn cc ra rn rc) 36 (0,0)):=(tO.ah.M.below aM).X;refine zT 0 (some 30) (.fieldAddr 36 (.tmp 2) 3) _ al ?_;simp only [zA,zB,zS];refine zT 1 (some 31) (.load 9 (.tmp 30)) (.string ip) al ?_ (hy:=fun o' ho W hS=>by have d1:=bP.aB hS 14 _ rfl;simp only [execOp,ho];go_simp;try rfl);simp only [zA,zB,zS];refine zT 2 (some 32) (.fieldAddr 36 (.tmp 2) 1) _ al ?_;simp only [zA,zB,zS];refine zT 3 (some 33) (.load 4 (.tmp 32)) (.bool c.af) al ?_ (hy:=fun o' ho W hS=>by have d1:=bP.aB hS 12 _ rfl;simp only [execOp,ho];go_simp;try rfl);simp only [zA,zB,zS];refine zT 4 (some 34) (.fieldAddr 36 (.tmp 2) 0) _ al ?_;simp only [zA,zB,zS];refine zT 5 (some 35) (.load 25 (.tmp 34)) (.agg (zK K c)) al ?_ (hy:=fun o' ho W hS=>Jz ho (by rfl) hS);simp only [zA,zB,zS];refine zC 6 (some 36) (.call {callee:=.value (.func 73),args:=#[.tmp 35],argTypes:=#[25]}) 73 #[.agg (zK K c)] ?_;refine (Df K c Rw).mono ?_;rintro e w5 ⟨rfl,ch⟩;have Yp:=aM.trans (ch.ah.mono aM.size);have cJ:w5.heap[b1]? = some (.cells (zM K c m0 ip fa fn fc ca cn cc ra rn rc) 36 (0,0)):=(tO.ah.M.below Yp).X;have RA:=jS.mF ip c.af (bQ c:Int) w5 sB.ah HBD.ah A e lf acd.ah;refine ⟨_,rfl,cJ,?_⟩;simp only [zA,zB,zS];refine zC 7 (some 37) (.call {callee:=.value (.func 26),args:=#[.tmp 31,.tmp 33,.tmp 36],argTypes:=#[9,4,3]}) 26 #[.string ip,.bool c.af,.int .i64 (bQ c:Int)] ?_;refine (RA).mono ?_;rintro e w6 ⟨vf,rfl,o4,gb⟩;have J1:=Yp.trans (gb.ah.mono Yp.size);obtain ⟨aa,ac,rfl⟩:∃ a c,vf=.slice a na c:=by obtain ⟨a,c,e2⟩:=o4.ah.slice;rw [nm.ah.2.2.1] at e2;exact ⟨a,c,e2⟩
  have da:w6.heap[b1]? = some (.cells (zM K c m0 ip fa fn fc ca cn cc ra rn rc) 36 (0,0)):=(tO.ah.M.below J1).X;refine ⟨_,rfl,da,?_⟩;simp only [zA,zB,zS];refine zT 8 (some 29) (.move (.tmp 37)) (.tuple #[.slice aa na ac,.int .i64 (e:Int),.int .i64 (lf:Int)]) da ?_;simp only [zA,zB,zS];refine zT 9 (some 38) (.extract (.tmp 29) 0) (.slice aa na ac) da ?_;simp only [zA,zB,zS];refine zT 10 (some 39) (.extract (.tmp 29) 1) (.int .i64 (e:Int)) da ?_;simp only [zA,zB,zS];refine zT 11 (some 40) (.extract (.tmp 29) 2) (.int .i64 (lf:Int)) da ?_;simp only [zA,zB,zS];refine zT 12 (some 7) (.assign (.tmp 38)) (.slice aa na ac) da ?_;simp only [zA,zB,zS];refine zT 13 (some 8) (.assign (.tmp 39)) (.int .i64 (e:Int)) da ?_;simp only [zA,zB,zS];refine zT 14 (some 9) (.assign (.tmp 40)) (.int .i64 (lf:Int)) da ?_;simp only [zA,zB,zS];refine zE (by kernel_rfl) ?_;(try go_frame);have Yq:Sl (yw W w6 b1 b2 K c k ip A aa na ac P F m0 [] (.slice (some ⟨be,0,none⟩) 0 0) fa fn fc ca cn cc ra rn rc):=⟨(tO.ah.below J1).all o4.ah (fun j hj=>HP.ah j (jd Tk.ah.2 (jd Yp.size hj))) (fun g e2=>by
   have e2:some be=some g:=e2;injection e2 with e2;have:=Tk.ah;have:=Yp.size;omega)⟩
  have HAC:Sl (na≤ac):=⟨by
   obtain ⟨a',c',sb,so,e1,e2,_⟩:=Yq.ah.V;injection e1 with _ e3 e4
   omega⟩
  have k15:w6.cell? ⟨b1,15,none⟩=some (.slice fa fn fc):=bP.aB Yq.ah.M.X 15 _ rfl;have Yq:Sl (yw W w6 b1 b2 K c k ip A aa na ac P (A.take fn) m0 [] (.slice (some ⟨be,0,none⟩) 0 0) fa fn fc ca cn cc ra rn rc):=⟨by rw [hfa.2];exact Yq.ah⟩;have hfa:=hfa.1;clear al cJ da RA ch gb Yp J1 o4 aM tO Tk sY acd sB HBD;go_wp2;go_loopw [6,10,11,12,13] (fun u6 u10 u11 u12 u13 wr=>∃ (i:Nat) (m:Lg) (es:List Ev) (ev:Value) (xa:Option Addr) (xn xc:Nat) (ya:Option Addr) (yn yc:Nat) (za:Option Addr) (zn zc:Nat),ev=u6∧u10=.int .i64 (i:Int)∧i≤na∧Sl (yw W wr b1 b2 K c k ip A aa na ac P (A.take i) m es ev xa xn xc ya yn yc za zn zc)∧Sl (uJ c A i m es R)∧Sl (es.length≤i)) (fun _ u10 _ _ _ _=>na-(intOf u10).toNat)
  case atStart=>exact ⟨fn,m0,[],_,fa,fn,fc,ca,cn,cc,ra,rn,rc,rfl,rfl,hfa,Yq,gL,⟨ku _⟩⟩
  case round =>
   obtain ⟨i,m,es,ev,xa,xn,xc,ya,yn,yc,za,zn,zc,rfl,rfl,hi,HW,HGN,Ml⟩:=hrel;clear Yq gL;by_cases eV:i<na
   ·have bz:((i:Int)<(na:Int))=True:=eq_true (by omega)
    have ab5:(i:Int)<(na:Int):=by omega
    have agr:Sl (i≤ac):=⟨by have:=HAC.ah;omega⟩;have HIC:Sl (i+1≤ac):=⟨by have:=HAC.ah;omega⟩;have hbi:(0:Int)≤(i:Int)+1:=by omega
    have hbj:(i:Int)+1≤(ac:Int):=by have:=HAC.ah;omega
    have hwi:IntKind.i64.wrap ((i:Int)+1)=((i+1:Nat):Int):=by rw [lZ];have:=pH.ah;omega
    obtain ⟨e1,YU⟩:=zX ((run (c.bh:Int) M0 (A.take i)).2);obtain ⟨r1,mu⟩:=zX ((run (c.bh:Int) M0 (A.take i)).1.bj);obtain ⟨o1,ju⟩:=zX ((run (c.bh:Int) M0 (A.take i)).1.aL);obtain ⟨t1,vq⟩:=zX ((run (c.bh:Int) M0 (A.take i)).1.aT.length);obtain ⟨n1,sC⟩:=zX e1.length;have MD1:∀ V,Below wr.heap.size wr V→Calls prog 74 #[.slice aa i ac,.int .i64 (c.bh:Int)] V fun x w'=>∃ La Lc,x=.returned (.agg #[.slice La n1 Lc,.int .i64 (r1:Int),.bool o1,.int .i64 (t1:Int)])∧Sl (ig w' V.heap.size (.slice La n1 Lc) e1)∧Sl (Below V.heap.size V w'):=fun V hV=>by
     have h1:=Mdc.mF (A.take i) (.slice aa i ac) (c.bh:Int) V (iL.aS.to (HW.ah.V.below hV) (by omega)) (fun f hf=>nm.ah.1 f (Hf hf)) (fun f hf=>nm.ah.2.1 f (Hf hf)) (by have:=Mt.ah.m2;omega) (by rw [kQ];have:=nm.ah.2.2.1;have:=pH.ah;omega);rw [YU,mu,ju,vq] at h1;refine h1.mono ?_;rintro x w' ⟨L,h2,h3,h4⟩;obtain ⟨La,Lc,h5⟩:=h3.ah.slice;rw [sC] at h5;subst h5;exact ⟨La,Lc,h2,h3,h4⟩
    have Kk:Sl ((run (c.bh:Int) M0 (A.take i)).2=e1∧(run (c.bh:Int) M0 (A.take i)).1.bj=r1∧(run (c.bh:Int) M0 (A.take i)).1.aL=o1∧e1.length=n1):=⟨YU,mu,ju,sC⟩;clear YU mu ju vq sC;go_upto_region 9 with fail
    (try go_frame);go_cut [11] (fun s11 wx=>∃ (q1:Nat) (La1:Option Addr) (Lc1:Nat),s11=.pointer (some ⟨q1,0,none⟩)∧Sl (yw W wx b1 b2 K c k ip A aa na ac P (A.take i) m es ev xa xn xc ya yn yc za zn zc)∧Sl (UU wx q1 La1 n1 Lc1 r1 o1 t1 e1))
    case first =>
     refine zG (S:=fun V=>V.cell? ⟨b1,3,none⟩=some (.int .i64 (c.bh:Int))) (by kernel_rfl) (fun Rw aM=>?_);have al:Rw.cell? ⟨b1,3,none⟩=some (.int .i64 (c.bh:Int)):=bP.aB (HW.ah.M.below aM).X 3 _ rfl;refine zT 0 (some 50) (.move (.tmp 7)) _ al ?_;simp only [zA,zB,zS];refine zT 1 (some 51) (.move (.tmp 10)) _ al ?_;simp only [zA,zB,zS];refine zT 2 (some 52) (.slice 34 (.tmp 50) none (some (.tmp 51)) none) (.slice aa i ac) al ?_ (hy:=fun o' ho W hS=>NH i ho (by rfl) (by rfl) agr.ah);simp only [zA,zB,zS];refine zT 3 (some 53) (.fieldAddr 36 (.tmp 2) 0) _ al ?_;simp only [zA,zB,zS];refine zT 4 (some 54) (.fieldAddr 25 (.tmp 53) 3) _ al ?_;simp only [zA,zB,zS];refine zT 5 (some 55) (.load 3 (.tmp 54)) _ al ?_ (hy:=fun o' ho W hS=>by have d1:=hS;simp only [execOp,ho];go_simp;try rfl);simp only [zA,zB,zS];obtain ⟨A1,Mm,p9,Er⟩:=zY Rw #[.slice none 0 0,.int .i64 0,.bool false,.int .i64 0] 129;have Kl:Below wr.heap.size wr A1:=aM.trans (p9.mono aM.size);have ga:A1.cell? ⟨b1,3,none⟩=some (.int .i64 (c.bh:Int)):=bP.aB (HW.ah.M.below Kl).X 3 _ rfl;refine gK.qG (di:=some 11) (dj:=some 56) (pT:=.alloc 129) (p8:=.call {callee:=Callee.value (Operand.func 74),args:=#[Operand.tmp 52,Operand.tmp 55],argTypes:=#[34,3]}) (ti:=0) (tj:=129) 7 6 (.pointer (some ⟨Rw.heap.size,0,none⟩)) A1 74 #[.slice aa i ac,.int .i64 (c.bh:Int)] rfl rfl (by kernel_rfl) ?pa ?qa ga ?la ?ra;case pa=>intro o' ho ht;simp only [execOp,ho];go_simp;first | done | (rw [Mm];done) | rfl
     case qa=>intro o' ho ht;simp only [execOp,ho];go_simp;try rfl
     case la =>
      simp only [zA,zB,zS];refine zC 6 (some 56) (.call {callee:=.value (.func 74),args:=#[.tmp 52,.tmp 55],argTypes:=#[34,3]}) 74 #[.slice aa i ac,.int .i64 (c.bh:Int)] ?_;refine (MD1 A1 Kl).mono ?_;rintro e w7 ⟨La,Lc,rfl,Tl,fj⟩;have sd:Below wr.heap.size wr w7:=Kl.trans (fj.ah.mono Kl.size);have mB:w7.cell? ⟨b1,3,none⟩=some (.int .i64 (c.bh:Int)):=bP.aB (HW.ah.M.below sd).X 3 _ rfl;refine ⟨_,rfl,mB,?_⟩;simp only [zA,zB,zS];obtain ⟨HZ,eM⟩:=G8 (er:=r1) (ov:=o1) (tx:=t1) sd aM.size (ay Er fj.ah) Tl.ah;obtain ⟨Z,hZ⟩:=zX (w7.setRow Rw.heap.size #[.slice La n1 Lc,.int .i64 (r1:Int),.bool o1,.int .i64 (t1:Int)]);rw [hZ] at HZ eM;have bS:Z.cell? ⟨b1,3,none⟩=some (.int .i64 (c.bh:Int)):=bP.aB (HW.ah.M.below HZ).X 3 _ rfl;refine zW 8 none (.store 129 (.tmp 11) (.tmp 56)) 0 Z bS ?_ (hy:=fun o' ho ht=>by rw [← hZ];exact uz ho (by rfl) (by rfl) (ay Er fj.ah) rfl rfl (Be ..));simp only [Act.put];refine zE (by kernel_rfl) ?_;(try go_wp2_with fail);go_meet;exact ⟨_,_,_,rfl,⟨HW.ah.below HZ⟩,⟨eM⟩⟩
     case ra =>
      refine (MD1 Rw aM).mono ?_;rintro e w7 ⟨La,Lc,rfl,Tl,fj⟩;have sd:Below wr.heap.size wr w7:=aM.trans (fj.ah.mono aM.size);have mB:w7.cell? ⟨b1,3,none⟩=some (.int .i64 (c.bh:Int)):=bP.aB (HW.ah.M.below sd).X 3 _ rfl;obtain ⟨A2,Rv,m7,ua⟩:=zY w7 #[.slice none 0 0,.int .i64 0,.bool false,.int .i64 0] 129;have HC8:Below wr.heap.size wr A2:=sd.trans (m7.mono sd.size);have vD:A2.cell? ⟨b1,3,none⟩=some (.int .i64 (c.bh:Int)):=bP.aB (HW.ah.M.below HC8).X 3 _ rfl;refine ⟨_,rfl,mB,?_⟩;simp only [zA,zB,zS];refine zR 7 (some 11) (.alloc 129) 0 (.pointer (some ⟨w7.heap.size,0,none⟩)) A2 vD ?_ (hy:=fun o' ho _=>by simp only [execOp,ho];go_simp;first | done | (rw [Rv];done) | rfl);simp only [zA,zB,zS];obtain ⟨HZ,eM⟩:=G8 (er:=r1) (ov:=o1) (tx:=t1) HC8 sd.size ua (Tl.ah.below m7);obtain ⟨Z,hZ⟩:=zX (A2.setRow w7.heap.size #[.slice La n1 Lc,.int .i64 (r1:Int),.bool o1,.int .i64 (t1:Int)]);rw [hZ] at HZ eM;have bS:Z.cell? ⟨b1,3,none⟩=some (.int .i64 (c.bh:Int)):=bP.aB (HW.ah.M.below HZ).X 3 _ rfl;refine zW 8 none (.store 129 (.tmp 11) (.tmp 56)) 0 Z bS ?_ (hy:=fun o' ho ht=>by rw [← hZ];exact uz ho (by rfl) (by rfl) ua rfl rfl (Be ..));simp only [Act.put];refine zE (by kernel_rfl) ?_;(try go_wp2_with fail);go_meet;exact ⟨_,_,_,rfl,⟨HW.ah.below HZ⟩,⟨eM⟩⟩
    case rest =>
     obtain ⟨wx,Yo⟩:∃ V,V=wc:=⟨_,rfl⟩;subst Yo;obtain ⟨q1,La1,Lc1,rfl,ir,bi⟩:=hcut;clear MD1 HW;obtain ⟨e2,Fy⟩:=zX ((run (c.bh:Int) M0 (A.take (i+1))).2);obtain ⟨r2,eA⟩:=zX ((run (c.bh:Int) M0 (A.take (i+1))).1.bj);obtain ⟨o2,ym⟩:=zX ((run (c.bh:Int) M0 (A.take (i+1))).1.aL);obtain ⟨t2,ui⟩:=zX ((run (c.bh:Int) M0 (A.take (i+1))).1.aT.length);obtain ⟨n2,pD⟩:=zX e2.length;have MD2:∀ V,Below wx.heap.size wx V→Calls prog 74 #[.slice aa (i+1) ac,.int .i64 (c.bh:Int)] V fun x w'=>∃ La Lc,x=.returned (.agg #[.slice La n2 Lc,.int .i64 (r2:Int),.bool o2,.int .i64 (t2:Int)])∧Sl (ig w' V.heap.size (.slice La n2 Lc) e2)∧Sl (Below V.heap.size V w'):=fun V hV=>by
      have h1:=Mdc.mF (A.take (i+1)) (.slice aa (i+1) ac) (c.bh:Int) V (iL.aS.to (ir.ah.V.below hV) (by omega)) (fun f hf=>nm.ah.1 f (Hf hf)) (fun f hf=>nm.ah.2.1 f (Hf hf)) (by have:=Mt.ah.m2;omega) (by rw [kQ];have:=nm.ah.2.2.1;have:=pH.ah;omega);rw [Fy,eA,ym,ui] at h1;refine h1.mono ?_;rintro x w' ⟨L,h2,h3,h4⟩;obtain ⟨La,Lc,h5⟩:=h3.ah.slice;rw [pD] at h5;subst h5;exact ⟨La,Lc,h2,h3,h4⟩
     have Fm:Sl ((run (c.bh:Int) M0 (A.take (i+1))).2=e2∧(run (c.bh:Int) M0 (A.take (i+1))).1.bj=r2∧(run (c.bh:Int) M0 (A.take (i+1))).1.aL=o2∧e2.length=n2):=⟨Fy,eA,ym,pD⟩;clear Fy eA ym ui pD;go_upto_region 10 with fail
     (try go_frame);go_cut [12] (fun s12 wy=>∃ (q2:Nat) (La2:Option Addr) (Lc2:Nat),s12=.pointer (some ⟨q2,0,none⟩)∧Sl (yw W wy b1 b2 K c k ip A aa na ac P (A.take i) m es ev xa xn xc ya yn yc za zn zc)∧Sl (UU wy q1 La1 n1 Lc1 r1 o1 t1 e1)∧Sl (UU wy q2 La2 n2 Lc2 r2 o2 t2 e2))
     case first =>
      refine zG (S:=fun V=>V.cell? ⟨b1,3,none⟩=some (.int .i64 (c.bh:Int))) (by kernel_rfl) (fun Rw aM=>?_);have al:Rw.cell? ⟨b1,3,none⟩=some (.int .i64 (c.bh:Int)):=bP.aB (ir.ah.M.below aM).X 3 _ rfl;refine zT 0 (some 57) (.move (.tmp 7)) _ al ?_;simp only [zA,zB,zS];refine zT 1 (some 58) (.move (.tmp 10)) _ al ?_;simp only [zA,zB,zS];refine zT 2 (some 59) (.binOp .add 3 (.tmp 58) (.const (.int .i64 1)) 3) (.int .i64 ((i+1:Nat):Int)) al ?_ (hy:=fun o' ho W hS=>by simp only [execOp,ho];go_simp;first | done | rfl | (rw [hwi]) | (simpa using hwi) | (simp;done));simp only [zA,zB,zS];refine zT 3 (some 60) (.slice 34 (.tmp 57) none (some (.tmp 59)) none) (.slice aa (i+1) ac) al ?_ (hy:=fun o' ho W hS=>NH (i+1) ho (by rfl) (by rfl) HIC.ah);simp only [zA,zB,zS];refine zT 4 (some 61) (.fieldAddr 36 (.tmp 2) 0) _ al ?_;simp only [zA,zB,zS];refine zT 5 (some 62) (.fieldAddr 25 (.tmp 61) 3) _ al ?_;simp only [zA,zB,zS];refine zT 6 (some 63) (.load 3 (.tmp 62)) _ al ?_ (hy:=fun o' ho W hS=>by have d1:=hS;simp only [execOp,ho];go_simp;try rfl);simp only [zA,zB,zS];obtain ⟨A1,Mm,p9,Er⟩:=zY Rw #[.slice none 0 0,.int .i64 0,.bool false,.int .i64 0] 129;have Kl:Below wx.heap.size wx A1:=aM.trans (p9.mono aM.size);have ga:A1.cell? ⟨b1,3,none⟩=some (.int .i64 (c.bh:Int)):=bP.aB (ir.ah.M.below Kl).X 3 _ rfl;refine gK.qG (di:=some 12) (dj:=some 64) (pT:=.alloc 129) (p8:=.call {callee:=Callee.value (Operand.func 74),args:=#[Operand.tmp 60,Operand.tmp 63],argTypes:=#[34,3]}) (ti:=0) (tj:=129) 8 7 (.pointer (some ⟨Rw.heap.size,0,none⟩)) A1 74 #[.slice aa (i+1) ac,.int .i64 (c.bh:Int)] rfl rfl (by kernel_rfl) ?pb ?qb ga ?lb ?rb;case pb=>intro o' ho ht;simp only [execOp,ho];go_simp;first | done | (rw [Mm];done) | rfl
      case qb=>intro o' ho ht;simp only [execOp,ho];go_simp;try rfl
      case lb =>
       simp only [zA,zB,zS];refine zC 7 (some 64) (.call {callee:=.value (.func 74),args:=#[.tmp 60,.tmp 63],argTypes:=#[34,3]}) 74 #[.slice aa (i+1) ac,.int .i64 (c.bh:Int)] ?_;refine (MD2 A1 Kl).mono ?_;rintro e w7 ⟨La,Lc,rfl,Tl,fj⟩;have sd:Below wx.heap.size wx w7:=Kl.trans (fj.ah.mono Kl.size);have mB:w7.cell? ⟨b1,3,none⟩=some (.int .i64 (c.bh:Int)):=bP.aB (ir.ah.M.below sd).X 3 _ rfl;refine ⟨_,rfl,mB,?_⟩;simp only [zA,zB,zS];obtain ⟨HZ,eM⟩:=G8 (er:=r2) (ov:=o2) (tx:=t2) sd aM.size (ay Er fj.ah) Tl.ah;obtain ⟨Z,hZ⟩:=zX (w7.setRow Rw.heap.size #[.slice La n2 Lc,.int .i64 (r2:Int),.bool o2,.int .i64 (t2:Int)]);rw [hZ] at HZ eM;have bS:Z.cell? ⟨b1,3,none⟩=some (.int .i64 (c.bh:Int)):=bP.aB (ir.ah.M.below HZ).X 3 _ rfl;refine zW 9 none (.store 129 (.tmp 12) (.tmp 64)) 0 Z bS ?_ (hy:=fun o' ho ht=>by rw [← hZ];exact uz ho (by rfl) (by rfl) (ay Er fj.ah) rfl rfl (Be ..));simp only [Act.put];refine zE (by kernel_rfl) ?_;(try go_wp2_with fail);go_meet;exact ⟨_,_,_,rfl,⟨ir.ah.below HZ⟩,⟨bi.ah.below HZ⟩,⟨eM⟩⟩
      case rb =>
       refine (MD2 Rw aM).mono ?_;rintro e w7 ⟨La,Lc,rfl,Tl,fj⟩;have sd:Below wx.heap.size wx w7:=aM.trans (fj.ah.mono aM.size);have mB:w7.cell? ⟨b1,3,none⟩=some (.int .i64 (c.bh:Int)):=bP.aB (ir.ah.M.below sd).X 3 _ rfl;obtain ⟨A2,Rv,m7,ua⟩:=zY w7 #[.slice none 0 0,.int .i64 0,.bool false,.int .i64 0] 129;have HC8:Below wx.heap.size wx A2:=sd.trans (m7.mono sd.size);have vD:A2.cell? ⟨b1,3,none⟩=some (.int .i64 (c.bh:Int)):=bP.aB (ir.ah.M.below HC8).X 3 _ rfl;refine ⟨_,rfl,mB,?_⟩;simp only [zA,zB,zS];refine zR 8 (some 12) (.alloc 129) 0 (.pointer (some ⟨w7.heap.size,0,none⟩)) A2 vD ?_ (hy:=fun o' ho _=>by simp only [execOp,ho];go_simp;first | done | (rw [Rv];done) | rfl);simp only [zA,zB,zS];obtain ⟨HZ,eM⟩:=G8 (er:=r2) (ov:=o2) (tx:=t2) HC8 sd.size ua (Tl.ah.below m7);obtain ⟨Z,hZ⟩:=zX (A2.setRow w7.heap.size #[.slice La n2 Lc,.int .i64 (r2:Int),.bool o2,.int .i64 (t2:Int)]);rw [hZ] at HZ eM;have bS:Z.cell? ⟨b1,3,none⟩=some (.int .i64 (c.bh:Int)):=bP.aB (ir.ah.M.below HZ).X 3 _ rfl;refine zW 9 none (.store 129 (.tmp 12) (.tmp 64)) 0 Z bS ?_ (hy:=fun o' ho ht=>by rw [← hZ];exact uz ho (by rfl) (by rfl) ua rfl rfl (Be ..));simp only [Act.put];refine zE (by kernel_rfl) ?_;(try go_wp2_with fail);go_meet;exact ⟨_,_,_,rfl,⟨ir.ah.below HZ⟩,⟨bi.ah.below HZ⟩,⟨eM⟩⟩
     case rest =>
      obtain ⟨wy,hwy⟩:∃ V,V=wc:=⟨_,rfl⟩;subst hwy;obtain ⟨q2,La2,Lc2,rfl,nz,bi,bk⟩:=hcut;clear MD2 ir;have m8:=Sl.mk (nz.ah.Ua (i+1) (by omega));have bi:=Sl.mk (bi.ah.kind nz.ah.M.X (aH wy b1 15 (.slice aa (i+1) ac)));have bk:=Sl.mk (bk.ah.kind nz.ah.M.X (aH wy b1 15 (.slice aa (i+1) ac)));obtain ⟨w11,Tp⟩:=zX (wy.setCell ⟨b1,15,none⟩ (.slice aa (i+1) ac));rw [Tp] at m8 bi bk;have f15:=nz.ah.M.fF 15;have k15:=bP.aB nz.ah.M.X 15 _ rfl;have SL:(Instr.slice 34 (.slice aa na ac) none (some (.int .i64 ((i+1:Nat):Int))) none).run prog wy=.ok (.slice aa (i+1) ac) wy:=iL.EG wy aa na ac (i+1) HIC.ah;have Mz:=HGN.ah.step (by rw [nm.ah.2.2.1];exact eV) nm.ah.2.2.2;rw [Fm.ah.2.1,Fm.ah.2.2.1] at Mz;have Zz:Sl (∀ g,ev.ownBlock=some g→g<w11.heap.size):=⟨fun g e2=>by
       have:=m8.ah.E.heap e2;exact (zl this.2.choose_spec)⟩
      have lL:Sl (n1≤1000000):=⟨by have:=aj.zh (c.bh:Int) (A.take i) M0;rw [Kk.ah.1,Kk.ah.2.2.2,kQ] at this;have:=pH.ah;omega⟩;clear nz;go_upto_region 12 with fail
      (try rw [Tp]);clear Tp f15 k15 SL;have y1:=bP.aB bk.ah.X 1 _ rfl;have y0:=bP.aB bk.ah.X 0 _ rfl;have x0:=bP.aB bi.ah.X 0 _ rfl;rcases Mz with ⟨he,hR⟩ | ⟨he,hl,hg⟩ | ⟨he,x,hx,hp9,bB,tw⟩
      ·have q:((r2:Int) != 0)=true:=by simp;omega
       obtain rfl:eC=((fail c m r2),es):=by rw [oR.ah,hR];rfl
       have Tr:Sl (DR c (fail c m r2) (bytes ip) (A.take (i+1))):=⟨lj.ah _ (aj.xN (.inl (by rw [Fm.ah.2.1];exact he))) (fun _ e1=>absurd ((aj.jm c {m with ag:=r2} _ _).ag.symm.trans e1) he)⟩;have FA:=NG (K:=K) (inp:=ip) (fa:=aa) (fn:=i+1) (fc:=ac) m8.ah.D r2 (P:=P) (fun j hj=>HP.ah j (jd m8.ah.M.L.size hj)) ⟨m8.ah.pc.1.imp fun _ e=>e.1,m8.ah.pc.2.imp fun _ e=>e.1⟩;have tP:=Sl.mk m8.ah.M;clear he hR x0 y0;go_wp2_with (refine uY rfl 36 (.tmp 2) rfl b1 rfl 36 _ (0,0) _ tP.ah.X underlying36 rfl (aX rfl) ?_)
       refine FA.mono ?_;rintro e wm ⟨aq,ar,aD,aw,az,aE,rfl,Fo,ki,cN⟩;clear FA y1;have HWM:=Sl.mk (m8.ah.below ki.ah);have ei:=Sl.mk HWM.ah.M;go_wp2_with (refine fG rfl 36 (.tmp 4) (.tmp 76) rfl b2 (zM K c (fail c m r2) ip aa (i+1) ac aq ar aD aw az aE) rfl rfl 36 zD ei.ah.R (aX rfl) rfl (dV ..) ?_)
       have et:=ei.ah.ah (zM K c (fail c m r2) ip aa (i+1) ac aq ar aD aw az aE);(try simp only [Exit.inBlock,Exit.then]);refine gX (iE rfl _ _ b2 _ rfl et.R rfl) rfl ?_;exact ⟨ip,aa,i+1,ac,aq,ar,aD,aw,az,aE,A.take (i+1),_,rfl,⟨HWM.ah.ah Fo.ah cN.ah Tr.ah ⟨i+1,by rw [gE.ah]⟩ HWM.ah.E⟩,lc⟩
      ·have q:((r2:Int) != 0)=false:=by rw [he];rfl
       have q2:((n2:Int)==(n1:Int))=true:=by
        rw [Fm.ah.1,Kk.ah.1,Fm.ah.2.2.2,Kk.ah.2.2.2] at hl;simp;omega
       have C8:=Sl.mk hg;clear he hl hg;go_wp2;exact ⟨⟨i+1,_,_,_,aa,i+1,ac,ya,yn,yc,za,zn,zc,rfl,by go_num,by omega,m8,C8,⟨Nat.le_succ_of_le Ml.ah⟩⟩,by simp [intOf];omega⟩
      ·skip
       obtain ⟨op,ao,d⟩:=x;obtain rfl:n2=n1+1:=by
        have h1:=Fm.ah.2.2.2;have h2:=Kk.ah.2.2.2;rw [Kk.ah.1] at hx;rw [← Fm.ah.1,hx,jB,h2] at h1;simpa using h1.symm
       have hgx:e2.getD n1 XH=⟨op,ao,d⟩:=by
        rw [← Fm.ah.1,hx,Kk.ah.1,iw,QC (by rw [Kk.ah.2.2.2];exact aY _),Kk.ah.2.2.2,Nat.sub_self];rfl
       obtain ⟨-,An,Bk⟩:=bk.ah.E.rY.cap;obtain ⟨sb,so,rfl⟩:=Bk (by omega);obtain ⟨p0,p1,p2⟩:=bk.ah.E.rY.VW n1 (by rw [Fm.ah.2.2.2];omega) hgx;have q:((r2:Int) != 0)=false:=by rw [he];rfl
       have q2:(((n1+1:Nat):Int)==(n1:Int))=false:=by simp;omega
       have bA:IntKind.i64.wrap (((n1+1:Nat):Int)-1)=(n1:Int):=by rw [lZ];have:=lL.ah;omega
       have cE:wrap64 (n1:Int)=(n1:Int):=by unfold wrap64;have:=lL.ah;omega
       have lw:Sl (n1<n1+1):=⟨by omega⟩;have AK:(n1:Int)<((n1+1:Nat):Int):=by omega
       obtain ⟨w15,acf,acg,ach⟩:=zY w11 #[.int .i64 op,.int .i64 ao,.string (aF d)] 52;have Fi:=Sl.mk ach;have mr:=Sl.mk (m8.ah.below acg);obtain ⟨q3,Mw⟩:=zX w11.heap.size;rw [Mw] at Fi;have yk:Sl (q3<w15.heap.size∧W.heap.size≤q3):=⟨(zl Fi.ah),by rw [← Mw];exact m8.ah.M.L.size⟩;have HQE:Sl (ev.ownBlock≠some q3):=⟨fun e=>by
        have h1:=Zz.ah q3 e;omega⟩
       clear ach acg hgx hx An Bk lw;go_upto_region 16 with fail
       (try rw [acf]);(try rw [Mw]);clear acf Mw p0 p1 p2 y0 y1 x0 bA cE bi bk m8 q q2 AK;obtain ⟨z0,z1,z2⟩:=iq Fi.ah;rcases tw with ⟨h9,hg⟩ | ⟨h8,eJ,hR⟩ | ⟨h9,h8,hg⟩
       ·obtain rfl:op=9:=h9
        have Mo:(aF d).size≤125:=by rw [cZ];exact hp9 rfl
        have C8:=Sl.mk hg;have PG:=WG (K:=K) (inp:=ip) (fa:=aa) (fn:=i+1) (fc:=ac) mr.ah.D (aF d) Mo (P:=fun j=>P j∧ev.ownBlock≠some j) (fun j hj=>⟨HP.ah j (jd mr.ah.M.L.size hj),fun e2=>by
         have:=mr.ah.E.heap e2;have:=(zl this.2.choose_spec);omega⟩) mr.ah.pc
        rw [dm d bB] at PG;have aci:=Sl.mk mr.ah.M;clear hp9 Mo bB hg;go_wp2_with (refine uY rfl 36 (.tmp 2) rfl b1 rfl 36 _ (0,0) _ aci.ah.X underlying36 rfl (aX rfl) ?_)
        refine PG.mono ?_;rintro e w16 ⟨aq,ar,aD,aw,az,aE,rfl,Fo,ki,cN⟩;clear PG z0 z1 z2;have tQ:=Sl.mk (mr.ah.below ki.ah);have Km:=Sl.mk tQ.ah.M;have ik:=Sl.mk (tQ.ah.put Fo.ah cN.ah);clear mr aci Fi yk Fo ki cN;go_wp2_with (refine fG rfl 36 (.tmp 2) (.tmp 104) rfl b1 (zM K c (aj.lV c m d) ip aa (i+1) ac aq ar aD aw az aE) rfl rfl 36 (zM K c m ip aa (i+1) ac ya yn yc za zn zc) Km.ah.X (aX rfl) rfl (dV ..) ?_)
        exact ⟨⟨i+1,_,_,_,aa,i+1,ac,aq,ar,aD,aw,az,aE,rfl,by go_num,by omega,ik,C8,⟨Nat.le_succ_of_le Ml.ah⟩⟩,by simp [intOf];omega⟩
       ·obtain rfl:op=8:=h8
        obtain rfl:eC=((aj.bU c {m with dA:=true} (aG.bI ao) []).1,es++[(⟨8,ao,d⟩:Ev)]):=by rw [oR.ah,hR];rfl
        have Tr:Sl (DR c (aj.bU c {m with dA:=true} (aG.bI ao) []).1 (bytes ip) (A.take (i+1))):=⟨lj.ah _ (aj.xN (.inr (by rw [Fm.ah.2.2.1];exact eJ))) (fun e1 _=>by rw [(aj.jm c {m with dA:=true} _ _).dA] at e1;cases e1)⟩;have f21:=mr.ah.M.fF 21;have R0:=bP.aB mr.ah.M.X 21 _ rfl;have ik:=Sl.mk mr.ah.dA;have Ts:(w15.setCell ⟨b1,21,none⟩ (.bool true)).heap[q3]? = some (.cells #[.int .i64 8,.int .i64 ao,.string (aF d)] 52 (0,0)):=by
         rw [pI _ _ _ _ (show q3≠b1 from fun e=>by
          have h1:=Fi.ah;rw [e,mr.ah.M.X] at h1;injection h1 with h1
          injection h1 with _ h1 _
          exact absurd h1 (by decide))]
         exact Fi.ah
        obtain ⟨w17,wl⟩:=zX (w15.setCell ⟨b1,21,none⟩ (.bool true));rw [wl] at ik Ts;have MA:=Sl.mk Ts;have LT:es.length≤50000:=by have:=Ml.ah;have:=pH.ah;omega
        have CT:∀ V,Below w17.heap.size w17 V→Calls prog 46 #[.agg (zL K c (m.bu:Int) ip aa (i+1) ac (aF m.aK) (aF m.tail) ya yn yc za zn zc m.am true (m.ag:Int)),.int .i64 (aG.bI ao),.string {data:=#[]}] V fun ee w'=>∃ aq ar aD aw az aE,ee=.returned (.tuple #[.agg (zM K c ((aj.bU c {m with dA:=true} (aG.bI ao) []).1) ip aa (i+1) ac aq ar aD aw az aE),.bool (aj.bU c {m with dA:=true} (aG.bI ao) []).2])∧Sl (DF w' c (aj.bU c {m with dA:=true} (aG.bI ao) []).1 k aq ar aD aw az aE)∧Sl (Below V.heap.size V w')∧Sl (PB (fun j=>P j∧ev.ownBlock≠some j) aq ar∧PB (fun j=>P j∧ev.ownBlock≠some j) aw az):=fun V hV=>JB (K:=K) (l:={m with dA:=true}) (inp:=ip) (fa:=aa) (fn:=i+1) (fc:=ac) (ik.ah.D.below hV) (aG.bI ao) {data:=#[]} (by decide) (P:=fun j=>P j∧ev.ownBlock≠some j) (fun j hj=>⟨HP.ah j (jd (ik.ah.M.below hV).L.size hj),fun e2=>by
         have:=ik.ah.E.heap e2;have:=(zl this.2.choose_spec);have:=hV.size;omega⟩) ik.ah.pc
        clear hp9 bB eJ hR Fi Ts yk;go_upto_region 22 with fail
        (try rw [wl]);clear wl f21 R0 z0 z1 z2;refine zH (S:=fun V=>V.heap[b1]? = some (.cells (zL K c (m.bu:Int) ip aa (i+1) ac (aF m.aK) (aF m.tail) ya yn yc za zn zc m.am true (m.ag:Int)) 36 (0,0))∧V.heap[q3]? = some (.cells #[.int .i64 8,.int .i64 ao,.string (aF d)] 52 (0,0))) (D:=fun j=>j==8) (by kernel_rfl) (fun Rw aM=>?_);have Tw:=Sl.mk (ik.ah.below aM);have al:Rw.heap[b1]? = some (.cells (zL K c (m.bu:Int) ip aa (i+1) ac (aF m.aK) (aF m.tail) ya yn yc za zn zc m.am true (m.ag:Int)) 36 (0,0))∧Rw.heap[q3]? = some (.cells #[.int .i64 8,.int .i64 ao,.string (aF d)] 52 (0,0)):=⟨Tw.ah.M.X,ay MA.ah aM⟩;refine zP 1 (some 110) (.fieldAddr 52 (.tmp 13) 1) _ al ?_;simp only [zA,zB,zS];refine zU 0 (some 109) (.load 36 (.tmp 2)) (.agg (zL K c (m.bu:Int) ip aa (i+1) ac (aF m.aK) (aF m.tail) ya yn yc za zn zc m.am true (m.ag:Int))) al ?_ (hy:=fun o' ho W hS=>kP ho (by rfl) hS.1 rfl);simp only [zA,zB,zS];refine zU 2 (some 111) (.load 3 (.tmp 110)) (.int .i64 ao) al ?_ (hy:=fun o' ho W hS=>by have d1:=(iq hS.2).2.1;simp only [execOp,ho];go_simp;try rfl);simp only [zA,zB,zS];refine xZ (d:=some 112) (op:=.call {callee:=Callee.value (Operand.func 77),args:=#[Operand.tmp 111],argTypes:=#[3]}) (g:=none) 3 77 #[.int .i64 ao] rfl (by kernel_rfl) (by kernel_rfl) ?y3 ?_;case y3=>intro o' ho;simp only [execOp,ho];go_simp;try rfl
        refine (Gh.D9 ao Rw).mono ?_;rintro e w18 ⟨rfl,rfl⟩;refine ⟨_,rfl,al,?_⟩;simp only [zA,zB,zS];have CL:=CT Rw aM;refine xZ (d:=some 113) (op:=.call {callee:=Callee.value (Operand.func 46),args:=#[Operand.tmp 109,Operand.tmp 112,Operand.const (Value.string {data:=#[]})],argTypes:=#[36,3,9]}) (g:=none) 4 46 #[.agg (zL K c (m.bu:Int) ip aa (i+1) ac (aF m.aK) (aF m.tail) ya yn yc za zn zc m.am true (m.ag:Int)),.int .i64 (aG.bI ao),.string {data:=#[]}] rfl (by kernel_rfl) (by kernel_rfl) ?y4 ?_;case y4=>intro o' ho;simp only [execOp,ho];go_simp;try rfl
        refine (CL).mono ?_;rintro e w19 ⟨aq,ar,aD,aw,az,aE,rfl,Fo,ki,cN⟩;have Tx:=Sl.mk (Tw.ah.below ki.ah);have cT:w19.heap[b1]? = some (.cells (zL K c (m.bu:Int) ip aa (i+1) ac (aF m.aK) (aF m.tail) ya yn yc za zn zc m.am true (m.ag:Int)) 36 (0,0))∧w19.heap[q3]? = some (.cells #[.int .i64 8,.int .i64 ao,.string (aF d)] 52 (0,0)):=⟨Tx.ah.M.X,ay al.2 ki.ah⟩;refine ⟨_,rfl,cT,?_⟩;simp only [zA,zB,zS];refine zP 5 (some 108) (.move (.tmp 113)) (.tuple #[.agg (zM K c ((aj.bU c {m with dA:=true} (aG.bI ao) []).1) ip aa (i+1) ac aq ar aD aw az aE),.bool (aj.bU c {m with dA:=true} (aG.bI ao) []).2]) cT ?_;simp only [zA,zB,zS];refine zP 6 (some 114) (.extract (.tmp 108) 0) (.agg (zM K c ((aj.bU c {m with dA:=true} (aG.bI ao) []).1) ip aa (i+1) ac aq ar aD aw az aE)) cT ?_;simp only [zA,zB,zS];refine zP 7 (some 115) (.extract (.tmp 108) 1) (.bool (aj.bU c {m with dA:=true} (aG.bI ao) []).2) cT ?_;simp only [zA,zB,zS];have acj:=Sl.mk (Tx.ah.put Fo.ah cN.ah);have Ty:(w19.setRow b1 (zM K c ((aj.bU c {m with dA:=true} (aG.bI ao) []).1) ip aa (i+1) ac aq ar aD aw az aE)).heap[q3]? = some (.cells #[.int .i64 8,.int .i64 ao,.string (aF d)] 52 (0,0)):=by
         rw [qC _ _ _ _ (show q3≠b1 from fun e=>by
          have h1:=cT.2;rw [e,cT.1] at h1;injection h1 with h1
          injection h1 with _ h1 _
          exact absurd h1 (by decide))]
         exact cT.2
        obtain ⟨w20,TH⟩:=zX (w19.setRow b1 (zM K c ((aj.bU c {m with dA:=true} (aG.bI ao) []).1) ip aa (i+1) ac aq ar aD aw az aE));rw [TH] at acj Ty;refine kU (d:=none) (op:=.store 36 (Operand.tmp 2) (Operand.tmp 114)) (g:=none) (t:=0) 8 w20 rfl (by kernel_rfl) (by kernel_rfl) ?y8 (by kernel_rfl) ?_;case y8=>intro o' ho ht;rw [← TH];exact kK ho (by rfl) (by rfl) cT.1 rfl rfl (dV ..)
        simp only [Act.put];refine zF (by kernel_rfl) ?_;(try go_frame);have ack:=Sl.mk Ty;clear TH Ty al cT Tx Tw ik aM MA ki Fo cN CT;go_upto_region 23 with fail
        refine zG (S:=fun V=>V.heap[b1]? = some (.cells (zM K c ((aj.bU c {m with dA:=true} (aG.bI ao) []).1) ip aa (i+1) ac aq ar aD aw az aE) 36 (0,0))∧V.heap[q3]? = some (.cells #[.int .i64 8,.int .i64 ao,.string (aF d)] 52 (0,0))) (by kernel_rfl) (fun Rw aM=>?_);have acm:=Sl.mk (acj.ah.below aM);have al:Rw.heap[b1]? = some (.cells (zM K c ((aj.bU c {m with dA:=true} (aG.bI ao) []).1) ip aa (i+1) ac aq ar aD aw az aE) 36 (0,0))∧Rw.heap[q3]? = some (.cells #[.int .i64 8,.int .i64 ao,.string (aF d)] 52 (0,0)):=⟨acm.ah.M.X,ay ack.ah aM⟩;refine zT 0 (some 116) (.load 36 (.tmp 2)) (.agg (zM K c ((aj.bU c {m with dA:=true} (aG.bI ao) []).1) ip aa (i+1) ac aq ar aD aw az aE)) al ?_ (hy:=fun o' ho W hS=>kP ho (by rfl) hS.1 rfl);simp only [zA,zB,zS];refine zT 1 (some 117) (.move (.tmp 6)) _ al ?_;simp only [zA,zB,zS];refine zT 2 (some 118) (.load 52 (.tmp 13)) (.agg #[.int .i64 8,.int .i64 ao,.string (aF d)]) al ?_ (hy:=fun o' ho W hS=>WM ho (by rfl) hS.2 rfl);simp only [zA,zB,zS];obtain ⟨X,hX,BX,XX⟩:=zY Rw #[.int .i64 8,.int .i64 ao,.string (aF d)] 52;have Kn:=Sl.mk (acm.ah.below BX);have cC:X.heap[b1]? = some (.cells (zM K c ((aj.bU c {m with dA:=true} (aG.bI ao) []).1) ip aa (i+1) ac aq ar aD aw az aE) 36 (0,0))∧X.heap[q3]? = some (.cells #[.int .i64 8,.int .i64 ao,.string (aF d)] 52 (0,0)):=⟨Kn.ah.M.X,ay al.2 BX⟩;obtain ⟨v1,w22,fX,ju,gA,Kp⟩:=AY Kn.ah.E (AZ (e:=(⟨8,ao,d⟩:Ev)) XX rfl) (by simp;omega) Kn.ah.M.L.size;have pp:=Sl.mk (Kn.ah.Td ju gA Kp);have da:w22.heap[b1]? = some (.cells (zM K c ((aj.bU c {m with dA:=true} (aG.bI ao) []).1) ip aa (i+1) ac aq ar aD aw az aE) 36 (0,0))∧w22.heap[q3]? = some (.cells #[.int .i64 8,.int .i64 ao,.string (aF d)] 52 (0,0)):=⟨pp.ah.M.X,by
         rw [(bM.grown (S:=fun j=>ev.ownBlock=some j) gA (fun j e=>e)).block q3 (zl cC.2) (fun e=>by
          exact HQE.ah e)]
         exact cC.2⟩
        refine zR 3 (some 119) (.buildSlice 47 1 #[(0,.tmp 118)]) 47 (.slice (some ⟨Rw.heap.size,0,none⟩) 1 1) X cC ?_ (hy:=fun o' ho _=>by simp only [execOp,ho];go_simp;first | done | (rw [hX];done) | rfl);simp only [zA,zB,zS];refine zR 4 (some 120) (.call {callee:=.builtin .append,args:=#[.tmp 117,.tmp 119],argTypes:=#[47,47]}) 47 v1 w22 da ?_ (hy:=fun o' ho ht=>jS.wR ho ht (by rfl) (by rfl) fX);simp only [zA,zB,zS];obtain ⟨w23,Kx⟩:=zX (w22.setRow b2 (zM K c ((aj.bU c {m with dA:=true} (aG.bI ao) []).1) ip aa (i+1) ac aq ar aD aw az aE));have gr:w23.heap[b1]? = some (.cells (zM K c ((aj.bU c {m with dA:=true} (aG.bI ao) []).1) ip aa (i+1) ac aq ar aD aw az aE) 36 (0,0))∧w23.heap[q3]? = some (.cells #[.int .i64 8,.int .i64 ao,.string (aF d)] 52 (0,0)):=by
         rw [← Kx];exact ⟨(pp.ah.M.ah (zM K c ((aj.bU c {m with dA:=true} (aG.bI ao) []).1) ip aa (i+1) ac aq ar aD aw az aE)).X,by
          rw [qC _ _ _ _ (show q3≠b2 from fun e=>by
           have h1:=da.2;rw [e,pp.ah.M.R] at h1;injection h1 with h1
           injection h1 with _ h1 _
           exact absurd h1 (by decide))]
          exact da.2⟩
        refine zW 5 none (.store 36 (.tmp 4) (.tmp 116)) 0 w23 gr ?_ (hy:=fun o' ho ht=>by rw [← Kx];exact kK ho (by rfl) (by rfl) pp.ah.M.R rfl rfl (dV ..));simp only [Act.put];refine zT 6 (some 5) (.assign (.tmp 120)) _ gr ?_;simp only [zA,zB,zS];refine zE (by kernel_rfl) ?_;(try go_frame);have et:=pp.ah.M.ah (zM K c ((aj.bU c {m with dA:=true} (aG.bI ao) []).1) ip aa (i+1) ac aq ar aD aw az aE);rw [Kx] at et;have HOO:=pp.ah.ah pp.ah.D ⟨pp.ah.pc.1.imp fun _ e=>e.1,pp.ah.pc.2.imp fun _ e=>e.1⟩ Tr.ah ⟨i+1,by rw [gE.ah]⟩ pp.ah.E (cs:=(zM K c ((aj.bU c {m with dA:=true} (aG.bI ao) []).1) ip aa (i+1) ac aq ar aD aw az aE));rw [Kx] at HOO;go_wp2_with fail
        (try simp only [Exit.inBlock,Exit.then]);refine gX (iE rfl _ _ b2 _ rfl et.R rfl) rfl ?_;exact ⟨ip,aa,i+1,ac,aq,ar,aD,aw,az,aE,A.take (i+1),_,rfl,⟨HOO⟩,lc⟩
       ·have q9:(op==9)=false:=by simpa using h9
        have q8:(op==8)=false:=by simpa using h8
        have C8:=Sl.mk hg;obtain ⟨X,hX,BX,XX⟩:=zY w15 #[.int .i64 op,.int .i64 ao,.string (aF d)] 52;have Kn:=Sl.mk (mr.ah.below BX);have LT:es.length≤50000:=by have:=Ml.ah;have:=pH.ah;omega
        obtain ⟨v1,w16,fX,ju,gA,Kp⟩:=AY Kn.ah.E (AZ (e:=(⟨op,ao,d⟩:Ev)) XX rfl) (by simp;omega) Kn.ah.M.L.size;have tQ:=Sl.mk (Kn.ah.Td ju gA Kp);obtain ⟨av,nv,cw,rfl⟩:∃ a n c,v1=.slice a n c:=by obtain ⟨a,c,h⟩:=ju.slice;exact ⟨a,_,c,h⟩
        have ZG:Sl ((es++[(⟨op,ao,d⟩:Ev)]).length≤i+1):=⟨by have:=Ml.ah;simp;omega⟩;clear h9 h8 hg hp9 bB Kn BX XX LT ju gA Kp mr;go_wp2_with (at_builtin;refine fK rfl (.tmp 95) (.tmp 97) 47 47 rfl rfl _ _ (.slice av nv cw) w16 rfl rfl (by first | exact fX | (rw [hX];exact fX)) ?_)
        exact ⟨⟨i+1,_,_,_,aa,i+1,ac,ya,yn,yc,za,zn,zc,rfl,by go_num,by omega,tQ,C8,ZG⟩,by simp [intOf];omega⟩
   ·obtain rfl:i=na:=by omega
    have bz:((i:Int)<(i:Int))=False:=dR (by omega);have hR:=(show uJ c A A.length m es R from by rw [nm.ah.2.2.1];exact HGN.ah).gy;have Mi:Sl (A.take i=A):=⟨nC (by rw [nm.ah.2.2.1];exact aY _)⟩;by_cases he:e=0
    ·have q:((e:Int) != 0)=false:=by rw [he];rfl
     obtain rfl:eC=(m,es):=by rw [oR.ah,hR];simp [he]
     have Tr:Sl (DR c m (bytes ip) (A.take i)):=⟨lj.ah _ (by rw [Mi.ah]) (fun _ _=>Mi.ah)⟩;have tP:=Sl.mk HW.ah.M;have HWE:=HW;clear he hR;go_wp2_with (first
      | (refine uY rfl 36 (.tmp 2) rfl b1 rfl 36 _ (0,0) _ tP.ah.X underlying36 rfl (aX rfl) ?_)
      | (refine fG rfl 36 (.tmp 4) (.tmp 126) rfl b2 (zM K c m ip xa xn xc ya yn yc za zn zc) rfl rfl 36 zD tP.ah.R (aX rfl) rfl (dV ..) ?_))
     have et:=tP.ah.ah (zM K c m ip xa xn xc ya yn yc za zn zc);(try simp only [Exit.inBlock,Exit.then]);refine gX (iE rfl _ _ b2 _ rfl et.R rfl) rfl ?_;exact ⟨ip,xa,xn,xc,ya,yn,yc,za,zn,zc,A.take i,_,rfl,⟨HW.ah.ah HW.ah.D ⟨HW.ah.pc.1.imp fun _ e=>e.1,HW.ah.pc.2.imp fun _ e=>e.1⟩ Tr.ah ⟨i,by rw [gE.ah]⟩ HW.ah.E⟩,lc⟩
    ·have q:((e:Int) != 0)=true:=by simp;omega
     obtain rfl:eC=(fail c m e,es):=by rw [oR.ah,hR];simp [he]
     have Tr:Sl (DR c (fail c m e) (bytes ip) (A.take i)):=⟨lj.ah _ (by rw [Mi.ah]) (fun _ _=>Mi.ah)⟩;have FA:=NG (K:=K) (inp:=ip) (fa:=xa) (fn:=xn) (fc:=xc) HW.ah.D e (P:=fun j=>P j∧ev.ownBlock≠some j) (fun j hj=>⟨HP.ah j (jd HW.ah.M.L.size hj),fun e2=>by
      have:=HW.ah.E.heap e2;have:=(zl this.2.choose_spec);omega⟩) HW.ah.pc
     have tP:=Sl.mk HW.ah.M;clear he hR;go_wp2_with (refine uY rfl 36 (.tmp 2) rfl b1 rfl 36 _ (0,0) _ tP.ah.X underlying36 rfl (aX rfl) ?_)
     refine FA.mono ?_;rintro e' w16 ⟨aq,ar,aD,aw,az,aE,rfl,Fo,ki,cN⟩;clear FA;have tQ:=Sl.mk (HW.ah.below ki.ah);have Km:=Sl.mk tQ.ah.M;have ik:=Sl.mk (tQ.ah.put Fo.ah cN.ah);clear HW tP Fo ki cN;go_upto_region 26 with (refine fG rfl 36 (.tmp 2) (.tmp 125) rfl b1 (zM K c (fail c m e) ip xa xn xc aq ar aD aw az aE) rfl rfl 36 (zM K c m ip xa xn xc ya yn yc za zn zc) Km.ah.X (aX rfl) rfl (dV ..) ?_)
     obtain ⟨w17,wl⟩:=zX (w16.setRow b1 (zM K c (fail c m e) ip xa xn xc aq ar aD aw az aE));rw [wl] at ik;(try rw [wl]);have T0:=Sl.mk ik.ah.M;clear wl Km tQ;go_wp2_with (first
      | (refine uY rfl 36 (.tmp 2) rfl b1 rfl 36 _ (0,0) _ T0.ah.X underlying36 rfl (aX rfl) ?_)
      | (refine fG rfl 36 (.tmp 4) (.tmp 126) rfl b2 (zM K c (fail c m e) ip xa xn xc aq ar aD aw az aE) rfl rfl 36 zD T0.ah.R (aX rfl) rfl (dV ..) ?_))
     have et:=T0.ah.ah (zM K c (fail c m e) ip xa xn xc aq ar aD aw az aE);(try simp only [Exit.inBlock,Exit.then]);refine gX (iE rfl _ _ b2 _ rfl et.R rfl) rfl ?_;exact ⟨ip,xa,xn,xc,aq,ar,aD,aw,az,aE,A.take i,_,rfl,⟨ik.ah.ah ik.ah.D ⟨ik.ah.pc.1.imp fun _ e=>e.1,ik.ah.pc.2.imp fun _ e=>e.1⟩ Tr.ah ⟨i,by rw [gE.ah]⟩ ik.ah.E⟩,lc⟩
end
theorem C6 {w0:World} {L:Nat} {S:Nat→Prop} {K:Kf} {c:Cf} {l:Lg} {k:Nat} {inp:ByteArray} {fa:Option Addr} {fn fc:Nat} {ca:Option Addr} {cn cc:Nat} {ra:Option Addr} {rn rc:Nat} {W:World} {F:List Fr} (hL:iT w0 W L S c l k) (h:DF W c l k ca cn cc ra rn rc) (hF:aS W (.slice fa fn fc) F) (hR:aj.DR c l (bytes inp) F) (ep:∀ f∈F,vw f) (hd:∀ f∈F,f.data.length≤100000) (hl:F.length≤900000) (eV:inp.size≤100000) (htx:(run (c.bh:Int) M0 F).1.aT.length≤1000000) :
 Calls prog 18 #[.pointer (some ⟨L,0,none⟩),.agg (zM K c l inp fa fn fc ca cn cc ra rn rc)] W fun e w'=>e=.returned (.bool true)∧Sl (Below W.heap.size W w'):=by
 obtain ⟨w1,bA,dc,ey⟩:=zY W (zM K c l inp fa fn fc ca cn cc ra rn rc) 36;obtain ⟨b1,cM⟩:=zX W.heap.size;rw [cM] at ey;have sx:=Sl.mk ey;have bi:=Sl.mk dc;have iv:=Sl.mk (hL.below dc);have WP:=h.C.cap.1;have qk:=h.S.cap.1;obtain ⟨fb,il⟩:=zX (aj.free l);have acn:(!l.am&&!l.dA&&((l.ag:Int)==0)&&((rn:Int)==0))=fb:=by
  rw [← il];unfold aj.free;have e1:decide (l.ag=0)=((l.ag:Int)==0):=by by_cases e:l.ag=0<;>simp [e]
  have e2:l.rest.isEmpty=((rn:Int)==0):=by
   rw [qk];cases l.rest<;>simp;omega
  rw [e1,e2]
 have ko:Sl (aj.free l=fb∧True):=⟨il,trivial⟩;obtain ⟨qb,hqb⟩:∃ z,decide (l.aK=[])=z:=⟨_,rfl⟩;have si:=Sl.mk hqb;have bB:aU 256 l.aK∧aU 256 l.tail:=by
  have h1:=(aj.xB h.ok.f2 l.bE h.F.ok.eB.bE).2;rw [← h.F.ok.eB.bytes] at h1;exact ⟨fun y hy=>h1 y (List.mem_append_left _ (WX _ hy)),fun y hy=>h1 y (WX _ hy)⟩
 have aco:(((aF l.aK).toList==[])&&((aF l.tail).toList==[])&&((cn:Int)==0)&&((rn:Int)==0))=qb:=by
  rw [← hqb,G4 _ bB.1,G4 _ bB.2,WP,qk];by_cases e:l.aK=[]
  ·obtain ⟨q1,q2,q3,q4⟩:=aj.quiet_of h.F.ok h.ok.o1 e
   rw [q1,q2,q3,q4];rfl
  ·rw [iQ e];rfl
 have FR:∀ V,Calls prog 48 #[.agg (zM K c l inp fa fn fc ca cn cc ra rn rc)] V fun e w'=>e=.returned (.bool fb)∧Sl (Below V.heap.size V w'):=fun V=>by
  have:=E7 K c l.bu inp fa fn fc (aF l.aK) (aF l.tail) ca cn cc ra rn rc l.am l.dA (l.ag:Int) V;rw [acn] at this;exact this
 have QR:∀ V,Calls prog 49 #[.agg (zM K c l inp fa fn fc ca cn cc ra rn rc)] V fun e w'=>e=.returned (.bool qb)∧Sl (Below V.heap.size V w'):=fun V=>by
  have:=Lr K c l.bu inp fa fn fc (aF l.aK) (aF l.tail) ca cn cc ra rn rc l.am l.dA (l.ag:Int) V;rw [aco] at this;exact this
 obtain ⟨nk,hnk⟩:=zX (l.bO.length+l.ms.aT.length);have HNK:=Sl.mk hnk;have IR:(fP c (bytes inp)).2.2≤100000:=by
  have:=aV.jK c.af (bQ c:Int) _ (bytes inp) (aY _) (aJ inp);rw [au] at this;exact jd this eV
 have xm:=hR.kept;rw [hnk] at xm;have agC:Sl (nk≤10000000):=⟨by rw [xm];split<;>omega⟩;have KR:∀ V,Below w0.heap.size w0 V→Below W.heap.size W V→Calls prog 50 #[.agg (zM K c l inp fa fn fc ca cn cc ra rn rc)] V fun e w'=>e=.returned (.int .i64 (nk:Int))∧Sl (Below V.heap.size V w'):=fun V _ hV=>by
  have:=Qq (K:=K) (l:=l) (ca:=ca) (cn:=cn) (cc:=cc) (ra:=ra) (rn:=rn) (rc:=rc) (hF.below hV) ep hd hl h.ok eV (show aV.all (bytes inp) c.af (bQ c:Int)=((fP c (bytes inp)).1,(fP c (bytes inp)).2.1,(fP c (bytes inp)).2.2) from rfl) IR htx;rw [← xm] at this;exact this
 obtain ⟨nr,hnr⟩:=zX l.aK.length;have HNR:=Sl.mk hnr;have rR:Sl (l.aK.take (70000:Int).toNat=l.aK):=⟨nC (by have:=h.F.ok.eB.aK;have:=h.ok.o2;show _≤70000;omega)⟩;clear hL h hF hR ep hd hl eV htx WP qk il acn hqb aco bB hnk IR xm hnr ey dc;go_enter func18,ntmps18;go_upto_region 1 with fail
 (try rw [bA]);(try rw [cM]);have io:=Sl.mk cM;clear bA cM;refine zG (S:=fun V=>V.heap[b1]? = some (.cells (zM K c l inp fa fn fc ca cn cc ra rn rc) 36 (0,0))) (by kernel_rfl) (fun Rw aM=>?_);have al:Rw.heap[b1]? = some (.cells (zM K c l inp fa fn fc ca cn cc ra rn rc) 36 (0,0)):=ay sx.ah aM;have lO:=Sl.mk (iv.ah.below aM);refine zT 0 (some 5) (.move (.tmp 0)) (.pointer (some ⟨L,0,none⟩)) al ?_;simp only [zA,zB,zS];refine zT 2 (some 7) (.load 36 (.tmp 3)) (.agg (zM K c l inp fa fn fc ca cn cc ra rn rc)) al ?_ (hy:=fun o' ho W hS=>kP ho (by rfl) hS rfl);simp only [zA,zB,zS];refine zC 1 (some 6) (.call {callee:=.value (.func 35),args:=#[.tmp 5],argTypes:=#[30]}) 35 #[.pointer (some ⟨L,0,none⟩)] ?_;refine (Nr lO.ah fb ko.ah.1).mono ?_;rintro e w2 ⟨rfl,rfl⟩;refine ⟨_,rfl,al,?_⟩;simp only [zA,zB,zS];refine zC 3 (some 8) (.call {callee:=.value (.func 48),args:=#[.tmp 7],argTypes:=#[36]}) 48 #[.agg (zM K c l inp fa fn fc ca cn cc ra rn rc)] ?_;refine (FR Rw).mono ?_;rintro e w2 ⟨rfl,bk⟩;have cJ:w2.heap[b1]? = some (.cells (zM K c l inp fa fn fc ca cn cc ra rn rc) 36 (0,0)):=ay al bk.ah;have eK:=Sl.mk (lO.ah.below bk.ah);refine ⟨_,rfl,cJ,?_⟩;simp only [zA,zB,zS];refine zT 4 (some 9) (.binOp .eql 4 (.tmp 6) (.tmp 8) 4) (.bool true) cJ ?_ (hy:=fun o' ho W hS=>by simp only [execOp,ho];go_simp;first | done | rfl | simp);simp only [zA,zB,zS];refine zT 5 (some 10) (.move (.tmp 9)) (.bool true) cJ ?_;simp only [zA,zB,zS];refine zT 6 (some 11) (.move (.tmp 0)) (.pointer (some ⟨L,0,none⟩)) cJ ?_ (g:=some (5,true));simp only [zA,zB,zS];refine zT 8 (some 13) (.fieldAddr 36 (.tmp 3) 9) _ cJ ?_ (g:=some (5,true));simp only [zA,zB,zS];refine zT 9 (some 14) (.load 4 (.tmp 13)) (.bool l.am) cJ ?_ (g:=some (5,true)) (hy:=fun o' ho W hS=>by have d1:=bP.aB hS 20 _ rfl;simp only [execOp,ho];go_simp;try rfl);simp only [zA,zB,zS];refine zC 7 (some 12) (.call {callee:=.value (.func 28),args:=#[.tmp 11],argTypes:=#[30]}) 28 #[.pointer (some ⟨L,0,none⟩)] ?_ (g:=some (5,true));refine (Ns eK.ah l.am rfl).mono ?_;rintro e w3 ⟨rfl,rfl⟩;refine ⟨_,rfl,cJ,?_⟩;simp only [zA,zB,zS];refine zT 10 (some 15) (.binOp .eql 4 (.tmp 12) (.tmp 14) 4) (.bool true) cJ ?_ (g:=some (5,true)) (hy:=fun o' ho W hS=>by simp only [execOp,ho];go_simp;first | done | rfl | simp);simp only [zA,zB,zS];refine zT 11 (some 16) (.pick (.tmp 10) (.tmp 15) (.const (.bool false))) (.bool true) cJ ?_;simp only [zA,zB,zS];refine zT 12 (some 17) (.move (.tmp 16)) (.bool true) cJ ?_;simp only [zA,zB,zS];refine zT 13 (some 18) (.move (.tmp 0)) (.pointer (some ⟨L,0,none⟩)) cJ ?_ (g:=some (12,true));simp only [zA,zB,zS];refine zT 15 (some 20) (.fieldAddr 36 (.tmp 3) 10) _ cJ ?_ (g:=some (12,true));simp only [zA,zB,zS];refine zT 16 (some 21) (.load 4 (.tmp 20)) (.bool l.dA) cJ ?_ (g:=some (12,true)) (hy:=fun o' ho W hS=>by have d1:=bP.aB hS 21 _ rfl;simp only [execOp,ho];go_simp;try rfl);simp only [zA,zB,zS]
 refine zC 14 (some 19) (.call {callee:=.value (.func 31),args:=#[.tmp 18],argTypes:=#[30]}) 31 #[.pointer (some ⟨L,0,none⟩)] ?_ (g:=some (12,true));refine (Um eK.ah l.dA rfl).mono ?_;rintro e w3 ⟨rfl,rfl⟩;refine ⟨_,rfl,cJ,?_⟩;simp only [zA,zB,zS];refine zT 17 (some 22) (.binOp .eql 4 (.tmp 19) (.tmp 21) 4) (.bool true) cJ ?_ (g:=some (12,true)) (hy:=fun o' ho W hS=>by simp only [execOp,ho];go_simp;first | done | rfl | simp);simp only [zA,zB,zS];refine zT 18 (some 23) (.pick (.tmp 17) (.tmp 22) (.const (.bool false))) (.bool true) cJ ?_;simp only [zA,zB,zS];refine zT 19 (some 24) (.move (.tmp 23)) (.bool true) cJ ?_;simp only [zA,zB,zS];refine zT 20 (some 25) (.move (.tmp 0)) (.pointer (some ⟨L,0,none⟩)) cJ ?_ (g:=some (19,true));simp only [zA,zB,zS];refine zT 22 (some 27) (.fieldAddr 36 (.tmp 3) 11) _ cJ ?_ (g:=some (19,true));simp only [zA,zB,zS];refine zT 23 (some 28) (.load 31 (.tmp 27)) (.int .i64 (l.ag:Int)) cJ ?_ (g:=some (19,true)) (hy:=fun o' ho W hS=>by have d1:=bP.aB hS 22 _ rfl;simp only [execOp,ho];go_simp;try rfl);simp only [zA,zB,zS];refine zC 21 (some 26) (.call {callee:=.value (.func 30),args:=#[.tmp 25],argTypes:=#[30]}) 30 #[.pointer (some ⟨L,0,none⟩)] ?_ (g:=some (19,true));refine (Jm eK.ah (l.ag:Int) rfl).mono ?_;rintro e w3 ⟨rfl,rfl⟩;refine ⟨_,rfl,cJ,?_⟩;simp only [zA,zB,zS];refine zT 24 (some 29) (.binOp .eql 31 (.tmp 26) (.tmp 28) 31) (.bool true) cJ ?_ (g:=some (19,true)) (hy:=fun o' ho W hS=>by simp only [execOp,ho];go_simp;first | done | rfl | simp);simp only [zA,zB,zS];refine zT 25 (some 30) (.pick (.tmp 24) (.tmp 29) (.const (.bool false))) (.bool true) cJ ?_;simp only [zA,zB,zS];refine zT 26 (some 31) (.move (.tmp 30)) (.bool true) cJ ?_;simp only [zA,zB,zS];refine zT 27 (some 32) (.move (.tmp 0)) (.pointer (some ⟨L,0,none⟩)) cJ ?_ (g:=some (26,true));simp only [zA,zB,zS];refine zT 29 (some 34) (.load 36 (.tmp 3)) (.agg (zM K c l inp fa fn fc ca cn cc ra rn rc)) cJ ?_ (g:=some (26,true)) (hy:=fun o' ho W hS=>kP ho (by rfl) hS rfl);simp only [zA,zB,zS];refine zC 28 (some 33) (.call {callee:=.value (.func 27),args:=#[.tmp 32],argTypes:=#[30]}) 27 #[.pointer (some ⟨L,0,none⟩)] ?_ (g:=some (26,true));refine (Jn eK.ah qb si.ah).mono ?_;rintro e w3 ⟨rfl,rfl⟩;refine ⟨_,rfl,cJ,?_⟩;simp only [zA,zB,zS];refine zC 30 (some 35) (.call {callee:=.value (.func 49),args:=#[.tmp 34],argTypes:=#[36]}) 49 #[.agg (zM K c l inp fa fn fc ca cn cc ra rn rc)] ?_ (g:=some (26,true));refine (QR w2).mono ?_;rintro e w3 ⟨rfl,bv⟩;have da:w3.heap[b1]? = some (.cells (zM K c l inp fa fn fc ca cn cc ra rn rc) 36 (0,0)):=ay cJ bv.ah;have nl:=Sl.mk (eK.ah.below bv.ah);refine ⟨_,rfl,da,?_⟩;simp only [zA,zB,zS];refine zT 31 (some 36) (.binOp .eql 4 (.tmp 33) (.tmp 35) 4) (.bool true) da ?_ (g:=some (26,true)) (hy:=fun o' ho W hS=>by simp only [execOp,ho];go_simp;first | done | rfl | simp);simp only [zA,zB,zS];refine zT 32 (some 37) (.pick (.tmp 31) (.tmp 36) (.const (.bool false))) (.bool true) da ?_;simp only [zA,zB,zS]
 refine zT 33 (some 38) (.move (.tmp 37)) (.bool true) da ?_;simp only [zA,zB,zS];refine zT 34 (some 39) (.move (.tmp 0)) (.pointer (some ⟨L,0,none⟩)) da ?_ (g:=some (33,true));simp only [zA,zB,zS];refine zT 37 (some 42) (.fieldAddr 36 (.tmp 3) 5) _ da ?_ (g:=some (33,true));simp only [zA,zB,zS];refine zT 38 (some 43) (.load 9 (.tmp 42)) (.string (aF l.aK)) da ?_ (g:=some (33,true)) (hy:=fun o' ho W hS=>by have d1:=bP.aB hS 16 _ rfl;simp only [execOp,ho];go_simp;try rfl);simp only [zA,zB,zS];refine zC 35 (some 40) (.call {callee:=.value (.func 33),args:=#[.tmp 39,.const (.int .i64 70000)],argTypes:=#[30,3]}) 33 #[.pointer (some ⟨L,0,none⟩),.int .i64 70000] ?_ (g:=some (33,true));refine (xk nl.ah 70000 l.aK rR.ah nr HNR.ah).mono ?_;rintro e w4 ⟨rfl,cR,br⟩;have gr:w4.heap[b1]? = some (.cells (zM K c l inp fa fn fc ca cn cc ra rn rc) 36 (0,0)):=ay da br.ah;have pj:=Sl.mk (nl.ah.below br.ah);refine ⟨_,rfl,gr,?_⟩;simp only [zA,zB,zS];refine zR 36 (some 41) (.convert 49 9 (.tmp 40)) 9 (.string (aF l.aK)) w4 gr ?_ (g:=some (33,true)) (hy:=fun o' ho ht=>gK.lS ho (by rfl) (cR.ah.JW HNR.ah));simp only [zA,zB,zS];refine zT 39 (some 44) (.binOp .eql 9 (.tmp 41) (.tmp 43) 9) (.bool true) gr ?_ (g:=some (33,true)) (hy:=fun o' ho W hS=>by simp only [execOp,ho];go_simp;first | done | rfl | simp);simp only [zA,zB,zS];refine zT 40 (some 45) (.pick (.tmp 38) (.tmp 44) (.const (.bool false))) (.bool true) gr ?_;simp only [zA,zB,zS];refine zT 41 (some 46) (.move (.tmp 45)) (.bool true) gr ?_;simp only [zA,zB,zS];refine zT 42 (some 47) (.move (.tmp 0)) (.pointer (some ⟨L,0,none⟩)) gr ?_ (g:=some (41,true));simp only [zA,zB,zS];refine zT 44 (some 49) (.load 36 (.tmp 3)) (.agg (zM K c l inp fa fn fc ca cn cc ra rn rc)) gr ?_ (g:=some (41,true)) (hy:=fun o' ho W hS=>kP ho (by rfl) hS rfl);simp only [zA,zB,zS];refine zC 43 (some 48) (.call {callee:=.value (.func 34),args:=#[.tmp 47],argTypes:=#[30]}) 34 #[.pointer (some ⟨L,0,none⟩)] ?_ (g:=some (41,true));refine (Nu pj.ah nk HNK.ah agC.ah).mono ?_;rintro e w5 ⟨rfl,ch⟩;have gn:w5.heap[b1]? = some (.cells (zM K c l inp fa fn fc ca cn cc ra rn rc) 36 (0,0)):=ay gr ch.ah;have mj:=Sl.mk (pj.ah.below ch.ah);have HV5:=Sl.mk (bi.ah.trans ((aM.trans (bk.ah.mono aM.size)).trans ((bv.ah.mono (jd aM.size bk.ah.size)).trans ((br.ah.mono (jd aM.size (jd bk.ah.size bv.ah.size))).trans (ch.ah.mono (jd aM.size (jd bk.ah.size (jd bv.ah.size br.ah.size)))))) |>.mono bi.ah.size));refine ⟨_,rfl,gn,?_⟩;simp only [zA,zB,zS];refine zC 45 (some 50) (.call {callee:=.value (.func 50),args:=#[.tmp 49],argTypes:=#[36]}) 50 #[.agg (zM K c l inp fa fn fc ca cn cc ra rn rc)] ?_ (g:=some (41,true));refine (KR w5 mj.ah.low HV5.ah).mono ?_;rintro e w6 ⟨rfl,gb⟩;have pm:w6.heap[b1]? = some (.cells (zM K c l inp fa fn fc ca cn cc ra rn rc) 36 (0,0)):=ay gn gb.ah;refine ⟨_,rfl,pm,?_⟩;simp only [zA,zB,zS]
 refine zT 46 (some 51) (.binOp .eql 3 (.tmp 48) (.tmp 50) 3) (.bool true) pm ?_ (g:=some (41,true)) (hy:=fun o' ho W hS=>by simp only [execOp,ho];go_simp;first | done | rfl | simp);simp only [zA,zB,zS];refine zT 47 (some 52) (.pick (.tmp 46) (.tmp 51) (.const (.bool false))) (.bool true) pm ?_;simp only [zA,zB,zS];refine zT 48 (some 4) (.assign (.tmp 52)) (.bool true) pm ?_;simp only [zA,zB,zS];refine zE (by kernel_rfl) ?_;(try go_frame);have hL6:=mj.ah.below gb.ah;go_wp2;go_ret;exact ⟨rfl,⟨HV5.ah.trans (gb.ah.mono HV5.ah.size)⟩⟩
open aj (jD)
section
variable {W W':World} {rx cs:Array Value} {v:Value} {fs:List Fr} {b1 fc cn cc rn b:Nat} {K:Kf} {c:Cf} {inp:ByteArray} {fa ra:Option Addr} {S S':Nat→Prop}
theorem LF (c:Cf) (l:Lg) (b:List Nat) (hr:l.dA=false→l.ag=0→jO c l) (hb:∀ y∈b,y<256):(iM c l b).2.length≤l.bO.length+b.length:=by
 by_cases hx:l.dA=true∨l.ag≠0
 ·rw [aj.qc b hx];exact ku _
 ·have hg:l.dA=false:=by simpa using fun e=>hx (.inl e)
  have hw:l.ag=0:=DI fun e=>hx (.inr e)
  have h:=hr hg hw;have hs:∀ y∈l.bO++b,y<256:=fun y hy=>by
   rcases sN.1 hy with hy | hy
   ·exact h.fO y hy
   ·exact hb y hy
  rw [(aj.qN h b hb).2.2.2.2.2.1];refine jd (List.length_filter_le _ _) ?_;refine jd (aj.zh _ _ _) ?_;have:=(aV.AA c.af (bQ c:Int) _ (l.bO++b) (aY _) hs).2.2;rw [jB] at this;omega
theorem Ad {b2:Nat} (hR:W.heap[b2]? = some (.cells zD 36 (0,0))) (hf:aS W v fs):aS (W.setRow b2 rx) v fs:=by
 obtain ⟨a,cap,sb,so,e1,e2,e3,e4⟩:=hf;refine ⟨a,cap,sb,so,e1,e2,e3,fun i hi j hj=>?_⟩;have h1:=e4 i hi j hj;by_cases hb:sb=b2
 ·subst hb
  exfalso;have g0:=e4 i hi 0 (by decide);have g1:=e4 i hi 1 (by decide);have g2:=e4 i hi 2 (by decide);rw [jg _ _ _ _ _ _ hR] at g0 g1 g2;exact Xg (so+i*8) _ _ _ g0 g1 g2
 ·rw [← h1]
  exact DV (w:=W) (qC _ _ _ _ hb)
theorem XQ {dr:Nat} {fn:Nat} {rg tl:ByteArray} {ca:Option Addr} {rc:Nat} {am dA:Bool} {ag:Int} (hR:W.heap[b1]? = some (.cells (zL K c (dr:Int) inp fa fn fc rg tl ca cn cc ra rn rc am dA ag) 36 (0,0))) (hf:aS W v fs):aS (W.setRow b1 rx) v fs:=by
 obtain ⟨a,cap,sb,so,e1,e2,e3,e4⟩:=hf;refine ⟨a,cap,sb,so,e1,e2,e3,fun i hi j hj=>?_⟩;have h1:=e4 i hi j hj;by_cases hb:sb=b1
 ·subst hb
  exfalso;have g0:=e4 i hi 0 (by decide);have g1:=e4 i hi 1 (by decide);have g2:=e4 i hi 2 (by decide);rw [jg _ _ _ _ _ _ hR] at g0 g1 g2;exact Uw _ _ _ _ _ _ _ _ _ _ _ _ _ _ _ _ _ _ (so+i*8) _ _ _ g0 g1 g2
 ·rw [← h1]
  exact DV (w:=W) (qC _ _ _ _ hb)
structure PI (w0 V:World) (L:Nat) (S:Nat→Prop) (c:Cf) (l:Lg) (k:Nat) (ip:ByteArray) (F:List Fr) (fa:Option Addr) (fn fc:Nat) (ca:Option Addr) (cn cc:Nat) (ra:Option Addr) (rn rc:Nat):Prop where
 H:iT w0 V L S c l k
 D:DF V c l k ca cn cc ra rn rc
 T:aS V (.slice fa fn fc) F
 R:DR c l (bytes ip) F
 t:∃ j,F=(fP c (bytes ip)).1.take j
 p:PB (fun j=>¬ S j) ca cn∧PB (fun j=>¬ S j) ra rn
 pf:PB (fun j=>¬ S j) fa fn
theorem gB (g:eH W W' S S') {o:Obj} (h:W.heap[b]? = some o) (hn:¬ S b):W'.heap[b]? = some o:=by
 rw [g.kept.block b (zl h) hn];exact h
theorem ny (g:eH W W' S S') (hb:b<W.heap.size) (hn:¬ S b):¬ S' b:=fun e=>by
 rcases g.dy b e with e | e
 ·exact hn e
 ·omega
section
variable {w0 V V':World} {L:Nat} {S S':Nat→Prop} {c:Cf} {l:Lg} {k:Nat} {ip:ByteArray} {F:List Fr} {fa:Option Addr} {fn fc:Nat} {ca:Option Addr} {cn cc:Nat} {ra:Option Addr} {rn rc:Nat}
theorem PI.below (h:PI w0 V L S c l k ip F fa fn fc ca cn cc ra rn rc) (b:Below V.heap.size V V'):PI w0 V' L S c l k ip F fa fn fc ca cn cc ra rn rc:=⟨h.H.below b,h.D.below b,h.T.below b,h.R,h.t,h.p,h.pf⟩
theorem PI.mono (h:PI w0 V L S c l k ip F fa fn fc ca cn cc ra rn rc) (hk:k+1≤900):PI w0 V L S c l (k+1) ip F fa fn fc ca cn cc ra rn rc:=⟨h.H.mono (Nat.le_succ _) (by omega),h.D.mono (Nat.le_succ _) hk,h.T,h.R,h.t,h.p,h.pf⟩
theorem PI.row (h:PI w0 V L S c l k ip F fa fn fc ca cn cc ra rn rc) (hz:∀ {v:Value} {fs:List Fr},aS V v fs→aS (V.setRow b cs) v fs) (hn:¬ S b) (hb:w0.heap.size≤b):PI w0 (V.setRow b cs) L S c l k ip F fa fn fc ca cn cc ra rn rc :=
 ⟨h.H.pZ (bM.grown (S:=fun j=>j=b) (bZ V b cs) (fun j e=>by injection e with e;exact e.symm)) (fun j e e2=>hn (e2 ▸ e)) (below_setRow h.H.low hb _),⟨hz h.D.C,hz h.D.S,h.D.F,h.D.D,h.D.ok,h.D.hk⟩,hz h.T,h.R,h.t,h.p,h.pf⟩
theorem yx (hD:DF V c l k ca cn cc ra rn rc) (hT:aS V (.slice fa fn fc) F) (hp:PB (fun j=>¬ S j) ca cn∧PB (fun j=>¬ S j) ra rn) (hpf:PB (fun j=>¬ S j) fa fn) (hR:DR c l (bytes ip) F) (ht:∃ j,F=(fP c (bytes ip)).1.take j) (hH:iT w0 V' L S' c l k) (g:eH V V' S S'):PI w0 V' L S' c l k ip F fa fn fc ca cn cc ra rn rc :=
 ⟨hH,(hD.ou g hp).1,(yu g hT hpf).1,hR,ht,(hD.ou g hp).2,(yu g hT hpf).2⟩
end
structure DoX (W V:World) (b1 ba b2:Nat) (cs xs:Array Value):Prop where
 X:V.heap[b1]? = some (.cells cs 36 (0,0))
 A:V.heap[ba]? = some (.cells xs 40 (0,0))
 R:V.heap[b2]? = some (.cells zD 36 (0,0))
 L:Below W.heap.size W V
 g:W.heap.size≤b1∧W.heap.size≤ba∧W.heap.size≤b2
theorem DoX.below {V V':World} {ba b2:Nat} {xs:Array Value} (h:DoX W V b1 ba b2 cs xs) (b:Below V.heap.size V V'):DoX W V' b1 ba b2 cs xs:=⟨ay h.X b,ay h.A b,ay h.R b,h.L.trans (b.mono h.L.size),h.g⟩
theorem qW {g:Nat} {kind op ao du:Int} {s:ByteArray} (h:W.heap[g]? = some (.cells #[.int .i64 kind,.int .i64 op,.int .i64 ao,.int .i64 du,.string s] 40 (0,0))):W.cell? ⟨g,0,none⟩=some (.int .i64 kind)∧W.cell? ⟨g,1,none⟩=some (.int .i64 op)∧W.cell? ⟨g,2,none⟩=some (.int .i64 ao)∧W.cell? ⟨g,3,none⟩=some (.int .i64 du)∧W.cell? ⟨g,4,none⟩=some (.string s):=by
 refine ⟨?_,?_,?_,?_,?_⟩<;>(rw [jg _ _ _ _ _ _ h];rfl)
theorem XR {ev:Operand→Value} {o:Oper} {x:Operand} {u:Value} (ho:o.op=.convert 9 49 x) (hx:ev x=v) (h:(convert 9 49 v).run prog W=.ok u W'):(execOp ev o).run prog W=.ok (.value u) W':=by
 simp only [execOp,ho,hx,rE,Sem.run_pure];refine (lG (fun r=>Result.andThen r _) h).trans ?_;rfl
theorem UE {w0:World} {L:Nat} {l:Lg} {k:Nat} {F:List Fr} {fn:Nat} {ca:Option Addr} {rc:Nat} (h:PI w0 W L S c l k inp F fa fn fc ca cn cc ra rn rc) (hk:k+1≤900) (eV:inp.size≤90000) (kind op ao du:Int) (s:ByteArray) (hs:s.size≤300) :
 Calls prog 17 #[.pointer (some ⟨L,0,none⟩),.agg (zM K c l inp fa fn fc ca cn cc ra rn rc),.agg #[.int .i64 kind,.int .i64 op,.int .i64 ao,.int .i64 du,.string s]] W fun ee w'=>∃ (S':Nat→Prop) (m:Lg) (ip:ByteArray) (F':List Fr) (ft:Option Addr) (fg fu:Nat) (aq:Option Addr) (ar aD:Nat) (aw:Option Addr) (az aE:Nat),ee=.returned (.tuple #[.agg (zM K c m ip ft fg fu aq ar aD aw az aE),.bool true])∧Sl (PI w0 w' L S' c m (k+1) ip F' ft fg fu aq ar aD aw az aE)∧Sl (eH W w' S S')∧Sl (ip.size≤inp.size+s.size):=by
 obtain ⟨w1,bA,dc,ey⟩:=zY W (zM K c l inp fa fn fc ca cn cc ra rn rc) 36;obtain ⟨wa,cz,Bwa,Xwa⟩:=zY w1 #[.int .i64 kind,.int .i64 op,.int .i64 ao,.int .i64 du,.string s] 40;obtain ⟨w2,cE,fY,jN⟩:=zY wa zD 36;have eI:w1.heap.size=W.heap.size+1:=by rw [← bA,aP]
 have hza:wa.heap.size=w1.heap.size+1:=by rw [← cz,aP]
 have dz:w2.heap.size=wa.heap.size+1:=by rw [← cE,aP]
 have bw:DoX W w2 W.heap.size w1.heap.size wa.heap.size (zM K c l inp fa fn fc ca cn cc ra rn rc) #[.int .i64 kind,.int .i64 op,.int .i64 ao,.int .i64 du,.string s]:=⟨ay (ay ey Bwa) fY,ay Xwa fY,jN,(dc.trans (Bwa.mono dc.size)).trans (fY.mono (by omega)),aY _,by omega,by omega⟩;obtain ⟨b1,cM⟩:=zX W.heap.size;obtain ⟨ba,hba⟩:=zX w1.heap.size;obtain ⟨b2,cG⟩:=zX wa.heap.size;rw [cM,hba,cG] at bw;have bw:Sl (DoX W w2 b1 ba b2 (zM K c l inp fa fn fc ca cn cc ra rn rc) #[.int .i64 kind,.int .i64 op,.int .i64 ao,.int .i64 du,.string s]):=⟨bw⟩;have pr:Sl ((∀ z,w2.heap.size≤z→z≠b2)∧ba≠b2):=⟨fun z hz e=>by omega,by omega⟩;have HI:=Sl.mk h;have HK:=Sl.mk hk;have sB:=Sl.mk eV;have vA:=Sl.mk hs;have HPP:Sl (∀ j,w2.heap.size≤j→¬ S j):=⟨fun j hj=>h.H.fH j (jd bw.ah.L.size hj)⟩;obtain ⟨z0,z1,z2,z3,z4⟩:=qW bw.ah.A;clear h hk eV hs ey Xwa jN dc Bwa fY eI hza dz;go_enter func17,ntmps17;go_upto_region 1 with fail
 (try rw [bA]);(try rw [cz]);(try rw [cE]);(try rw [cM]);(try rw [hba]);(try rw [cG]);clear bA cz cE cM hba cG;by_cases h0:kind=0
 ·subst h0
  obtain ⟨m,es,hm⟩:∃ m es,iM c l (bytes s)=(m,es):=⟨_,_,rfl⟩;have FE:=Qz (K:=K) (HI.ah.D.below bw.ah.L) (HI.ah.T.below bw.ah.L) HI.ah.R HI.ah.t (fun e1 e2=>HI.ah.H.Cs.Nc e1 e2) s (by have:=sB.ah;have:=vA.ah;omega) (P:=fun j=>¬ S j) (fun j hj=>HI.ah.H.fH j (jd bw.ah.L.size hj)) HI.ah.p HI.ah.pf;rw [hm] at FE;have ei:=Sl.mk hm;clear hm z1 z2 z3;go_wp2_with (refine uY rfl 36 (.tmp 4) rfl b1 rfl 36 _ (0,0) _ bw.ah.X underlying36 rfl (aX rfl) ?_)
  refine FE.mono ?_;rintro ee w3 ⟨ip,ft,fg,fu,aq,ar,aD,aw,az,aE,F',ev,rfl,HO,lc⟩;clear FE z0 z4;have cI:=Sl.mk (bw.ah.below HO.ah.B);go_upto_region 4 with (refine fG rfl 36 (.tmp 8) (.tmp 27) rfl w3.heap.size (zM K c m ip ft fg fu aq ar aD aw az aE) rfl rfl 36 zD (aI _ _ _ rfl) (aX rfl) rfl (dV ..) ?_)
  have cx:((w3.alloc (.cells zD 36)).setRow w3.heap.size (zM K c m ip ft fg fu aq ar aD aw az aE)).heap[w3.heap.size]? = some (.cells (zM K c m ip ft fg fu aq ar aD aw az aE) 36 (0,0)):=gY _ _ _ _ _ _ (aI _ _ _ rfl);have br:Below w3.heap.size w3 ((w3.alloc (.cells zD 36)).setRow w3.heap.size (zM K c m ip ft fg fu aq ar aD aw az aE)):=below_setRow ((dW _ _).alloc (aY _) _) (aY _) _;obtain ⟨w4,cS⟩:=zX ((w3.alloc (.cells zD 36)).setRow w3.heap.size (zM K c m ip ft fg fu aq ar aD aw az aE));obtain ⟨b8,ll⟩:=zX w3.heap.size;rw [cS] at cx br;(try rw [cS]);have it:Sl (W.heap.size≤b8):=⟨by rw [← ll];exact cI.ah.L.size⟩;have rN:Sl (w2.heap.size≤b8):=⟨by rw [← ll];first | exact HO.ah.B.size | exact bv.ah.size⟩;rw [ll] at cx;(try rw [ll]);have cx:=Sl.mk cx;have cI:=Sl.mk (cI.ah.below br);have br:=Sl.mk br;clear cS ll;have jx:Sl (¬ S b8∧¬ S ba∧¬ S b2):=⟨HI.ah.H.fH _ it.ah,HI.ah.H.fH _ bw.ah.g.2.1,HI.ah.H.fH _ bw.ah.g.2.2⟩;have lL:Sl (b8≠b2∧ba≠b2):=⟨pr.ah.1 b8 (by have:=rN.ah;omega),pr.ah.2⟩;refine zG (S:=fun V=>V.heap[b8]? = some (.cells (zM K c m ip ft fg fu aq ar aD aw az aE) 36 (0,0))∧V.heap[ba]? = some (.cells #[.int .i64 0,.int .i64 op,.int .i64 ao,.int .i64 du,.string s] 40 (0,0))) (by kernel_rfl) (fun Rw aM=>?_);have jn:=Sl.mk (cI.ah.below aM);have al:Rw.heap[b8]? = some (.cells (zM K c m ip ft fg fu aq ar aD aw az aE) 36 (0,0))∧Rw.heap[ba]? = some (.cells #[.int .i64 0,.int .i64 op,.int .i64 ao,.int .i64 du,.string s] 40 (0,0)):=⟨ay cx.ah aM,jn.ah.A⟩;have Ft:Sl (iT w0 Rw L S c l k):=⟨HI.ah.H.below jn.ah.L⟩;refine zT 0 (some 29) (.load 36 (.tmp 8)) (.agg (zM K c m ip ft fg fu aq ar aD aw az aE)) al ?_ (hy:=fun o' ho W hS=>kP ho (by rfl) hS.1 rfl);simp only [zA,zB,zS];refine zT 1 (some 30) (.move (.tmp 0)) (.pointer (some ⟨L,0,none⟩)) al ?_;simp only [zA,zB,zS];refine zT 2 (some 31) (.fieldAddr 40 (.tmp 5) 4) _ al ?_;simp only [zA,zB,zS];refine zT 3 (some 32) (.load 9 (.tmp 31)) (.string s) al ?_ (hy:=fun o' ho W hS=>by obtain ⟨d0,d1,d2,d3,d4⟩:=qW hS.2;simp only [execOp,ho];go_simp;try rfl);simp only [zA,zB,zS];refine zT 6 (some 35) (.move (.tmp 9)) _ al ?_;simp only [zA,zB,zS];obtain ⟨cp,wc,eh,HSC,HBC⟩:=lJ s Rw;have pE:=Sl.mk (jn.ah.below HBC.ah);have T3:wc.heap[b8]? = some (.cells (zM K c m ip ft fg fu aq ar aD aw az aE) 36 (0,0))∧wc.heap[ba]? = some (.cells #[.int .i64 0,.int .i64 op,.int .i64 ao,.int .i64 du,.string s] 40 (0,0)):=⟨ay al.1 HBC.ah,pE.ah.A⟩;refine zR 4 (some 33) (.convert 9 49 (.tmp 32)) 49 (.slice (some ⟨Rw.heap.size,0,none⟩) s.size cp) wc T3 ?_ (hy:=fun o' ho ht=>XR ho (by rfl) eh);simp only [zA,zB,zS];have FD:=AL (Ft.ah.below HBC.ah) _ _ HSC.ah (aJ s) (by rw [au];have:=vA.ah;omega) m es ei.ah;refine zC 5 (some 34) (.call {callee:=.value (.func 20),args:=#[.tmp 30,.tmp 33],argTypes:=#[30,49]}) 20 #[.pointer (some ⟨L,0,none⟩),.slice (some ⟨Rw.heap.size,0,none⟩) s.size cp] ?_;refine (FD).mono ?_;rintro e w5 ⟨S7,rv,rfl,HE5,mj,gw,HN5⟩
  have gn:w5.heap[b8]? = some (.cells (zM K c m ip ft fg fu aq ar aD aw az aE) 36 (0,0))∧w5.heap[ba]? = some (.cells #[.int .i64 0,.int .i64 op,.int .i64 ao,.int .i64 du,.string s] 40 (0,0)):=⟨gB gw.ah T3.1 jx.ah.1,gB gw.ah T3.2 jx.ah.2.1⟩;have cq:Below w3.heap.size w3 wc:=br.ah.trans ((aM.trans (HBC.ah.mono aM.size)).mono br.ah.size);have Id:=HO.ah.E.below cq;have agG:ig w5 w2.heap.size ev es:=iL.kJ Id gw.ah.kept (fun j e=>HI.ah.H.fH j (jd bw.ah.L.size (Id.heap e).1));have YK:es.length≤1000000:=by
   have h1:=LF c l (bytes s) (fun e1 e2=>HI.ah.H.Cs.Nc e1 e2) (aJ s);rw [ei.ah,au] at h1;have h1:es.length≤l.bO.length+s.size:=h1;have h0:=vA.ah;have h2:=HI.ah.H.Cs.Xa.kept.bO;have h4:=HI.ah.D.ok.m2;have h3:bQ c≤65536:=by unfold aj.bQ;omega
   omega
  have SM:=PW es rv ev w5 HE5.ah.rY agG.rY YK;refine ⟨_,rfl,gn,?_⟩;simp only [zA,zB,zS];refine zC 7 (some 36) (.call {callee:=.value (.func 29),args:=#[.tmp 34,.tmp 35],argTypes:=#[47,47]}) 29 #[rv,ev] ?_;refine (SM).mono ?_;rintro e w6 ⟨rfl,gb⟩;have pm:w6.heap[b8]? = some (.cells (zM K c m ip ft fg fu aq ar aD aw az aE) 36 (0,0))∧w6.heap[ba]? = some (.cells #[.int .i64 0,.int .i64 op,.int .i64 ao,.int .i64 du,.string s] 40 (0,0)):=⟨ay gn.1 gb.ah,ay gn.2 gb.ah⟩;have HR:Sl (w6.heap[b2]? = some (.cells zD 36 (0,0))):=⟨ay (gB gw.ah pE.ah.R jx.ah.2.2) gb.ah⟩;have KK:Sl (¬ S7 b2):=⟨ny gw.ah (zl pE.ah.R) jx.ah.2.2⟩;have KM:Sl (PI w0 w6 L S7 c m (k+1) ip F' ft fg fu aq ar aD aw az aE):=⟨((yx (HO.ah.D.below cq) (HO.ah.T.below cq) HO.ah.p HO.ah.pf HO.ah.R HO.ah.t mj.ah gw.ah).below gb.ah).mono HK.ah⟩;have vd:Sl (eH W w6 S S7):=⟨((eH.below S pE.ah.L).trans gw.ah).trans (eH.below S7 gb.ah)⟩;refine ⟨_,rfl,pm,?_⟩;simp only [zA,zB,zS];obtain ⟨wz,fq⟩:=zX (w6.setRow b2 (zM K c m ip ft fg fu aq ar aD aw az aE));have bS:wz.heap[b8]? = some (.cells (zM K c m ip ft fg fu aq ar aD aw az aE) 36 (0,0))∧wz.heap[ba]? = some (.cells #[.int .i64 0,.int .i64 op,.int .i64 ao,.int .i64 du,.string s] 40 (0,0)):=by
   rw [← fq];exact ⟨by rw [qC _ _ _ _ lL.ah.1];exact pm.1,by rw [qC _ _ _ _ lL.ah.2];exact pm.2⟩
  refine zW 8 none (.store 36 (.tmp 6) (.tmp 29)) 0 wz bS ?_ (hy:=fun o' ho ht=>by rw [← fq];exact kK ho (by rfl) (by rfl) HR.ah rfl rfl (dV ..));simp only [Act.put];refine zT 9 (some 7) (.assign (.tmp 36)) _ bS ?_;simp only [zA,zB,zS];refine zE (by kernel_rfl) ?_;(try go_frame);have eM:=gY w6 b2 _ (zM K c m ip ft fg fu aq ar aD aw az aE) _ _ HR.ah;rw [fq] at eM;have gx:=KM.ah.row (b:=b2) (cs:=(zM K c m ip ft fg fu aq ar aD aw az aE)) (Ad HR.ah) KK.ah (jd HI.ah.H.low.size bw.ah.g.2.2);have lh:=vd.ah.fH (bM.grown (S:=fun j=>j=b2) (bZ w6 b2 (zM K c m ip ft fg fu aq ar aD aw az aE)) (fun j e=>by injection e with e;exact e.symm)) (fun j e=>by rw [e];exact bw.ah.g.2.2);rw [fq] at gx lh;go_wp2_with fail
  (try simp only [Exit.inBlock,Exit.then]);refine gX (iE rfl _ _ b2 _ rfl eM rfl) rfl ?_;exact ⟨S7,m,ip,F',ft,fg,fu,aq,ar,aD,aw,az,aE,rfl,⟨gx⟩,⟨lh⟩,lc⟩
 by_cases h1:kind=1
 ·subst h1
  have q0:((1:Int)==0)=false:=rfl;obtain ⟨m,r,hm⟩:∃ m r,aj.send c l op (bytes s)=(m,r):=⟨_,_,rfl⟩;have DC:=WJ (K:=K) (inp:=inp) (fa:=fa) (fn:=fn) (fc:=fc) (HI.ah.D.below bw.ah.L) op 0 s (P:=fun j=>¬ S j) HPP.ah HI.ah.p;have em:(aj.send c l op (bytes s)).1=m:=by rw [hm]
  have er:(aj.send c l op (bytes s)).2=r:=by rw [hm]
  rw [em,er] at DC;have ei:=Sl.mk hm;have T4:Sl (aj.rC l m):=⟨by rw [← em];exact aj.yR c l op (bytes s)⟩;clear hm em er;go_wp2_with (refine uY rfl 36 (.tmp 4) rfl b1 rfl 36 _ (0,0) _ bw.ah.X underlying36 rfl (aX rfl) ?_)
  refine DC.mono ?_;rintro ee w3 ⟨aq,ar,aD,aw,az,aE,rfl,F0,bv,xv⟩;clear DC z0 z1 z2 z3 z4;have cI:=Sl.mk (bw.ah.below bv.ah);go_upto_region 7 with (refine fG rfl 36 (.tmp 10) (.tmp 47) rfl w3.heap.size (zM K c m inp fa fn fc aq ar aD aw az aE) rfl rfl 36 zD (aI _ _ _ rfl) (aX rfl) rfl (dV ..) ?_)
  have cx:((w3.alloc (.cells zD 36)).setRow w3.heap.size (zM K c m inp fa fn fc aq ar aD aw az aE)).heap[w3.heap.size]? = some (.cells (zM K c m inp fa fn fc aq ar aD aw az aE) 36 (0,0)):=gY _ _ _ _ _ _ (aI _ _ _ rfl);have br:Below w3.heap.size w3 ((w3.alloc (.cells zD 36)).setRow w3.heap.size (zM K c m inp fa fn fc aq ar aD aw az aE)):=below_setRow ((dW _ _).alloc (aY _) _) (aY _) _;obtain ⟨w4,cS⟩:=zX ((w3.alloc (.cells zD 36)).setRow w3.heap.size (zM K c m inp fa fn fc aq ar aD aw az aE));obtain ⟨b8,ll⟩:=zX w3.heap.size;rw [cS] at cx br;(try rw [cS]);have it:Sl (W.heap.size≤b8):=⟨by rw [← ll];exact cI.ah.L.size⟩;have rN:Sl (w2.heap.size≤b8):=⟨by rw [← ll];first | exact HO.ah.B.size | exact bv.ah.size⟩;rw [ll] at cx;(try rw [ll]);have cx:=Sl.mk cx;have cI:=Sl.mk (cI.ah.below br);have br:=Sl.mk br;clear cS ll;have jx:Sl (¬ S b8∧¬ S ba∧¬ S b2):=⟨HI.ah.H.fH _ it.ah,HI.ah.H.fH _ bw.ah.g.2.1,HI.ah.H.fH _ bw.ah.g.2.2⟩;have lL:Sl (b8≠b2∧ba≠b2):=⟨pr.ah.1 b8 (by have:=rN.ah;omega),pr.ah.2⟩;refine zG (S:=fun V=>V.heap[b8]? = some (.cells (zM K c m inp fa fn fc aq ar aD aw az aE) 36 (0,0))∧V.heap[ba]? = some (.cells #[.int .i64 1,.int .i64 op,.int .i64 ao,.int .i64 du,.string s] 40 (0,0))) (by kernel_rfl) (fun Rw aM=>?_);have jn:=Sl.mk (cI.ah.below aM);have al:Rw.heap[b8]? = some (.cells (zM K c m inp fa fn fc aq ar aD aw az aE) 36 (0,0))∧Rw.heap[ba]? = some (.cells #[.int .i64 1,.int .i64 op,.int .i64 ao,.int .i64 du,.string s] 40 (0,0)):=⟨ay cx.ah aM,jn.ah.A⟩;have Ft:Sl (iT w0 Rw L S c l k):=⟨HI.ah.H.below jn.ah.L⟩;refine zT 0 (some 49) (.load 36 (.tmp 10)) (.agg (zM K c m inp fa fn fc aq ar aD aw az aE)) al ?_ (hy:=fun o' ho W hS=>kP ho (by rfl) hS.1 rfl);simp only [zA,zB,zS];refine zT 1 (some 50) (.move (.tmp 0)) (.pointer (some ⟨L,0,none⟩)) al ?_;simp only [zA,zB,zS];refine zT 2 (some 51) (.fieldAddr 40 (.tmp 5) 1) _ al ?_;simp only [zA,zB,zS];refine zT 3 (some 52) (.load 3 (.tmp 51)) (.int .i64 op) al ?_ (hy:=fun o' ho W hS=>by obtain ⟨d0,d1,d2,d3,d4⟩:=qW hS.2;simp only [execOp,ho];go_simp;try rfl);simp only [zA,zB,zS];refine zT 4 (some 53) (.fieldAddr 40 (.tmp 5) 4) _ al ?_;simp only [zA,zB,zS];refine zT 5 (some 54) (.load 9 (.tmp 53)) (.string s) al ?_ (hy:=fun o' ho W hS=>by obtain ⟨d0,d1,d2,d3,d4⟩:=qW hS.2;simp only [execOp,ho];go_simp;try rfl);simp only [zA,zB,zS];refine zT 6 (some 55) (.build 52 #[(0,.tmp 52),(2,.tmp 54)]) (.agg #[.int .i64 op,.int .i64 0,.string s]) al ?_;simp only [zA,zB,zS];refine zT 8 (some 57) (.move (.tmp 11)) (.bool r) al ?_;simp only [zA,zB,zS];have EX:=Nw Ft.ah op 0 s m r ei.ah;refine zC 7 (some 56) (.call {callee:=.value (.func 21),args:=#[.tmp 50,.tmp 55],argTypes:=#[30,52]}) 21 #[.pointer (some ⟨L,0,none⟩),.agg #[.int .i64 op,.int .i64 0,.string s]] ?_;refine (EX).mono ?_;rintro e w5 ⟨S7,rfl,mj,gw⟩
  have gn:w5.heap[b8]? = some (.cells (zM K c m inp fa fn fc aq ar aD aw az aE) 36 (0,0))∧w5.heap[ba]? = some (.cells #[.int .i64 1,.int .i64 op,.int .i64 ao,.int .i64 du,.string s] 40 (0,0)):=⟨gB gw.ah al.1 jx.ah.1,gB gw.ah al.2 jx.ah.2.1⟩;have cq:Below w3.heap.size w3 Rw:=br.ah.trans (aM.mono br.ah.size);have HR:Sl (w5.heap[b2]? = some (.cells zD 36 (0,0))):=⟨gB gw.ah jn.ah.R jx.ah.2.2⟩;have KK:Sl (¬ S7 b2):=⟨ny gw.ah (zl jn.ah.R) jx.ah.2.2⟩;have KM:Sl (PI w0 w5 L S7 c m (k+1) inp F fa fn fc aq ar aD aw az aE):=⟨(yx (F0.ah.below cq) (HI.ah.T.below jn.ah.L) xv.ah HI.ah.pf (HI.ah.R.WE T4.ah) HI.ah.t mj.ah gw.ah).mono HK.ah⟩;have vd:Sl (eH W w5 S S7):=⟨(eH.below S jn.ah.L).trans gw.ah⟩;refine ⟨_,rfl,gn,?_⟩;simp only [zA,zB,zS];refine zT 9 (some 58) (.binOp .eql 4 (.tmp 56) (.tmp 57) 4) (.bool true) gn ?_ (hy:=fun o' ho W hS=>by simp only [execOp,ho];go_simp;first | done | rfl | simp);simp only [zA,zB,zS];obtain ⟨wz,fq⟩:=zX (w5.setRow b2 (zM K c m inp fa fn fc aq ar aD aw az aE));have bS:wz.heap[b8]? = some (.cells (zM K c m inp fa fn fc aq ar aD aw az aE) 36 (0,0))∧wz.heap[ba]? = some (.cells #[.int .i64 1,.int .i64 op,.int .i64 ao,.int .i64 du,.string s] 40 (0,0)):=by
   rw [← fq];exact ⟨by rw [qC _ _ _ _ lL.ah.1];exact gn.1,by rw [qC _ _ _ _ lL.ah.2];exact gn.2⟩
  refine zW 10 none (.store 36 (.tmp 6) (.tmp 49)) 0 wz bS ?_ (hy:=fun o' ho ht=>by rw [← fq];exact kK ho (by rfl) (by rfl) HR.ah rfl rfl (dV ..));simp only [Act.put];refine zT 11 (some 7) (.assign (.tmp 58)) _ bS ?_;simp only [zA,zB,zS];refine zE (by kernel_rfl) ?_;(try go_frame);have eM:=gY w5 b2 _ (zM K c m inp fa fn fc aq ar aD aw az aE) _ _ HR.ah;rw [fq] at eM;have gx:=KM.ah.row (b:=b2) (cs:=(zM K c m inp fa fn fc aq ar aD aw az aE)) (Ad HR.ah) KK.ah (jd HI.ah.H.low.size bw.ah.g.2.2);have lh:=vd.ah.fH (bM.grown (S:=fun j=>j=b2) (bZ w5 b2 (zM K c m inp fa fn fc aq ar aD aw az aE)) (fun j e=>by injection e with e;exact e.symm)) (fun j e=>by rw [e];exact bw.ah.g.2.2);rw [fq] at gx lh;go_wp2_with fail
  (try simp only [Exit.inBlock,Exit.then]);refine gX (iE rfl _ _ b2 _ rfl eM rfl) rfl ?_;exact ⟨S7,m,inp,F,fa,fn,fc,aq,ar,aD,aw,az,aE,rfl,⟨gx⟩,⟨lh⟩,⟨Nat.le_add_right _ _⟩⟩
 by_cases h2:kind=2
 ·subst h2
  obtain ⟨m,r,hm⟩:∃ m r,aj.jW c l (bytes s)=(m,r):=⟨_,_,rfl⟩;have DC:=WI (K:=K) (inp:=inp) (fa:=fa) (fn:=fn) (fc:=fc) (HI.ah.D.below bw.ah.L) s (P:=fun j=>¬ S j) HPP.ah HI.ah.p HK.ah;have em:(aj.jW c l (bytes s)).1=m:=by rw [hm]
  have er:(aj.jW c l (bytes s)).2=r:=by rw [hm]
  rw [em,er] at DC;have ei:=Sl.mk hm;have T4:Sl (aj.rC l m):=⟨by rw [← em];exact aj.yS c l (bytes s)⟩;clear hm em er;go_wp2_with (refine uY rfl 36 (.tmp 4) rfl b1 rfl 36 _ (0,0) _ bw.ah.X underlying36 rfl (aX rfl) ?_)
  refine DC.mono ?_;rintro ee w3 ⟨aq,ar,aD,aw,az,aE,rfl,F0,bv,xv⟩;clear DC z0 z1 z2 z3 z4;have cI:=Sl.mk (bw.ah.below bv.ah);go_upto_region 10 with (refine fG rfl 36 (.tmp 12) (.tmp 66) rfl w3.heap.size (zM K c m inp fa fn fc aq ar aD aw az aE) rfl rfl 36 zD (aI _ _ _ rfl) (aX rfl) rfl (dV ..) ?_)
  have cx:((w3.alloc (.cells zD 36)).setRow w3.heap.size (zM K c m inp fa fn fc aq ar aD aw az aE)).heap[w3.heap.size]? = some (.cells (zM K c m inp fa fn fc aq ar aD aw az aE) 36 (0,0)):=gY _ _ _ _ _ _ (aI _ _ _ rfl);have br:Below w3.heap.size w3 ((w3.alloc (.cells zD 36)).setRow w3.heap.size (zM K c m inp fa fn fc aq ar aD aw az aE)):=below_setRow ((dW _ _).alloc (aY _) _) (aY _) _;obtain ⟨w4,cS⟩:=zX ((w3.alloc (.cells zD 36)).setRow w3.heap.size (zM K c m inp fa fn fc aq ar aD aw az aE));obtain ⟨b8,ll⟩:=zX w3.heap.size;rw [cS] at cx br;(try rw [cS]);have it:Sl (W.heap.size≤b8):=⟨by rw [← ll];exact cI.ah.L.size⟩;have rN:Sl (w2.heap.size≤b8):=⟨by rw [← ll];first | exact HO.ah.B.size | exact bv.ah.size⟩;rw [ll] at cx;(try rw [ll]);have cx:=Sl.mk cx;have cI:=Sl.mk (cI.ah.below br);have br:=Sl.mk br;clear cS ll;have jx:Sl (¬ S b8∧¬ S ba∧¬ S b2):=⟨HI.ah.H.fH _ it.ah,HI.ah.H.fH _ bw.ah.g.2.1,HI.ah.H.fH _ bw.ah.g.2.2⟩;have lL:Sl (b8≠b2∧ba≠b2):=⟨pr.ah.1 b8 (by have:=rN.ah;omega),pr.ah.2⟩;refine zG (S:=fun V=>V.heap[b8]? = some (.cells (zM K c m inp fa fn fc aq ar aD aw az aE) 36 (0,0))∧V.heap[ba]? = some (.cells #[.int .i64 2,.int .i64 op,.int .i64 ao,.int .i64 du,.string s] 40 (0,0))) (by kernel_rfl) (fun Rw aM=>?_);have jn:=Sl.mk (cI.ah.below aM);have al:Rw.heap[b8]? = some (.cells (zM K c m inp fa fn fc aq ar aD aw az aE) 36 (0,0))∧Rw.heap[ba]? = some (.cells #[.int .i64 2,.int .i64 op,.int .i64 ao,.int .i64 du,.string s] 40 (0,0)):=⟨ay cx.ah aM,jn.ah.A⟩;have Ft:Sl (iT w0 Rw L S c l k):=⟨HI.ah.H.below jn.ah.L⟩;refine zT 0 (some 68) (.load 36 (.tmp 12)) (.agg (zM K c m inp fa fn fc aq ar aD aw az aE)) al ?_ (hy:=fun o' ho W hS=>kP ho (by rfl) hS.1 rfl);simp only [zA,zB,zS];refine zT 1 (some 69) (.move (.tmp 0)) (.pointer (some ⟨L,0,none⟩)) al ?_;simp only [zA,zB,zS];refine zT 2 (some 70) (.fieldAddr 40 (.tmp 5) 4) _ al ?_;simp only [zA,zB,zS];refine zT 3 (some 71) (.load 9 (.tmp 70)) (.string s) al ?_ (hy:=fun o' ho W hS=>by obtain ⟨d0,d1,d2,d3,d4⟩:=qW hS.2;simp only [execOp,ho];go_simp;try rfl);simp only [zA,zB,zS];refine zT 5 (some 73) (.move (.tmp 13)) (.bool r) al ?_;simp only [zA,zB,zS];have EX:=Nv Ft.ah s (by have:=vA.ah;omega) (by have:=HK.ah;omega) m r ei.ah;refine zC 4 (some 72) (.call {callee:=.value (.func 22),args:=#[.tmp 69,.tmp 71],argTypes:=#[30,9]}) 22 #[.pointer (some ⟨L,0,none⟩),.string s] ?_;refine (EX).mono ?_;rintro e w5 ⟨S7,rfl,mj,gw⟩;have gn:w5.heap[b8]? = some (.cells (zM K c m inp fa fn fc aq ar aD aw az aE) 36 (0,0))∧w5.heap[ba]? = some (.cells #[.int .i64 2,.int .i64 op,.int .i64 ao,.int .i64 du,.string s] 40 (0,0)):=⟨gB gw.ah al.1 jx.ah.1,gB gw.ah al.2 jx.ah.2.1⟩;have cq:Below w3.heap.size w3 Rw:=br.ah.trans (aM.mono br.ah.size);have HR:Sl (w5.heap[b2]? = some (.cells zD 36 (0,0))):=⟨gB gw.ah jn.ah.R jx.ah.2.2⟩;have KK:Sl (¬ S7 b2):=⟨ny gw.ah (zl jn.ah.R) jx.ah.2.2⟩
  have KM:Sl (PI w0 w5 L S7 c m (k+1) inp F fa fn fc aq ar aD aw az aE):=⟨(yx (F0.ah.below cq) (HI.ah.T.below jn.ah.L) xv.ah HI.ah.pf (HI.ah.R.WE T4.ah) HI.ah.t mj.ah gw.ah)⟩;have vd:Sl (eH W w5 S S7):=⟨(eH.below S jn.ah.L).trans gw.ah⟩;refine ⟨_,rfl,gn,?_⟩;simp only [zA,zB,zS];refine zT 6 (some 74) (.binOp .eql 4 (.tmp 72) (.tmp 73) 4) (.bool true) gn ?_ (hy:=fun o' ho W hS=>by simp only [execOp,ho];go_simp;first | done | rfl | simp);simp only [zA,zB,zS];obtain ⟨wz,fq⟩:=zX (w5.setRow b2 (zM K c m inp fa fn fc aq ar aD aw az aE));have bS:wz.heap[b8]? = some (.cells (zM K c m inp fa fn fc aq ar aD aw az aE) 36 (0,0))∧wz.heap[ba]? = some (.cells #[.int .i64 2,.int .i64 op,.int .i64 ao,.int .i64 du,.string s] 40 (0,0)):=by
   rw [← fq];exact ⟨by rw [qC _ _ _ _ lL.ah.1];exact gn.1,by rw [qC _ _ _ _ lL.ah.2];exact gn.2⟩
  refine zW 7 none (.store 36 (.tmp 6) (.tmp 68)) 0 wz bS ?_ (hy:=fun o' ho ht=>by rw [← fq];exact kK ho (by rfl) (by rfl) HR.ah rfl rfl (dV ..));simp only [Act.put];refine zT 8 (some 7) (.assign (.tmp 74)) _ bS ?_;simp only [zA,zB,zS];refine zE (by kernel_rfl) ?_;(try go_frame);have eM:=gY w5 b2 _ (zM K c m inp fa fn fc aq ar aD aw az aE) _ _ HR.ah;rw [fq] at eM;have gx:=KM.ah.row (b:=b2) (cs:=(zM K c m inp fa fn fc aq ar aD aw az aE)) (Ad HR.ah) KK.ah (jd HI.ah.H.low.size bw.ah.g.2.2);have lh:=vd.ah.fH (bM.grown (S:=fun j=>j=b2) (bZ w5 b2 (zM K c m inp fa fn fc aq ar aD aw az aE)) (fun j e=>by injection e with e;exact e.symm)) (fun j e=>by rw [e];exact bw.ah.g.2.2);rw [fq] at gx lh;go_wp2_with fail
  (try simp only [Exit.inBlock,Exit.then]);refine gX (iE rfl _ _ b2 _ rfl eM rfl) rfl ?_;exact ⟨S7,m,inp,F,fa,fn,fc,aq,ar,aD,aw,az,aE,rfl,⟨gx⟩,⟨lh⟩,⟨Nat.le_add_right _ _⟩⟩
 by_cases h3:kind=3
 ·subst h3
  obtain ⟨m,r,hm⟩:∃ m r,aj.bU c l ao (bytes s)=(m,r):=⟨_,_,rfl⟩;have DC:=JB (K:=K) (inp:=inp) (fa:=fa) (fn:=fn) (fc:=fc) (HI.ah.D.below bw.ah.L) ao s (by have:=vA.ah;omega) (P:=fun j=>¬ S j) HPP.ah HI.ah.p;have em:(aj.bU c l ao (bytes s)).1=m:=by rw [hm]
  have er:(aj.bU c l ao (bytes s)).2=r:=by rw [hm]
  rw [em,er] at DC;have ei:=Sl.mk hm;have T4:Sl (aj.rC l m):=⟨by rw [← em];exact aj.jm c l ao (bytes s)⟩;clear hm em er;go_wp2_with (refine uY rfl 36 (.tmp 4) rfl b1 rfl 36 _ (0,0) _ bw.ah.X underlying36 rfl (aX rfl) ?_)
  refine DC.mono ?_;rintro ee w3 ⟨aq,ar,aD,aw,az,aE,rfl,F0,bv,xv⟩;clear DC z0 z1 z2 z3 z4;have cI:=Sl.mk (bw.ah.below bv.ah);go_upto_region 13 with (refine fG rfl 36 (.tmp 14) (.tmp 84) rfl w3.heap.size (zM K c m inp fa fn fc aq ar aD aw az aE) rfl rfl 36 zD (aI _ _ _ rfl) (aX rfl) rfl (dV ..) ?_)
  have cx:((w3.alloc (.cells zD 36)).setRow w3.heap.size (zM K c m inp fa fn fc aq ar aD aw az aE)).heap[w3.heap.size]? = some (.cells (zM K c m inp fa fn fc aq ar aD aw az aE) 36 (0,0)):=gY _ _ _ _ _ _ (aI _ _ _ rfl);have br:Below w3.heap.size w3 ((w3.alloc (.cells zD 36)).setRow w3.heap.size (zM K c m inp fa fn fc aq ar aD aw az aE)):=below_setRow ((dW _ _).alloc (aY _) _) (aY _) _;obtain ⟨w4,cS⟩:=zX ((w3.alloc (.cells zD 36)).setRow w3.heap.size (zM K c m inp fa fn fc aq ar aD aw az aE));obtain ⟨b8,ll⟩:=zX w3.heap.size;rw [cS] at cx br;(try rw [cS]);have it:Sl (W.heap.size≤b8):=⟨by rw [← ll];exact cI.ah.L.size⟩;have rN:Sl (w2.heap.size≤b8):=⟨by rw [← ll];first | exact HO.ah.B.size | exact bv.ah.size⟩;rw [ll] at cx;(try rw [ll]);have cx:=Sl.mk cx;have cI:=Sl.mk (cI.ah.below br);have br:=Sl.mk br;clear cS ll;have jx:Sl (¬ S b8∧¬ S ba∧¬ S b2):=⟨HI.ah.H.fH _ it.ah,HI.ah.H.fH _ bw.ah.g.2.1,HI.ah.H.fH _ bw.ah.g.2.2⟩;have lL:Sl (b8≠b2∧ba≠b2):=⟨pr.ah.1 b8 (by have:=rN.ah;omega),pr.ah.2⟩;refine zG (S:=fun V=>V.heap[b8]? = some (.cells (zM K c m inp fa fn fc aq ar aD aw az aE) 36 (0,0))∧V.heap[ba]? = some (.cells #[.int .i64 3,.int .i64 op,.int .i64 ao,.int .i64 du,.string s] 40 (0,0))) (by kernel_rfl) (fun Rw aM=>?_);have jn:=Sl.mk (cI.ah.below aM);have al:Rw.heap[b8]? = some (.cells (zM K c m inp fa fn fc aq ar aD aw az aE) 36 (0,0))∧Rw.heap[ba]? = some (.cells #[.int .i64 3,.int .i64 op,.int .i64 ao,.int .i64 du,.string s] 40 (0,0)):=⟨ay cx.ah aM,jn.ah.A⟩;have Ft:Sl (iT w0 Rw L S c l k):=⟨HI.ah.H.below jn.ah.L⟩;refine zT 0 (some 86) (.load 36 (.tmp 14)) (.agg (zM K c m inp fa fn fc aq ar aD aw az aE)) al ?_ (hy:=fun o' ho W hS=>kP ho (by rfl) hS.1 rfl);simp only [zA,zB,zS];refine zT 1 (some 87) (.move (.tmp 0)) (.pointer (some ⟨L,0,none⟩)) al ?_;simp only [zA,zB,zS];refine zT 2 (some 88) (.fieldAddr 40 (.tmp 5) 2) _ al ?_;simp only [zA,zB,zS];refine zT 3 (some 89) (.load 3 (.tmp 88)) (.int .i64 ao) al ?_ (hy:=fun o' ho W hS=>by obtain ⟨d0,d1,d2,d3,d4⟩:=qW hS.2;simp only [execOp,ho];go_simp;try rfl);simp only [zA,zB,zS];refine zT 4 (some 90) (.fieldAddr 40 (.tmp 5) 4) _ al ?_;simp only [zA,zB,zS];refine zT 5 (some 91) (.load 9 (.tmp 90)) (.string s) al ?_ (hy:=fun o' ho W hS=>by obtain ⟨d0,d1,d2,d3,d4⟩:=qW hS.2;simp only [execOp,ho];go_simp;try rfl);simp only [zA,zB,zS];refine zT 7 (some 93) (.move (.tmp 15)) (.bool r) al ?_;simp only [zA,zB,zS];have EX:=Jo Ft.ah ao s m r ei.ah;refine zC 6 (some 92) (.call {callee:=.value (.func 23),args:=#[.tmp 87,.tmp 89,.tmp 91],argTypes:=#[30,3,9]}) 23 #[.pointer (some ⟨L,0,none⟩),.int .i64 ao,.string s] ?_;refine (EX).mono ?_;rintro e w5 ⟨S7,rfl,mj,gw⟩;have gn:w5.heap[b8]? = some (.cells (zM K c m inp fa fn fc aq ar aD aw az aE) 36 (0,0))∧w5.heap[ba]? = some (.cells #[.int .i64 3,.int .i64 op,.int .i64 ao,.int .i64 du,.string s] 40 (0,0)):=⟨gB gw.ah al.1 jx.ah.1,gB gw.ah al.2 jx.ah.2.1⟩;have cq:Below w3.heap.size w3 Rw:=br.ah.trans (aM.mono br.ah.size)
  have HR:Sl (w5.heap[b2]? = some (.cells zD 36 (0,0))):=⟨gB gw.ah jn.ah.R jx.ah.2.2⟩;have KK:Sl (¬ S7 b2):=⟨ny gw.ah (zl jn.ah.R) jx.ah.2.2⟩;have KM:Sl (PI w0 w5 L S7 c m (k+1) inp F fa fn fc aq ar aD aw az aE):=⟨(yx (F0.ah.below cq) (HI.ah.T.below jn.ah.L) xv.ah HI.ah.pf (HI.ah.R.WE T4.ah) HI.ah.t mj.ah gw.ah).mono HK.ah⟩;have vd:Sl (eH W w5 S S7):=⟨(eH.below S jn.ah.L).trans gw.ah⟩;refine ⟨_,rfl,gn,?_⟩;simp only [zA,zB,zS];refine zT 8 (some 94) (.binOp .eql 4 (.tmp 92) (.tmp 93) 4) (.bool true) gn ?_ (hy:=fun o' ho W hS=>by simp only [execOp,ho];go_simp;first | done | rfl | simp);simp only [zA,zB,zS];obtain ⟨wz,fq⟩:=zX (w5.setRow b2 (zM K c m inp fa fn fc aq ar aD aw az aE));have bS:wz.heap[b8]? = some (.cells (zM K c m inp fa fn fc aq ar aD aw az aE) 36 (0,0))∧wz.heap[ba]? = some (.cells #[.int .i64 3,.int .i64 op,.int .i64 ao,.int .i64 du,.string s] 40 (0,0)):=by
   rw [← fq];exact ⟨by rw [qC _ _ _ _ lL.ah.1];exact gn.1,by rw [qC _ _ _ _ lL.ah.2];exact gn.2⟩
  refine zW 9 none (.store 36 (.tmp 6) (.tmp 86)) 0 wz bS ?_ (hy:=fun o' ho ht=>by rw [← fq];exact kK ho (by rfl) (by rfl) HR.ah rfl rfl (dV ..));simp only [Act.put];refine zT 10 (some 7) (.assign (.tmp 94)) _ bS ?_;simp only [zA,zB,zS];refine zE (by kernel_rfl) ?_;(try go_frame);have eM:=gY w5 b2 _ (zM K c m inp fa fn fc aq ar aD aw az aE) _ _ HR.ah;rw [fq] at eM;have gx:=KM.ah.row (b:=b2) (cs:=(zM K c m inp fa fn fc aq ar aD aw az aE)) (Ad HR.ah) KK.ah (jd HI.ah.H.low.size bw.ah.g.2.2);have lh:=vd.ah.fH (bM.grown (S:=fun j=>j=b2) (bZ w5 b2 (zM K c m inp fa fn fc aq ar aD aw az aE)) (fun j e=>by injection e with e;exact e.symm)) (fun j e=>by rw [e];exact bw.ah.g.2.2);rw [fq] at gx lh;go_wp2_with fail
  (try simp only [Exit.inBlock,Exit.then]);refine gX (iE rfl _ _ b2 _ rfl eM rfl) rfl ?_;exact ⟨S7,m,inp,F,fa,fn,fc,aq,ar,aD,aw,az,aE,rfl,⟨gx⟩,⟨lh⟩,⟨Nat.le_add_right _ _⟩⟩
 by_cases h4:kind=4
 ·subst h4
  obtain ⟨m,hm⟩:=zX ((jD c l du).1);obtain ⟨tl,Mg⟩:=zX (l.aK.take du.toNat);obtain ⟨q,hq⟩:=zX tl.length;have DC:=WL (K:=K) (inp:=inp) (fa:=fa) (fn:=fn) (fc:=fc) (HI.ah.D.below bw.ah.L) du (P:=fun j=>¬ S j) HPP.ah HI.ah.p;have e2:(jD c l du).2=tl:=Mg;rw [hm,e2] at DC;have T4:Sl (aj.rC l m):=⟨by rw [← hm];exact aj.yT c l du⟩;have ei:=Sl.mk hm;have o6:=Sl.mk Mg;have HQ:=Sl.mk hq;clear hm Mg hq e2;go_wp2_with (refine uY rfl 36 (.tmp 4) rfl b1 rfl 36 _ (0,0) _ bw.ah.X underlying36 rfl (aX rfl) ?_)
  refine DC.mono ?_;rintro ee w3 ⟨aq,ar,aD,aw,az,aE,rfl,F0,bv,xv⟩;clear DC z0 z1 z2 z3 z4;have cI:=Sl.mk (bw.ah.below bv.ah);go_upto_region 16 with (refine fG rfl 36 (.tmp 16) (.tmp 102) rfl w3.heap.size (zM K c m inp fa fn fc aq ar aD aw az aE) rfl rfl 36 zD (aI _ _ _ rfl) (aX rfl) rfl (dV ..) ?_)
  have cx:((w3.alloc (.cells zD 36)).setRow w3.heap.size (zM K c m inp fa fn fc aq ar aD aw az aE)).heap[w3.heap.size]? = some (.cells (zM K c m inp fa fn fc aq ar aD aw az aE) 36 (0,0)):=gY _ _ _ _ _ _ (aI _ _ _ rfl);have br:Below w3.heap.size w3 ((w3.alloc (.cells zD 36)).setRow w3.heap.size (zM K c m inp fa fn fc aq ar aD aw az aE)):=below_setRow ((dW _ _).alloc (aY _) _) (aY _) _;obtain ⟨w4,cS⟩:=zX ((w3.alloc (.cells zD 36)).setRow w3.heap.size (zM K c m inp fa fn fc aq ar aD aw az aE));obtain ⟨b8,ll⟩:=zX w3.heap.size;rw [cS] at cx br;(try rw [cS]);have it:Sl (W.heap.size≤b8):=⟨by rw [← ll];exact cI.ah.L.size⟩;have rN:Sl (w2.heap.size≤b8):=⟨by rw [← ll];first | exact HO.ah.B.size | exact bv.ah.size⟩;rw [ll] at cx;(try rw [ll]);have cx:=Sl.mk cx;have cI:=Sl.mk (cI.ah.below br);have br:=Sl.mk br;clear cS ll;have jx:Sl (¬ S b8∧¬ S ba∧¬ S b2):=⟨HI.ah.H.fH _ it.ah,HI.ah.H.fH _ bw.ah.g.2.1,HI.ah.H.fH _ bw.ah.g.2.2⟩;have lL:Sl (b8≠b2∧ba≠b2):=⟨pr.ah.1 b8 (by have:=rN.ah;omega),pr.ah.2⟩;refine zG (S:=fun V=>V.heap[b8]? = some (.cells (zM K c m inp fa fn fc aq ar aD aw az aE) 36 (0,0))∧V.heap[ba]? = some (.cells #[.int .i64 4,.int .i64 op,.int .i64 ao,.int .i64 du,.string s] 40 (0,0))) (by kernel_rfl) (fun Rw aM=>?_);have jn:=Sl.mk (cI.ah.below aM);have al:Rw.heap[b8]? = some (.cells (zM K c m inp fa fn fc aq ar aD aw az aE) 36 (0,0))∧Rw.heap[ba]? = some (.cells #[.int .i64 4,.int .i64 op,.int .i64 ao,.int .i64 du,.string s] 40 (0,0)):=⟨ay cx.ah aM,jn.ah.A⟩;have Ft:Sl (iT w0 Rw L S c l k):=⟨HI.ah.H.below jn.ah.L⟩;refine zT 0 (some 104) (.load 36 (.tmp 16)) (.agg (zM K c m inp fa fn fc aq ar aD aw az aE)) al ?_ (hy:=fun o' ho W hS=>kP ho (by rfl) hS.1 rfl);simp only [zA,zB,zS];refine zT 1 (some 105) (.move (.tmp 0)) (.pointer (some ⟨L,0,none⟩)) al ?_;simp only [zA,zB,zS];refine zT 2 (some 106) (.fieldAddr 40 (.tmp 5) 3) _ al ?_;simp only [zA,zB,zS];refine zT 3 (some 107) (.load 3 (.tmp 106)) (.int .i64 du) al ?_ (hy:=fun o' ho W hS=>by obtain ⟨d0,d1,d2,d3,d4⟩:=qW hS.2;simp only [execOp,ho];go_simp;try rfl);simp only [zA,zB,zS];refine zT 6 (some 110) (.move (.tmp 17)) (.string (aF tl)) al ?_;simp only [zA,zB,zS];have PK:=xk Ft.ah du tl o6.ah q HQ.ah;refine zC 4 (some 108) (.call {callee:=.value (.func 33),args:=#[.tmp 105,.tmp 107],argTypes:=#[30,3]}) 33 #[.pointer (some ⟨L,0,none⟩),.int .i64 du] ?_;refine (PK).mono ?_;rintro e w5 ⟨rfl,kg,ch⟩;have eT:=Sl.mk (jn.ah.below ch.ah);have gn:w5.heap[b8]? = some (.cells (zM K c m inp fa fn fc aq ar aD aw az aE) 36 (0,0))∧w5.heap[ba]? = some (.cells #[.int .i64 4,.int .i64 op,.int .i64 ao,.int .i64 du,.string s] 40 (0,0)):=⟨ay al.1 ch.ah,eT.ah.A⟩;refine ⟨_,rfl,gn,?_⟩;simp only [zA,zB,zS];refine zR 5 (some 109) (.convert 49 9 (.tmp 108)) 9 (.string (aF tl)) w5 gn ?_ (hy:=fun o' ho ht=>gK.lS ho (by rfl) (kg.ah.JW HQ.ah));simp only [zA,zB,zS];refine zT 7 (some 111) (.binOp .eql 9 (.tmp 109) (.tmp 110) 9) (.bool true) gn ?_ (hy:=fun o' ho W hS=>by simp only [execOp,ho];go_simp;first | done | rfl | simp)
  simp only [zA,zB,zS];refine zT 8 (some 112) (.move (.tmp 111)) (.bool true) gn ?_;simp only [zA,zB,zS];refine zT 9 (some 113) (.move (.tmp 0)) (.pointer (some ⟨L,0,none⟩)) gn ?_ (g:=some (8,true));simp only [zA,zB,zS];refine zT 10 (some 114) (.fieldAddr 40 (.tmp 5) 3) _ gn ?_ (g:=some (8,true));simp only [zA,zB,zS];refine zT 11 (some 115) (.load 3 (.tmp 114)) (.int .i64 du) gn ?_ (g:=some (8,true)) (hy:=fun o' ho W hS=>by obtain ⟨d0,d1,d2,d3,d4⟩:=qW hS.2;simp only [execOp,ho];go_simp;try rfl);simp only [zA,zB,zS];refine zT 14 (some 118) (.move (.tmp 17)) (.string (aF tl)) gn ?_ (g:=some (8,true));simp only [zA,zB,zS];have TK:=tZ (Ft.ah.below ch.ah) du tl o6.ah q HQ.ah m ei.ah;refine zC 12 (some 116) (.call {callee:=.value (.func 24),args:=#[.tmp 113,.tmp 115],argTypes:=#[30,3]}) 24 #[.pointer (some ⟨L,0,none⟩),.int .i64 du] ?_ (g:=some (8,true));refine (TK).mono ?_;rintro e w6 ⟨S7,rfl,cL,oS,gL⟩;have pm:w6.heap[b8]? = some (.cells (zM K c m inp fa fn fc aq ar aD aw az aE) 36 (0,0))∧w6.heap[ba]? = some (.cells #[.int .i64 4,.int .i64 op,.int .i64 ao,.int .i64 du,.string s] 40 (0,0)):=⟨gB gL.ah gn.1 jx.ah.1,gB gL.ah gn.2 jx.ah.2.1⟩;have cq:Below w3.heap.size w3 w5:=br.ah.trans ((aM.trans (ch.ah.mono aM.size)).mono br.ah.size);have HR:Sl (w6.heap[b2]? = some (.cells zD 36 (0,0))):=⟨gB gL.ah eT.ah.R jx.ah.2.2⟩;have KK:Sl (¬ S7 b2):=⟨ny gL.ah (zl eT.ah.R) jx.ah.2.2⟩;have KM:Sl (PI w0 w6 L S7 c m (k+1) inp F fa fn fc aq ar aD aw az aE):=⟨(yx (F0.ah.below cq) (HI.ah.T.below eT.ah.L) xv.ah HI.ah.pf (HI.ah.R.WE T4.ah) HI.ah.t oS.ah gL.ah).mono HK.ah⟩;have vd:Sl (eH W w6 S S7):=⟨(eH.below S eT.ah.L).trans gL.ah⟩;refine ⟨_,rfl,pm,?_⟩;simp only [zA,zB,zS];refine wH (S':=fun V=>(V.heap[b8]? = some (.cells (zM K c m inp fa fn fc aq ar aD aw az aE) 36 (0,0))∧V.heap[ba]? = some (.cells #[.int .i64 4,.int .i64 op,.int .i64 ao,.int .i64 du,.string s] 40 (0,0)))∧fA V w5.heap.size tl) (fun _ h=>h.1) _ _ _ _ ?_;have IH:=And.intro pm cL.ah;refine zT 13 (some 117) (.convert 49 9 (.tmp 116)) (.string (aF tl)) IH ?_ (g:=some (8,true)) (hy:=fun o' ho W hS=>gK.lS ho (by rfl) (hS.2.JW HQ.ah));simp only [zA,zB,zS];refine zT 15 (some 119) (.binOp .eql 9 (.tmp 117) (.tmp 118) 9) (.bool true) IH ?_ (g:=some (8,true)) (hy:=fun o' ho W hS=>by simp only [execOp,ho];go_simp;first | done | rfl | simp);simp only [zA,zB,zS];refine zT 16 (some 120) (.pick (.tmp 112) (.tmp 119) (.const (.bool false))) (.bool true) IH ?_;simp only [zA,zB,zS];obtain ⟨wz,fq⟩:=zX (w6.setRow b2 (zM K c m inp fa fn fc aq ar aD aw az aE));have bS:wz.heap[b8]? = some (.cells (zM K c m inp fa fn fc aq ar aD aw az aE) 36 (0,0))∧wz.heap[ba]? = some (.cells #[.int .i64 4,.int .i64 op,.int .i64 ao,.int .i64 du,.string s] 40 (0,0)):=by
   rw [← fq];exact ⟨by rw [qC _ _ _ _ lL.ah.1];exact pm.1,by rw [qC _ _ _ _ lL.ah.2];exact pm.2⟩
  have agH:w5.heap.size≠b2:=fun e=>by have:=(zl eT.ah.R);omega
  have bS:=And.intro bS (show fA wz w5.heap.size tl from by unfold fA;rw [← fq,qC _ _ _ _ agH];exact cL.ah);refine zW 17 none (.store 36 (.tmp 6) (.tmp 104)) 0 wz bS ?_ (hy:=fun o' ho ht=>by rw [← fq];exact kK ho (by rfl) (by rfl) HR.ah rfl rfl (dV ..));simp only [Act.put];refine zT 18 (some 7) (.assign (.tmp 120)) _ bS ?_;simp only [zA,zB,zS];refine zE (by kernel_rfl) ?_;(try go_frame);have eM:=gY w6 b2 _ (zM K c m inp fa fn fc aq ar aD aw az aE) _ _ HR.ah;rw [fq] at eM;have gx:=KM.ah.row (b:=b2) (cs:=(zM K c m inp fa fn fc aq ar aD aw az aE)) (Ad HR.ah) KK.ah (jd HI.ah.H.low.size bw.ah.g.2.2);have lh:=vd.ah.fH (bM.grown (S:=fun j=>j=b2) (bZ w6 b2 (zM K c m inp fa fn fc aq ar aD aw az aE)) (fun j e=>by injection e with e;exact e.symm)) (fun j e=>by rw [e];exact bw.ah.g.2.2);rw [fq] at gx lh;go_wp2_with fail
  (try simp only [Exit.inBlock,Exit.then]);refine gX (iE rfl _ _ b2 _ rfl eM rfl) rfl ?_;exact ⟨S7,m,inp,F,fa,fn,fc,aq,ar,aD,aw,az,aE,rfl,⟨gx⟩,⟨lh⟩,⟨Nat.le_add_right _ _⟩⟩
 have q0:(kind==0)=false:=by simp [h0]
 have q1:(kind==1)=false:=by simp [h1]
 have q2:(kind==2)=false:=by simp [h2]
 have q3:(kind==3)=false:=by simp [h3]
 have q4:(kind==4)=false:=by simp [h4]
 clear h0 h1 h2 h3 h4;go_wp2_with (first
  | (refine uY rfl 36 (.tmp 4) rfl b1 rfl 36 _ (0,0) _ bw.ah.X underlying36 rfl (aX rfl) ?_)
  | (refine fG rfl 36 (.tmp 6) (.tmp 121) rfl b2 (zM K c l inp fa fn fc ca cn cc ra rn rc) rfl rfl 36 zD bw.ah.R (aX rfl) rfl (dV ..) ?_))
 have eM:=gY w2 b2 _ (zM K c l inp fa fn fc ca cn cc ra rn rc) _ _ bw.ah.R;have gx:=((HI.ah.below bw.ah.L).mono HK.ah).row (b:=b2) (cs:=(zM K c l inp fa fn fc ca cn cc ra rn rc)) (Ad bw.ah.R) (HI.ah.H.fH _ bw.ah.g.2.2) (jd HI.ah.H.low.size bw.ah.g.2.2);have lh:=(eH.below S bw.ah.L).fH (bM.grown (S:=fun j=>j=b2) (bZ w2 b2 (zM K c l inp fa fn fc ca cn cc ra rn rc)) (fun j e=>by injection e with e;exact e.symm)) (fun j e=>by rw [e];exact bw.ah.g.2.2);(try simp only [Exit.inBlock,Exit.then]);refine gX (iE rfl _ _ b2 _ rfl eM rfl) rfl ?_;exact ⟨S,l,inp,F,fa,fn,fc,ca,cn,cc,ra,rn,rc,rfl,⟨gx⟩,⟨lh⟩,⟨Nat.le_add_right _ _⟩⟩
end
end Go.Proofs.YtlahonjmfecikaaGreatDoor.jo
