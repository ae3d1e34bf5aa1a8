/- Texts, joined. -/
import Derived.Test.YtlahonjmfecikaaGreatDoorXb
import Derived.SliceStrings
import Derived.ProofKit
import Derived.ChangeArms
import Derived.OpenShut
import Derived.Lib.BufferWrite
import Derived.Lib.UnsafeStr
import Derived.Lib.AppendStr
set_option maxRecDepth 100000
set_option maxHeartbeats 64000000
set_option linter.unusedVariables false
set_option linter.unusedSimpArgs false
open Go.Proofs.Tryz
namespace Go.Proofs.YtlahonjmfecikaaGreatDoor.gK
open Go.RowKit aO aC jF
section
variable {W:World} {ev:Operand→Value} {o:Oper} {x:Operand} {s t:ByteArray} {L:List Nat}
theorem kZ (a b:List Nat):aF (a++b)=aF a++aF b:=by
 refine ByteArray.ext ?_;simp [aF,strOfNums,ByteArray.data_append]
theorem Ew {l:Nat} (ho:o.op=.index 9 x (.const (.int .i64 0))) (hx:ev x=.string s) (mS:ev (.const (.int .i64 0))=.int .i64 0) (hs:bytes s=L∧0<L.length) (hl:L.getD 0 0=l) :
 (execOp ev o).run prog W=.ok (.value (.int .u8 (l:Int))) W:=by
 obtain ⟨kp,lR⟩:=hs;have hz:0<s.size:=by rw [← au,kp];exact lR
 have hb:=dL s 0 hz;rw [kp,hl] at hb;subst hb;simp only [execOp,ho,hx,mS];go_simp
 rfl
theorem Ii (ho:o.op=.slice 9 x (some (.const (.int .i64 1))) none none) (hx:ev x=.string s) (mS:ev (.const (.int .i64 1))=.int .i64 1) (hs:bytes s=L∧0<L.length) (ht:s.extract 1 s.size=t) :
 (execOp ev o).run prog W=.ok (.value (.string t)) W:=by
 obtain ⟨kp,lR⟩:=hs;have hz:1≤s.size:=by rw [← au,kp];exact lR
 subst ht;simp only [execOp,ho,hx,mS,Dy,Option.map_none];go_simp
 intro h;omega
theorem jU {y:Operand} (ho:o.op=.binOp .add 9 x y 9) (hx:ev x=.string s) (hy:ev y=.string t) (h:s.size+t.size≤1000000) :
 (execOp ev o).run prog W=.ok (.value (.string (s++t))) W:=by
 simp only [execOp,ho,hx,hy];go_simp
 omega
theorem lS {v:Value} (ho:o.op=.convert 49 9 x) (hx:ev x=v) (h:(convert 49 9 v).run prog W=.ok (.string s) W) :
 (execOp ev o).run prog W=.ok (.value (.string s)) W:=by
 simp only [execOp,ho,hx,rE,Sem.run_pure];refine (lG (fun r=>Result.andThen r _) h).trans ?_;rfl
theorem oP (aN:Bool) (k:Nat) (m:Bool) (a b c d:Nat) (s:ByteArray) (w:World) (hk:aU 256 [a,b,c,d]) (hc:nI (⟨aN,(k:Int),m,[a,b,c,d],bytes s⟩:Fr)=0) :
 Calls prog 106 #[.agg (zV aN (k:Int) m a b c d s)] w fun e w'=>e=.returned (.string (aF (aT (⟨aN,(k:Int),m,[a,b,c,d],bytes s⟩:Fr))))∧Sl (Below w.heap.size w w'):=by
 have im:=Sl.mk hk;obtain ⟨ib,sy⟩:=Rh hc;have sy:s.size≤65536:=by simpa only [au] using sy
 have bS:=Sl.mk sy;have rS:=eF ib;have ad2:k≤10:=by have:=rS.1;simp only at this;omega
 have gO:eP s.size=some (iJ s.size):=nN (by omega);have cV:=FV s.size (by omega);have oX:=qA (n:=s.size) (by omega);have eZ:=(pN (n:=s.size) (by omega)).1;have lE:0<(iJ s.size).length:=by rw [ji (by omega)];split<;>(try split)<;>omega
 obtain ⟨L,hL⟩:=zX (iJ s.size);have nu:=Sl.mk hL;rw [hL] at cV oX eZ lE gO;obtain ⟨l0,uA⟩:=zX (L.getD 0 0);have lO:=Sl.mk uA;rw [uA] at eZ;have hl0:=eZ;have uB:=Sl.mk lE;obtain ⟨l1,nA⟩:=zX (l0+128);have z3:IntKind.u8.wrap ((l0:Int)+128)=(l1:Int):=by rw [IntKind.wrap_u8];omega
 obtain ⟨LS,Wf⟩:=zX (aF L);have YQ:=Sl.mk Wf;have Bm:Sl (bytes LS=L∧0<L.length):=⟨by rw [← Wf];exact dm L oX,lE⟩;have hlz:LS.size≤9:=by rw [← Wf,cZ];exact cV
 have Ly:∀ W,Calls prog 134 #[.int .u64 (s.size:Int)] W fun e w'=>e=.returned (.tuple #[.string LS,.bool true])∧Sl (Below W.heap.size W w'):=fun W=>by rw [← Wf];exact J4 s.size L W gO (by omega)
 have hwr:IntKind.u64.wrap (s.size:Int)=(s.size:Int):=by rw [FP];omega
 obtain ⟨TL,Ha⟩:=zX (LS.extract 1 LS.size);have o6:=Sl.mk Ha;have Ao:Sl (TL.size≤9):=⟨by rw [← Ha,DJ];omega⟩;obtain ⟨KS,hKS⟩:=zX (aF [a,b,c,d]);have YR:=Sl.mk hKS;have lv:Sl (KS.size=4):=⟨by rw [← hKS,cZ];rfl⟩;obtain ⟨TD,pB⟩:=zX (aF (fC [a,b,c,d] (kX 0) (bytes s)));have Hc:Sl (TD.size=s.size):=⟨by rw [← pB,cZ,fV,au]⟩;have t0:∀ W,Calls prog 126 #[.agg #[.int .u8 ((a:Nat):Int),.int .u8 ((b:Nat):Int),.int .u8 ((c:Nat):Int),.int .u8 ((d:Nat):Int)],.int .i64 0,.string s] W fun e w'=>e=.returned (.string TD)∧Sl (Below W.heap.size W w'):=fun W=>by rw [← pB];exact lM [a,b,c,d] 0 s W rfl hk (by omega)
 have TXT:Sl (∀ x:Nat,Ending.returned (.string (aF [x,l1]++TL++KS++TD))=Ending.returned (.string (aF ((([x]++L).set 1 (l0+128)++[a,b,c,d])++tb true [a,b,c,d] (bytes s))))):=⟨fun x=>by
  have h1:([x]++L).set 1 (l0+128)=[x,l0+128]++L.drop 1:=by
   cases L with
   | nil=>cases lE
   | cons y ys=>rfl
  have h2:TL=aF (L.drop 1):=by
   refine kW ?_;rw [← Ha,bC,Bm.ah.1,dm _ (fun x hx=>oX x (Ef hx)),nC (by rw [← Wf,cZ];exact aY _)]
  rw [h1,kZ,kZ,kZ,h2,hKS,← pB,nA];rfl⟩
 clear hk ib sy rS hc gO cV oX lE hL uA eZ Wf nA Ha hKS pB;cases aN with
 | true =>
   cases m with
   | true =>
     obtain ⟨b0,gT⟩:=zX (k+128);have hJ:Sl (kD (⟨true,(k:Int),true,[a,b,c,d],bytes s⟩:Fr)=b0):=⟨gT⟩;have z1:IntKind.i64.wrap ((k:Int)+128)=((k+128:Nat):Int):=by rw [lZ];omega
     rw [gT] at z1;obtain ⟨H2,Bn⟩:=zX (aF [b0,l1]);have dz:H2.size=2:=by rw [← Bn,cZ];rfl
     have z2:IntKind.u8.wrap (b0:Int)=(b0:Int):=by rw [IntKind.wrap_u8];omega
     obtain ⟨w1,bA⟩:=zX (w.alloc (.cells (zV true (k:Int) true a b c d s) 61));have bi:Sl (Below w.heap.size w w1):=⟨by rw [← bA];exact (fQ w _).ah⟩;have nh:Sl (w1.heap[w.heap.size]? = some (.cells (zV true (k:Int) true a b c d s) 61 (0,0))):=⟨by rw [← bA];exact dQ _ _⟩;obtain ⟨p0,p1,p2,p3,p4,p5,p6,p7⟩:=bG nh.ah;go_enter func106,ntmps106;go_wp2_with fail
     refine (Ly _).mono ?_;rintro e w2 ⟨rfl,bw⟩;have bk:Sl (Below w.heap.size w w2):=⟨bi.ah.trans (bw.ah.mono bi.ah.size)⟩;have nj:Sl (w2.heap[w.heap.size]? = some (.cells (zV true (k:Int) true a b c d s) 61 (0,0))):=⟨ay nh.ah bw.ah⟩;clear bw bi nh bA Ly p0 p1 p2 p3 p4 p5 p6 p7;obtain ⟨c0,c1,c2,c3,c4,c5,c6,c7⟩:=bG nj.ah;go_upto_region 7 with fail
     obtain ⟨R,hR⟩:=zX w2.drew;have al:Below w.heap.size w R∧R.heap[w.heap.size]? = some (.cells (zV true (k:Int) true a b c d s) 61 (0,0)):=⟨by rw [← hR];exact bk.ah.drew,by rw [← hR];exact nj.ah⟩;refine Ai ?_;refine Ah (S:=fun W=>Below w.heap.size w W∧W.heap[w.heap.size]? = some (.cells (zV true (k:Int) true a b c d s) 61 (0,0))) (by kernel_rfl) ?_;change wpAnyH _ _ _ _ _ _ _ _ w2.drew;rw [hR];clear hR bk nj c0 c1 c2 c3 c4 c5 c6 c7;refine zT 0 (some 32) (.move (.tmp 3)) _ al ?_;simp only [zA,zB,zS];refine zT 1 (some 33) (.convert 3 5 (.tmp 32)) _ al ?_;simp only [zA,zB,zS];refine zT 2 (some 34) (.move (.tmp 4)) _ al ?_;simp only [zA,zB,zS];refine zT 3 (some 35) (.index 9 (.tmp 34) (.const (.int .i64 0))) (.int .u8 (l0:Int)) al ?_ (hy:=fun o' ho W hS=>Ew ho (by rfl) (by rfl) Bm.ah lO.ah);simp only [zA,zB,zS];refine zT 4 (some 36) (.binOp .add 5 (.tmp 35) (.const (.int .u8 128)) 5) _ al ?_;simp only [zA,zB,zS];refine zT 7 (some 39) (.move (.tmp 4)) _ al ?_;simp only [zA,zB,zS];refine zT 8 (some 40) (.slice 9 (.tmp 39) (some (.const (.int .i64 1))) none none) (.string TL) al ?_ (hy:=fun o' ho W hS=>Ii ho (by rfl) (by rfl) Bm.ah o6.ah);simp only [zA,zB,zS];refine zT 10 (some 42) (.fieldAddr 61 (.tmp 1) 3) _ al ?_;simp only [zA,zB,zS];refine zT 11 (some 43) (.slice 59 (.tmp 42) none none none) _ al ?_;simp only [zA,zB,zS];refine zT 12 (some 44) (.convert 49 9 (.tmp 43)) (.string KS) al ?_ (hy:=fun o' ho W hS=>lS ho (by rfl) (by rw [← YR.ah];obtain ⟨e0,e1,e2,e3,e4,e5,e6,e7⟩:=bG hS.2;exact (Az e3 e4 e5 e6).conv));simp only [zA,zB,zS];refine zT 14 (some 46) (.fieldAddr 61 (.tmp 1) 3) _ al ?_;simp only [zA,zB,zS];refine zT 15 (some 47) (.load 59 (.tmp 46)) _ al ?_ (hy:=fun o' ho W hS=>by obtain ⟨e0,e1,e2,e3,e4,e5,e6,e7⟩:=bG hS.2;simp only [execOp,ho];go_simp;try rfl);simp only [zA,zB,zS];refine zT 16 (some 48) (.fieldAddr 61 (.tmp 1) 4) _ al ?_;simp only [zA,zB,zS];refine zT 17 (some 49) (.load 9 (.tmp 48)) _ al ?_ (hy:=fun o' ho W hS=>by obtain ⟨e0,e1,e2,e3,e4,e5,e6,e7⟩:=bG hS.2;simp only [execOp,ho];go_simp;try rfl);simp only [zA,zB,zS];obtain ⟨A,hA⟩:=zX (R.alloc (.cells #[.int .u8 (b0:Int),.int .u8 (l1:Int)] 5));have FF:fA A R.heap.size [b0,l1]:=by rw [← hA];exact gu R [b0,l1]
     have BA:Below R.heap.size R A:=by rw [← hA];exact (dW _ _).alloc (aY _) _
     have ga:Below w.heap.size w A∧A.heap[w.heap.size]? = some (.cells (zV true (k:Int) true a b c d s) 61 (0,0)):=⟨al.1.trans (BA.mono al.1.size),ay al.2 BA⟩;refine JX (di:=some 37) (pT:=.buildSlice 49 2 #[(0,Operand.tmp 33),(1,Operand.tmp 36)]) (dj:=some 50) (p8:=.call {callee:=Callee.value (Operand.func 126),args:=#[Operand.tmp 47,Operand.const (Value.int IntKind.i64 0),Operand.tmp 49],argTypes:=#[59,3,9]}) (ti:=49) (tj:=9) 5 18 (.slice (some ⟨R.heap.size,0,none⟩) 2 2) A 126 #[.agg #[.int .u8 ((a:Nat):Int),.int .u8 ((b:Nat):Int),.int .u8 ((c:Nat):Int),.int .u8 ((d:Nat):Int)],.int .i64 0,.string s] rfl rfl (by kernel_rfl) ?aem ?YS ga ?N0 ?Hd;case aem=>intro o' ho ht;simp only [execOp,ho];go_simp;first | done | (rw [hA];done) | rfl
     case YS=>intro o' ho ht;simp only [execOp,ho];go_simp;try rfl
     case N0 =>
      simp only [zA,zB,zS];refine wH (S':=fun W=>(Below w.heap.size w W∧W.heap[w.heap.size]? = some (.cells (zV true (k:Int) true a b c d s) 61 (0,0)))∧fA W R.heap.size [b0,l1]) (fun W h=>h.1) _ _ _ _ ?_;have mN:(Below w.heap.size w A∧A.heap[w.heap.size]? = some (.cells (zV true (k:Int) true a b c d s) 61 (0,0)))∧fA A R.heap.size [b0,l1]:=⟨ga,FF⟩;refine zT 6 (some 38) (.convert 49 9 (.tmp 37)) (.string H2) mN ?_ (hy:=fun o' ho W hS=>lS ho (by rfl) (by rw [← Bn];exact hS.2.JW rfl));simp only [zA,zB,zS];refine zT 9 (some 41) (.binOp .add 9 (.tmp 38) (.tmp 40) 9) (.string (H2++TL)) mN ?_ (hy:=fun o' ho W hS=>jU ho (by rfl) (by rfl) (by rw [dz];have:=Ao.ah;omega));simp only [zA,zB,zS];refine zT 13 (some 45) (.binOp .add 9 (.tmp 41) (.tmp 44) 9) (.string (H2++TL++KS)) mN ?_ (hy:=fun o' ho W hS=>jU ho (by rfl) (by rfl) (by rw [QD,dz,lv.ah];have:=Ao.ah;omega));simp only [zA,zB,zS];refine zC 18 (some 50) (.call {callee:=.value (.func 126),args:=#[.tmp 47,.const (.int .i64 0),.tmp 49],argTypes:=#[59,3,9]}) 126 #[.agg #[.int .u8 ((a:Nat):Int),.int .u8 ((b:Nat):Int),.int .u8 ((c:Nat):Int),.int .u8 ((d:Nat):Int)],.int .i64 0,.string s] ?_;refine (t0 A).mono ?_;rintro e X ⟨rfl,df⟩;have cC:(Below w.heap.size w X∧X.heap[w.heap.size]? = some (.cells (zV true (k:Int) true a b c d s) 61 (0,0)))∧fA X R.heap.size [b0,l1]:=⟨⟨ga.1.trans (df.ah.mono ga.1.size),ay ga.2 df.ah⟩,FF.below df.ah⟩;refine ⟨_,rfl,cC,?_⟩;simp only [zA,zB,zS];refine zT 19 (some 51) (.binOp .add 9 (.tmp 45) (.tmp 50) 9) (.string (H2++TL++KS++TD)) cC ?_ (hy:=fun o' ho W hS=>jU ho (by rfl) (by rfl) (by rw [QD,QD,dz,lv.ah,Hc.ah];have:=Ao.ah;have:=bS.ah;omega));simp only [zA,zB,zS];refine zT 20 (some 2) (.assign (.tmp 51)) _ cC ?_;simp only [zA,zB,zS];refine zE (by kernel_rfl) ?_;go_wp2;go_ret;refine ⟨?_,⟨cC.1.1⟩⟩;rw [nP (⟨true,(k:Int),true,[a,b,c,d],bytes s⟩:Fr) (L:=L) l0 rfl hJ.ah (by rw [au];exact nu.ah) lO.ah uB.ah];rw [← Bn];exact TXT.ah b0
     case Hd =>
      refine (t0 R).mono ?_;rintro e X ⟨rfl,df⟩;have cC:Below w.heap.size w X∧X.heap[w.heap.size]? = some (.cells (zV true (k:Int) true a b c d s) 61 (0,0)):=⟨al.1.trans (df.ah.mono al.1.size),ay al.2 df.ah⟩;refine ⟨_,rfl,cC,?_⟩;simp only [zA,zB,zS];obtain ⟨Y,hY⟩:=zX (X.alloc (.cells #[.int .u8 (b0:Int),.int .u8 (l1:Int)] 5));have x7:fA Y X.heap.size [b0,l1]:=by rw [← hY];exact gu X [b0,l1]
      have BY:Below X.heap.size X Y:=by rw [← hY];exact (dW _ _).alloc (aY _) _
      have jp:Below w.heap.size w Y∧Y.heap[w.heap.size]? = some (.cells (zV true (k:Int) true a b c d s) 61 (0,0)):=⟨cC.1.trans (BY.mono cC.1.size),ay cC.2 BY⟩;refine zR 5 (some 37) (.buildSlice 49 2 #[(0,.tmp 33),(1,.tmp 36)]) 49 (.slice (some ⟨X.heap.size,0,none⟩) 2 2) Y jp ?_ (hy:=fun o' ho _=>by simp only [execOp,ho];go_simp;first | done | (rw [hY];done) | rfl);simp only [zA,zB,zS];refine zR 6 (some 38) (.convert 49 9 (.tmp 37)) 9 (.string H2) Y jp ?_ (hy:=fun o' ho _=>lS ho (by rfl) (by rw [← Bn];exact x7.JW rfl));simp only [zA,zB,zS];refine zT 9 (some 41) (.binOp .add 9 (.tmp 38) (.tmp 40) 9) (.string (H2++TL)) jp ?_ (hy:=fun o' ho W hS=>jU ho (by rfl) (by rfl) (by rw [dz];have:=Ao.ah;omega));simp only [zA,zB,zS];refine zT 13 (some 45) (.binOp .add 9 (.tmp 41) (.tmp 44) 9) (.string (H2++TL++KS)) jp ?_ (hy:=fun o' ho W hS=>jU ho (by rfl) (by rfl) (by rw [QD,dz,lv.ah];have:=Ao.ah;omega));simp only [zA,zB,zS];refine zT 19 (some 51) (.binOp .add 9 (.tmp 45) (.tmp 50) 9) (.string (H2++TL++KS++TD)) jp ?_ (hy:=fun o' ho W hS=>jU ho (by rfl) (by rfl) (by rw [QD,QD,dz,lv.ah,Hc.ah];have:=Ao.ah;have:=bS.ah;omega));simp only [zA,zB,zS];refine zT 20 (some 2) (.assign (.tmp 51)) _ jp ?_;simp only [zA,zB,zS];refine zE (by kernel_rfl) ?_;go_wp2;go_ret;refine ⟨?_,⟨jp.1⟩⟩;rw [nP (⟨true,(k:Int),true,[a,b,c,d],bytes s⟩:Fr) (L:=L) l0 rfl hJ.ah (by rw [au];exact nu.ah) lO.ah uB.ah];rw [← Bn];exact TXT.ah b0
   | false =>
     obtain ⟨b0,gT⟩:=zX (k+128);have hJ:Sl (kD (⟨true,(k:Int),false,[a,b,c,d],bytes s⟩:Fr)=b0):=⟨gT⟩;have z1:IntKind.i64.wrap ((k:Int)+128)=((k+128:Nat):Int):=by rw [lZ];omega
     rw [gT] at z1;obtain ⟨H1,N1⟩:=zX (aF [b0]);have eI:H1.size=1:=by rw [← N1,cZ];rfl
     have z2:IntKind.u8.wrap (b0:Int)=(b0:Int):=by rw [IntKind.wrap_u8];omega
     obtain ⟨w1,bA⟩:=zX (w.alloc (.cells (zV true (k:Int) false a b c d s) 61));have bi:Sl (Below w.heap.size w w1):=⟨by rw [← bA];exact (fQ w _).ah⟩;have nh:Sl (w1.heap[w.heap.size]? = some (.cells (zV true (k:Int) false a b c d s) 61 (0,0))):=⟨by rw [← bA];exact dQ _ _⟩;obtain ⟨p0,p1,p2,p3,p4,p5,p6,p7⟩:=bG nh.ah;go_enter func106,ntmps106;go_wp2_with fail
     refine (Ly _).mono ?_;rintro e w2 ⟨rfl,bw⟩;have bk:Sl (Below w.heap.size w w2):=⟨bi.ah.trans (bw.ah.mono bi.ah.size)⟩;have nj:Sl (w2.heap[w.heap.size]? = some (.cells (zV true (k:Int) false a b c d s) 61 (0,0))):=⟨ay nh.ah bw.ah⟩;clear bw bi nh bA Ly p0 p1 p2 p3 p4 p5 p6 p7;obtain ⟨c0,c1,c2,c3,c4,c5,c6,c7⟩:=bG nj.ah;obtain ⟨w3,cH⟩:=zX (w2.alloc (.cells #[.int .u8 (b0:Int)] 5));have cI:Sl (Below w2.heap.size w2 w3):=⟨by rw [← cH];exact (dW _ _).alloc (aY _) _⟩;have bv:Sl (Below w.heap.size w w3):=⟨bk.ah.trans (cI.ah.mono bk.ah.size)⟩;have wN:Sl (w3.heap[w.heap.size]? = some (.cells (zV true (k:Int) false a b c d s) 61 (0,0))):=⟨ay nj.ah cI.ah⟩;obtain ⟨d0,d1,d2,d3,d4,d5,d6,d7⟩:=bG wN.ah;have eh:(convert 49 9 (.slice (some ⟨w2.heap.size,0,none⟩) 1 1)).run prog w3=.ok (.string H1) w3:=by
      rw [← N1,← cH];exact (gu w2 [b0]).JW rfl
     have hs6:=bS.ah;go_wp2;go_ret;refine ⟨?_,bv⟩;rw [tJ (⟨true,(k:Int),false,[a,b,c,d],bytes s⟩:Fr) (L:=L) rfl hJ.ah (by rw [au];exact nu.ah)]
     show Ending.returned (.string (H1++LS++s))=.returned (.string (aF (([b0]++L)++bytes s)))
     rw [← N1,← YQ.ah,kZ,kZ,bT]
 | false =>
   cases m with
   | true =>
     obtain ⟨b0,gT⟩:=zX k;have hJ:Sl (kD (⟨false,(k:Int),true,[a,b,c,d],bytes s⟩:Fr)=b0):=⟨gT⟩;have z1:IntKind.i64.wrap ((k:Int)+128)=((k+128:Nat):Int):=by rw [lZ];omega
     subst gT;clear z1;obtain ⟨H2,Bn⟩:=zX (aF [k,l1]);have dz:H2.size=2:=by rw [← Bn,cZ];rfl
     have z2:IntKind.u8.wrap (k:Int)=(k:Int):=by rw [IntKind.wrap_u8];omega
     obtain ⟨w1,bA⟩:=zX (w.alloc (.cells (zV false (k:Int) true a b c d s) 61));have bi:Sl (Below w.heap.size w w1):=⟨by rw [← bA];exact (fQ w _).ah⟩;have nh:Sl (w1.heap[w.heap.size]? = some (.cells (zV false (k:Int) true a b c d s) 61 (0,0))):=⟨by rw [← bA];exact dQ _ _⟩;obtain ⟨p0,p1,p2,p3,p4,p5,p6,p7⟩:=bG nh.ah;go_enter func106,ntmps106;go_wp2_with fail
     refine (Ly _).mono ?_;rintro e w2 ⟨rfl,bw⟩;have bk:Sl (Below w.heap.size w w2):=⟨bi.ah.trans (bw.ah.mono bi.ah.size)⟩;have nj:Sl (w2.heap[w.heap.size]? = some (.cells (zV false (k:Int) true a b c d s) 61 (0,0))):=⟨ay nh.ah bw.ah⟩;clear bw bi nh bA Ly p0 p1 p2 p3 p4 p5 p6 p7;obtain ⟨c0,c1,c2,c3,c4,c5,c6,c7⟩:=bG nj.ah;go_upto_region 7 with fail
     obtain ⟨R,hR⟩:=zX w2.drew;have al:Below w.heap.size w R∧R.heap[w.heap.size]? = some (.cells (zV false (k:Int) true a b c d s) 61 (0,0)):=⟨by rw [← hR];exact bk.ah.drew,by rw [← hR];exact nj.ah⟩;refine Ai ?_;refine Ah (S:=fun W=>Below w.heap.size w W∧W.heap[w.heap.size]? = some (.cells (zV false (k:Int) true a b c d s) 61 (0,0))) (by kernel_rfl) ?_;change wpAnyH _ _ _ _ _ _ _ _ w2.drew;rw [hR];clear hR bk nj c0 c1 c2 c3 c4 c5 c6 c7;refine zT 0 (some 32) (.move (.tmp 3)) _ al ?_;simp only [zA,zB,zS];refine zT 1 (some 33) (.convert 3 5 (.tmp 32)) _ al ?_;simp only [zA,zB,zS];refine zT 2 (some 34) (.move (.tmp 4)) _ al ?_;simp only [zA,zB,zS];refine zT 3 (some 35) (.index 9 (.tmp 34) (.const (.int .i64 0))) (.int .u8 (l0:Int)) al ?_ (hy:=fun o' ho W hS=>Ew ho (by rfl) (by rfl) Bm.ah lO.ah);simp only [zA,zB,zS];refine zT 4 (some 36) (.binOp .add 5 (.tmp 35) (.const (.int .u8 128)) 5) _ al ?_;simp only [zA,zB,zS];refine zT 7 (some 39) (.move (.tmp 4)) _ al ?_;simp only [zA,zB,zS];refine zT 8 (some 40) (.slice 9 (.tmp 39) (some (.const (.int .i64 1))) none none) (.string TL) al ?_ (hy:=fun o' ho W hS=>Ii ho (by rfl) (by rfl) Bm.ah o6.ah);simp only [zA,zB,zS];refine zT 10 (some 42) (.fieldAddr 61 (.tmp 1) 3) _ al ?_;simp only [zA,zB,zS];refine zT 11 (some 43) (.slice 59 (.tmp 42) none none none) _ al ?_;simp only [zA,zB,zS];refine zT 12 (some 44) (.convert 49 9 (.tmp 43)) (.string KS) al ?_ (hy:=fun o' ho W hS=>lS ho (by rfl) (by rw [← YR.ah];obtain ⟨e0,e1,e2,e3,e4,e5,e6,e7⟩:=bG hS.2;exact (Az e3 e4 e5 e6).conv));simp only [zA,zB,zS];refine zT 14 (some 46) (.fieldAddr 61 (.tmp 1) 3) _ al ?_;simp only [zA,zB,zS];refine zT 15 (some 47) (.load 59 (.tmp 46)) _ al ?_ (hy:=fun o' ho W hS=>by obtain ⟨e0,e1,e2,e3,e4,e5,e6,e7⟩:=bG hS.2;simp only [execOp,ho];go_simp;try rfl);simp only [zA,zB,zS];refine zT 16 (some 48) (.fieldAddr 61 (.tmp 1) 4) _ al ?_;simp only [zA,zB,zS];refine zT 17 (some 49) (.load 9 (.tmp 48)) _ al ?_ (hy:=fun o' ho W hS=>by obtain ⟨e0,e1,e2,e3,e4,e5,e6,e7⟩:=bG hS.2;simp only [execOp,ho];go_simp;try rfl);simp only [zA,zB,zS];obtain ⟨A,hA⟩:=zX (R.alloc (.cells #[.int .u8 (k:Int),.int .u8 (l1:Int)] 5));have FF:fA A R.heap.size [k,l1]:=by rw [← hA];exact gu R [k,l1]
     have BA:Below R.heap.size R A:=by rw [← hA];exact (dW _ _).alloc (aY _) _
     have ga:Below w.heap.size w A∧A.heap[w.heap.size]? = some (.cells (zV false (k:Int) true a b c d s) 61 (0,0)):=⟨al.1.trans (BA.mono al.1.size),ay al.2 BA⟩;refine JX (di:=some 37) (pT:=.buildSlice 49 2 #[(0,Operand.tmp 33),(1,Operand.tmp 36)]) (dj:=some 50) (p8:=.call {callee:=Callee.value (Operand.func 126),args:=#[Operand.tmp 47,Operand.const (Value.int IntKind.i64 0),Operand.tmp 49],argTypes:=#[59,3,9]}) (ti:=49) (tj:=9) 5 18 (.slice (some ⟨R.heap.size,0,none⟩) 2 2) A 126 #[.agg #[.int .u8 ((a:Nat):Int),.int .u8 ((b:Nat):Int),.int .u8 ((c:Nat):Int),.int .u8 ((d:Nat):Int)],.int .i64 0,.string s] rfl rfl (by kernel_rfl) ?aen ?YT ga ?N2 ?Hh;case aen=>intro o' ho ht;simp only [execOp,ho];go_simp;first | done | (rw [hA];done) | rfl
     case YT=>intro o' ho ht;simp only [execOp,ho];go_simp;try rfl
     case N2 =>
      simp only [zA,zB,zS];refine wH (S':=fun W=>(Below w.heap.size w W∧W.heap[w.heap.size]? = some (.cells (zV false (k:Int) true a b c d s) 61 (0,0)))∧fA W R.heap.size [k,l1]) (fun W h=>h.1) _ _ _ _ ?_;have mN:(Below w.heap.size w A∧A.heap[w.heap.size]? = some (.cells (zV false (k:Int) true a b c d s) 61 (0,0)))∧fA A R.heap.size [k,l1]:=⟨ga,FF⟩;refine zT 6 (some 38) (.convert 49 9 (.tmp 37)) (.string H2) mN ?_ (hy:=fun o' ho W hS=>lS ho (by rfl) (by rw [← Bn];exact hS.2.JW rfl));simp only [zA,zB,zS];refine zT 9 (some 41) (.binOp .add 9 (.tmp 38) (.tmp 40) 9) (.string (H2++TL)) mN ?_ (hy:=fun o' ho W hS=>jU ho (by rfl) (by rfl) (by rw [dz];have:=Ao.ah;omega));simp only [zA,zB,zS];refine zT 13 (some 45) (.binOp .add 9 (.tmp 41) (.tmp 44) 9) (.string (H2++TL++KS)) mN ?_ (hy:=fun o' ho W hS=>jU ho (by rfl) (by rfl) (by rw [QD,dz,lv.ah];have:=Ao.ah;omega));simp only [zA,zB,zS];refine zC 18 (some 50) (.call {callee:=.value (.func 126),args:=#[.tmp 47,.const (.int .i64 0),.tmp 49],argTypes:=#[59,3,9]}) 126 #[.agg #[.int .u8 ((a:Nat):Int),.int .u8 ((b:Nat):Int),.int .u8 ((c:Nat):Int),.int .u8 ((d:Nat):Int)],.int .i64 0,.string s] ?_;refine (t0 A).mono ?_;rintro e X ⟨rfl,df⟩;have cC:(Below w.heap.size w X∧X.heap[w.heap.size]? = some (.cells (zV false (k:Int) true a b c d s) 61 (0,0)))∧fA X R.heap.size [k,l1]:=⟨⟨ga.1.trans (df.ah.mono ga.1.size),ay ga.2 df.ah⟩,FF.below df.ah⟩;refine ⟨_,rfl,cC,?_⟩;simp only [zA,zB,zS];refine zT 19 (some 51) (.binOp .add 9 (.tmp 45) (.tmp 50) 9) (.string (H2++TL++KS++TD)) cC ?_ (hy:=fun o' ho W hS=>jU ho (by rfl) (by rfl) (by rw [QD,QD,dz,lv.ah,Hc.ah];have:=Ao.ah;have:=bS.ah;omega));simp only [zA,zB,zS];refine zT 20 (some 2) (.assign (.tmp 51)) _ cC ?_;simp only [zA,zB,zS];refine zE (by kernel_rfl) ?_;go_wp2;go_ret;refine ⟨?_,⟨cC.1.1⟩⟩;rw [nP (⟨false,(k:Int),true,[a,b,c,d],bytes s⟩:Fr) (L:=L) l0 rfl hJ.ah (by rw [au];exact nu.ah) lO.ah uB.ah];rw [← Bn];exact TXT.ah k
     case Hh =>
      refine (t0 R).mono ?_;rintro e X ⟨rfl,df⟩;have cC:Below w.heap.size w X∧X.heap[w.heap.size]? = some (.cells (zV false (k:Int) true a b c d s) 61 (0,0)):=⟨al.1.trans (df.ah.mono al.1.size),ay al.2 df.ah⟩;refine ⟨_,rfl,cC,?_⟩;simp only [zA,zB,zS];obtain ⟨Y,hY⟩:=zX (X.alloc (.cells #[.int .u8 (k:Int),.int .u8 (l1:Int)] 5));have x7:fA Y X.heap.size [k,l1]:=by rw [← hY];exact gu X [k,l1]
      have BY:Below X.heap.size X Y:=by rw [← hY];exact (dW _ _).alloc (aY _) _
      have jp:Below w.heap.size w Y∧Y.heap[w.heap.size]? = some (.cells (zV false (k:Int) true a b c d s) 61 (0,0)):=⟨cC.1.trans (BY.mono cC.1.size),ay cC.2 BY⟩;refine zR 5 (some 37) (.buildSlice 49 2 #[(0,.tmp 33),(1,.tmp 36)]) 49 (.slice (some ⟨X.heap.size,0,none⟩) 2 2) Y jp ?_ (hy:=fun o' ho _=>by simp only [execOp,ho];go_simp;first | done | (rw [hY];done) | rfl);simp only [zA,zB,zS];refine zR 6 (some 38) (.convert 49 9 (.tmp 37)) 9 (.string H2) Y jp ?_ (hy:=fun o' ho _=>lS ho (by rfl) (by rw [← Bn];exact x7.JW rfl));simp only [zA,zB,zS];refine zT 9 (some 41) (.binOp .add 9 (.tmp 38) (.tmp 40) 9) (.string (H2++TL)) jp ?_ (hy:=fun o' ho W hS=>jU ho (by rfl) (by rfl) (by rw [dz];have:=Ao.ah;omega));simp only [zA,zB,zS];refine zT 13 (some 45) (.binOp .add 9 (.tmp 41) (.tmp 44) 9) (.string (H2++TL++KS)) jp ?_ (hy:=fun o' ho W hS=>jU ho (by rfl) (by rfl) (by rw [QD,dz,lv.ah];have:=Ao.ah;omega));simp only [zA,zB,zS];refine zT 19 (some 51) (.binOp .add 9 (.tmp 45) (.tmp 50) 9) (.string (H2++TL++KS++TD)) jp ?_ (hy:=fun o' ho W hS=>jU ho (by rfl) (by rfl) (by rw [QD,QD,dz,lv.ah,Hc.ah];have:=Ao.ah;have:=bS.ah;omega));simp only [zA,zB,zS];refine zT 20 (some 2) (.assign (.tmp 51)) _ jp ?_;simp only [zA,zB,zS];refine zE (by kernel_rfl) ?_;go_wp2;go_ret;refine ⟨?_,⟨jp.1⟩⟩;rw [nP (⟨false,(k:Int),true,[a,b,c,d],bytes s⟩:Fr) (L:=L) l0 rfl hJ.ah (by rw [au];exact nu.ah) lO.ah uB.ah];rw [← Bn];exact TXT.ah k
   | false =>
     obtain ⟨b0,gT⟩:=zX k;have hJ:Sl (kD (⟨false,(k:Int),false,[a,b,c,d],bytes s⟩:Fr)=b0):=⟨gT⟩;have z1:IntKind.i64.wrap ((k:Int)+128)=((k+128:Nat):Int):=by rw [lZ];omega
     subst gT;clear z1;obtain ⟨H1,N1⟩:=zX (aF [k]);have eI:H1.size=1:=by rw [← N1,cZ];rfl
     have z2:IntKind.u8.wrap (k:Int)=(k:Int):=by rw [IntKind.wrap_u8];omega
     obtain ⟨w1,bA⟩:=zX (w.alloc (.cells (zV false (k:Int) false a b c d s) 61));have bi:Sl (Below w.heap.size w w1):=⟨by rw [← bA];exact (fQ w _).ah⟩;have nh:Sl (w1.heap[w.heap.size]? = some (.cells (zV false (k:Int) false a b c d s) 61 (0,0))):=⟨by rw [← bA];exact dQ _ _⟩;obtain ⟨p0,p1,p2,p3,p4,p5,p6,p7⟩:=bG nh.ah;go_enter func106,ntmps106;go_wp2_with fail
     refine (Ly _).mono ?_;rintro e w2 ⟨rfl,bw⟩;have bk:Sl (Below w.heap.size w w2):=⟨bi.ah.trans (bw.ah.mono bi.ah.size)⟩;have nj:Sl (w2.heap[w.heap.size]? = some (.cells (zV false (k:Int) false a b c d s) 61 (0,0))):=⟨ay nh.ah bw.ah⟩;clear bw bi nh bA Ly p0 p1 p2 p3 p4 p5 p6 p7;obtain ⟨c0,c1,c2,c3,c4,c5,c6,c7⟩:=bG nj.ah;obtain ⟨w3,cH⟩:=zX (w2.alloc (.cells #[.int .u8 (k:Int)] 5));have cI:Sl (Below w2.heap.size w2 w3):=⟨by rw [← cH];exact (dW _ _).alloc (aY _) _⟩;have bv:Sl (Below w.heap.size w w3):=⟨bk.ah.trans (cI.ah.mono bk.ah.size)⟩;have wN:Sl (w3.heap[w.heap.size]? = some (.cells (zV false (k:Int) false a b c d s) 61 (0,0))):=⟨ay nj.ah cI.ah⟩;obtain ⟨d0,d1,d2,d3,d4,d5,d6,d7⟩:=bG wN.ah;have eh:(convert 49 9 (.slice (some ⟨w2.heap.size,0,none⟩) 1 1)).run prog w3=.ok (.string H1) w3:=by
      rw [← N1,← cH];exact (gu w2 [k]).JW rfl
     have hs6:=bS.ah;go_wp2;go_ret;refine ⟨?_,bv⟩;rw [tJ (⟨false,(k:Int),false,[a,b,c,d],bytes s⟩:Fr) (L:=L) rfl hJ.ah (by rw [au];exact nu.ah)]
     show Ending.returned (.string (H1++LS++s))=.returned (.string (aF (([k]++L)++bytes s)))
     rw [← N1,← YQ.ah,kZ,kZ,bT]
end
end Go.Proofs.YtlahonjmfecikaaGreatDoor.gK
namespace Go.Proofs.YtlahonjmfecikaaGreatDoor.jS
open Go.RowKit aO aC aV jF gK
section
variable {w0:World} {b:Nat} {af:Bool} {ae:Int} {v:Value}
theorem wT {W0:World} {part:List Nat} (hs:dG w0 W0 b af ae part 0 v) (hg:bD w0) (a:Option Addr) (L cap:Nat) (bs:List Nat) (hu:bJ W0 (.slice a L cap) bs) (Lz:aU 256 part) (py:aU 256 bs) (hl:part.length+bs.length≤100000) (kw:ae≤9223372036854775807) (gs:List Fr) (e lf:Nat) (dx:all (part++bs) af ae=(gs,e,lf)) :
 Calls prog 51 #[.pointer (some ⟨b,0,none⟩),.slice a L cap] W0 fun x w'=>∃ vf v',x=.returned (.tuple #[vf,.int .i64 (e:Int)])∧Sl (gZ w' W0.heap.size vf gs)∧Sl (dG w0 w' b af ae ((part++bs).drop ((part++bs).length-lf)) e v')∧Sl (mO W0 w' b (ob v b))∧Sl (v'.ownBlock=v.ownBlock∨∀ g,v'.ownBlock=some g→W0.heap.size≤g):=by
 have HG:=Sl.mk hg;obtain ⟨T,hT⟩:=zX (part++bs);have LA:Sl (aU 256 T):=⟨by rw [← hT];exact Lz.append py⟩;have Wg:Sl (T.length≤100000):=⟨by rw [← hT,jB];exact hl⟩;have gE:Sl (all T af ae=(gs,e,lf)):=⟨by rw [← hT];exact dx⟩;have HW:=Sl.mk hs.L.size;have N3:=Sl.mk kw;obtain ⟨w1,bA⟩:=zX (W0.alloc (.cells #[.pointer (some ⟨b,0,none⟩)] 77));have bi:Sl (Below W0.heap.size W0 w1):=⟨by rw [← bA];exact (dW _ _).alloc (aY _) _⟩;have Hi:Sl (w1.heap[W0.heap.size]? = some (.cells #[.pointer (some ⟨b,0,none⟩)] 77 (0,0))):=⟨by rw [← bA];exact aI _ _ _ rfl⟩;have kz:Sl (dG w0 w1 b af ae part 0 v):=⟨hs.below bi.ah⟩;have HU1:Sl (bJ w1 (.slice a L cap) bs):=⟨hu.below (aY _) bi.ah⟩;have lL:Sl (W0.heap.size≠b):=⟨by have:=hs.lt;omega⟩;have YU:w1.cell? ⟨b,3,none⟩=some (.int .i64 0):=kz.ah.cells.2.2.2;have qr:=cell_of_one Hi.ah;rw [hT];clear hs hg hu Lz py dx kw;go_enter func51,ntmps51;go_upto_region 3 with fail
 obtain ⟨Rw,u1⟩:=zX w1.drew;have HB:Below w1.heap.size w1 Rw:=by rw [← u1];exact (dW _ _).drew
 have al:Rw.heap[W0.heap.size]? = some (.cells #[.pointer (some ⟨b,0,none⟩)] 77 (0,0)):=ay Hi.ah HB;refine Ai ?_;refine Ah (S:=fun V=>V.heap[W0.heap.size]? = some (.cells #[.pointer (some ⟨b,0,none⟩)] 77 (0,0))) (by kernel_rfl) ?_;change wpAnyH _ _ _ _ _ _ _ _ w1.drew;rw [u1];clear u1;have mA:=kz.ah.below HB;obtain ⟨v1,w2,fX,ju,gA,xS⟩:=Ss mA.O (HU1.ah.below (aY _) HB) (by omega) mA.L.size;have DM:=jA mA.O mA.X (by decide);have Fu:=jA mA.O al (by decide);have cJ:w2.heap[W0.heap.size]? = some (.cells #[.pointer (some ⟨b,0,none⟩)] 77 (0,0)):=by rw [gA.block W0.heap.size (zl al) (fun e=>Fu e.symm)];exact al
 have bw:w2.heap[b]? = some (.cells #[.bool af,.int .i64 ae,v,.int .i64 ((0:Nat):Int)] 119 (0,0)):=by rw [gA.block b mA.lt (fun e=>DM e.symm)];exact mA.X
 rw [hT] at ju;obtain ⟨a1,c1,rfl⟩:∃ a1 c1,v1=.slice a1 T.length c1:=by
  rcases ju.2 with ⟨rfl,hz⟩ | ⟨g,cap,fI,rfl,_⟩
  ·rw [hz];exact ⟨_,_,rfl⟩
  ·exact ⟨_,_,rfl⟩
 obtain ⟨TL,Ha⟩:=zX T.length;rw [Ha] at ju fX xS;obtain ⟨da,HT3⟩:=Ig (T:=T) mA gA (by rw [Ha];exact ju);obtain ⟨w3,cH⟩:=zX (w2.setCell ⟨b,2,none⟩ (.slice a1 TL c1));have eW:W0.heap.size≠b:=lL.ah;have N4:w3.heap[W0.heap.size]? = some (.cells #[.pointer (some ⟨b,0,none⟩)] 77 (0,0)):=by rw [← cH,pI _ _ _ _ eW];exact cJ
 have oE:w2.frozen? ⟨b,2,none⟩=false:=kT _ _ _ _ _ bw;have Bp:w2.cell? ⟨b,2,none⟩=some v:=by rw [jg _ _ _ _ _ _ bw];rfl
 have hpR:Rw.cell? ⟨b,2,none⟩=some v:=mA.cells.2.2.1;rw [cH] at da HT3;refine zT 0 (some 20) (.load 77 (.tmp 2)) _ al ?_ (hy:=fun o' ho W hS=>by have kx:=cell_of_one hS;simp only [execOp,ho];go_simp;try rfl);simp only [zA,zB,zS];refine zT 1 (some 21) (.load 77 (.tmp 2)) _ al ?_ (hy:=fun o' ho W hS=>by have kx:=cell_of_one hS;simp only [execOp,ho];go_simp;try rfl);simp only [zA,zB,zS];refine zT 2 (some 22) (.nilCheck (.tmp 21)) _ al ?_;simp only [zA,zB,zS];refine zT 3 (some 23) (.fieldAddr 119 (.tmp 22) 2) _ al ?_;simp only [zA,zB,zS];refine zT 5 (some 25) (.move (.tmp 1)) _ al ?_;simp only [zA,zB,zS];refine zR 4 (some 24) (.load 49 (.tmp 23)) 49 (v) Rw al ?_ (hy:=fun o' ho _=>by simp only [execOp,ho];go_simp;try rfl);simp only [zA,zB,zS];refine zR 6 (some 26) (.call {callee:=.builtin .append,args:=#[.tmp 24,.tmp 25],argTypes:=#[49,49]}) 49 (.slice a1 TL c1) w2 cJ ?_ (hy:=fun o' ho ht=>wR ho ht (by rfl) (by rfl) fX);simp only [zA,zB,zS];refine zT 7 (some 27) (.nilCheck (.tmp 20)) _ cJ ?_;simp only [zA,zB,zS];refine zT 8 (some 28) (.fieldAddr 119 (.tmp 27) 2) _ cJ ?_;simp only [zA,zB,zS];refine zW 9 none (.store 49 (.tmp 28) (.tmp 26)) 0 w3 N4 ?_ (hy:=fun o' ho ht=>by rw [← cH];simp only [execOp,ho];go_simp;try rfl);simp only [Act.put];refine zE (by kernel_rfl) ?_;have o6:=Sl.mk Ha;have YV:Sl (W0.heap.size≤w3.heap.size):=⟨by have:=HT3.size;have:=HB.size;have:=bi.ah.size;omega⟩;have YW:=Sl.mk da;have YX:=Sl.mk N4;have YY:Sl (mO W0 w3 b (ob v b)):=⟨(mO.wI (bi.ah.trans (HB.mono bi.ah.size))).trans HT3⟩;have HOB:Sl ((Value.slice a1 TL c1).ownBlock=v.ownBlock∨∀ g,(Value.slice a1 TL c1).ownBlock=some g→W0.heap.size≤g):=⟨by
  rcases xS with h | h
  ·exact .inl h
  ·exact .inr (fun g hg=>by rw [h] at hg;injection hg with hg;have:=bi.ah.size;have:=HB.size;omega)⟩
 clear HB al mA fX ju gA xS DM Fu cJ bw da HT3 cH eW N4 oE Bp hpR kz HU1 Hi bi qr YU Ha;have cR:(w3.alloc (.cells #[.int .i64 0] 3)).heap[w3.heap.size]? = some (.cells #[.int .i64 ((0:Nat):Int)] 3 (0,0)):=aI _ _ _ rfl;have br:Below w3.heap.size w3 (w3.alloc (.cells #[.int .i64 0] 3)):=(dW _ _).alloc (aY _) _;have gr:=Sl.mk (YW.ah.below br);have HC4:=Sl.mk (ay YX.ah br);have HT4:=Sl.mk (pX YY.ah br);have YZ:=Sl.mk cR;obtain ⟨f0,n0,k0,Wk,As,hP0⟩:=Sr af ae LA.ah;have CN:=Ie gr.ah HG.ah W0.heap.size w3.heap.size 0 f0 n0 k0 HC4.ah cR (ku _) LA.ah Wg.ah N3.ah Wk (by omega);have Y0:=Sl.mk hP0;obtain ⟨rf,ro,rm,ka,kb,kc,kd,rd,cK⟩:=jT f0;have HCV:Sl ((cv f0).toArray=(zV rf ro rm ka kb kc kd rd)):=⟨by have h:=cK;rw [F9] at h;injection h⟩;rw [cK] at CN;clear cR br Wk As hP0 cK YW YX YY hl bA;go_wp2_with fail
 refine CN.mono ?_;rintro e5 w5 ⟨rfl,kg,gw⟩;clear CN;obtain ⟨w6,iB⟩:=zX ((w5.alloc (.cells zZ 61)).setRow w5.heap.size (zV rf ro rm ka kb kc kd rd));have HI:=aW (cs:=(zV rf ro rm ka kb kc kd rd)) rfl;have Y1:Sl (w5.heap[w3.heap.size]? = some (.cells #[.int .i64 ((n0:Nat):Int)] 3 (0,0))):=⟨by have h:=kg.ah;rw [vT] at h;exact h⟩;have Y2:W0.heap.size≤w3.heap.size:=YV.ah;have lO:Sl (LR w0 W0 b W0.heap.size w3.heap.size w5.heap.size (w5.heap.size+1) af ae T v (.slice a1 TL c1) w6 (.slice none 0 0) [] f0 k0 n0):=⟨by rw [← iB,← HCV.ah];exact LR.start gr.ah HC4.ah YZ.ah Y1.ah Y2 HT4.ah gw.ah Y0.ah HW.ah⟩;clear gr HC4 HT4 YZ kg Y1 gw Y0 HCV Y2;go_wp2_with (refine fG rfl 61 (.tmp 9) (.tmp 33) rfl w5.heap.size (zV rf ro rm ka kb kc kd rd) rfl rfl 61 zZ (dQ w5 _) HI rfl (aZ _ _ _ _ _ _ _ _) ?_)
 obtain ⟨q,hq⟩:=zX w5.heap.size;obtain ⟨RR,Wm⟩:=zX w3.heap.size;rw [hq,Wm] at lO ⊢;clear hq Wm HI;go_loopw [8,10] (fun u0 x wr=>∃ (k:Nat) (fs:List Fr) (f:Fr) (r:Nat) (u:Value),u=u0∧x=.int .i64 (k:Int)∧Sl (LR w0 W0 b W0.heap.size RR q (q+1) af ae T v (.slice a1 TL c1) wr u fs f k r)) (fun u x _=>if intOf x=0 then TL+1-Ox u else 0)
 case atStart=>exact ⟨k0,[],f0,n0,_,rfl,rfl,lO⟩
 case round =>
  obtain ⟨k,fs,f,r,u,rfl,rfl,HL⟩:=hrel;by_cases hk:k=0
  ·subst hk
   have hq8:(((0:Nat):Int)==0)=true:=rfl;obtain ⟨f',n',k',tR,hn',hP'⟩:=Vk LA.ah HL.ah.hP;obtain ⟨rf,ro,rm,ka,kb,kc,kd,rd,cK⟩:=jT f;have eh:(cv f).toArray=(zV rf ro rm ka kb kc kd rd):=by have h:=cK;rw [F9] at h;injection h
   have Y3:Sl (wr.heap[q]? = some (.cells (zV rf ro rm ka kb kc kd rd) 61 (0,0))):=⟨by rw [← eh];exact HL.ah.hQ⟩;obtain ⟨e0,e1,e2,e3,e4,e5,e6,e7⟩:=oZ Y3.ah;have HP':=Sl.mk hP';have mT:=Sl.mk (Xx HL.ah.hP);have bi:Below wr.heap.size wr (wr.alloc (.cells (zV rf ro rm ka kb kc kd rd) 61)):=(dW _ _).alloc (aY _) _;have r9:=Sl.mk (HL.ah.hO.below bi);have ir:Sl (aS (wr.alloc (.cells (zV rf ro rm ka kb kc kd rd) 61)) (.slice (some ⟨wr.heap.size,0,none⟩) 1 1) [f]):=⟨mP (aI _ _ _ rfl) eh.symm⟩;have lw:Sl (q+1≤(wr.alloc (.cells (zV rf ro rm ka kb kc kd rd) 61)).heap.size):=⟨jd HL.ah.hN bi.size⟩;have p9:=Sl.mk bi;have gF:Sl (fs.length+[f].length≤1000000):=⟨by have h1:=mT.ah.1;have h2:=Wg.ah;show fs.length+1≤_;omega⟩;clear bi hP' cK;go_wp2_with (at_builtin;refine nK rfl (.tmp 42) (.tmp 44) rfl rfl (q+1) u (.slice (some ⟨wr.heap.size,0,none⟩) 1 1) fs [f] rfl r9.ah rfl ir.ah gF.ah lw.ah ?_)
   clear e0 e1 e2 e3 e4 e5 e6 e7;intro u' w7 pg gH;have Od:LR w0 W0 b W0.heap.size RR q (q+1) af ae T v (.slice a1 TL c1) (wr.alloc (.cells (zV rf ro rm ka kb kc kd rd) 61)) u fs f 0 r:=LR.below HL.ah p9.ah;obtain ⟨S7,C7,R7,Q7,N7,T7⟩:=Od.told HW.ah gH.ah;have CN:=Ie S7 HG.ah W0.heap.size RR r f' n' k' C7 R7 (by have:=mT.ah.2;omega) LA.ah Wg.ah N3.ah tR hn';have mB:=Sl.mk S7;have sd:=Sl.mk C7;have HR7:=Sl.mk R7;have nB:=Sl.mk Q7;have Wo:=Sl.mk N7;have HT7:=Sl.mk T7;have HK:=Sl.mk HL.ah.hK;have hlu:Ox u=fs.length:=HL.ah.hO.len;have ajU:Ox u'=fs.length+1:=by have:=pg.ah.len;rw [jB] at this;exact this
   obtain ⟨rf2,ro2,rm2,ka2,kb2,kc2,kd2,rd2,Br⟩:=jT f';have Y6:Sl ((cv f').toArray=(zV rf2 ro2 rm2 ka2 kb2 kc2 kd2 rd2)):=⟨by have h:=Br;rw [F9] at h;injection h⟩;rw [Br] at CN;clear S7 C7 R7 Q7 N7 T7 tR hn' Br HL Od p9 r9 ir lw gF gH Y3;go_wp2_with fail
   refine CN.mono ?_;rintro e8 w8 ⟨rfl,HR8,it⟩;clear CN;have Y7:RR≠q:=fun e=>by
    have h1:=HR7.ah;rw [e,nB.ah] at h1;injection h1 with h;injection h with _ h;exact absurd h (by decide)
   have HQ8:Sl (w8.heap[q]? = some (.cells (zV rf ro rm ka kb kc kd rd) 61 (0,0))):=⟨by rw [it.ah.block _ (zl nB.ah) (fun e=>Y7 (by injection e with e;exact e.symm)),← eh];exact nB.ah⟩;have HI:=aW (cs:=(zV rf2 ro2 rm2 ka2 kb2 kc2 kd2 rd2)) rfl;have HL9:Sl (LR w0 W0 b W0.heap.size RR q (q+1) af ae T v (.slice a1 TL c1) (w8.setRow q (zV rf2 ro2 rm2 ka2 kb2 kc2 kd2 rd2)) u' (fs++[f]) f' k' (r+n')):=⟨by rw [← Y6.ah];exact LR.next mB.ah sd.ah HR8.ah HR7.ah nB.ah pg.ah Wo.ah HK.ah HT7.ah it.ah HP'.ah HW.ah⟩;clear mB sd HR7 nB Wo HT7 HK HR8 it HP' pg Y6 eh;go_wp2_with (refine fG rfl 61 (.tmp 9) (.tmp 40) rfl q (zV rf2 ro2 rm2 ka2 kb2 kc2 kd2 rd2) rfl rfl 61 (zV rf ro rm ka kb kc kd rd) HQ8.ah HI rfl (aZ _ _ _ _ _ _ _ _) ?_)
   refine ⟨⟨k',fs++[f],f',r+n',u',rfl,rfl,HL9⟩,?_⟩;have:=mT.ah.1;have h2:=o6.ah
   show (if ((k':Nat):Int)=0 then TL+1-Ox u' else 0)<(if ((0:Nat):Int)=0 then TL+1-Ox u else 0)
   rw [if_pos (show ((0:Nat):Int)=0 from rfl)];split<;>omega
  ·have hq8:((k:Int)==0)=false:=by simp;omega
   by_cases h9:k=90
   ·subst h9
    have xV:(((90:Nat):Int) != 90)=false:=rfl;obtain ⟨ha,hrT⟩:=Vl LA.ah HL.ah.hP;rw [gE.ah] at ha;injection ha with ha1 ha
    injection ha with Bs Ow
    subst ha1 Bs Ow;have eK:=Sl.mk HL.ah.hS;have lx:=Sl.mk HL.ah.hC;have ew:=Sl.mk HL.ah.hR;have Wt:=Sl.mk HL.ah.hO;have x8:=Sl.mk HL.ah.hT;have DP:=Sl.mk HL.ah.hK;have u2:Sl (W0.heap.size≤wr.heap.size):=⟨HL.ah.hT.size⟩;have pt:=cell_of_one ew.ah;by_cases h0:r=0
    ·subst h0
     have nf:(((0:Nat):Int)>0)=False:=dR (by omega);clear HL Wg LA gE HG N3;go_wp2;go_ret2;refine ⟨_,_,rfl,⟨wS Wt.ah (by have:=DP.ah;omega)⟩,⟨?_⟩,x8,HOB⟩;rw [show T.length-(T.length-0)=0 by omega,Af];exact eK.ah
    ·have nf:((r:Int)>0)=True:=eq_true (by omega)
     rw [o6.ah] at hrT;clear HL gE HG N3;go_upto_region 15 with fail
     obtain ⟨Rw,u1⟩:=zX wr.drew;have HB:Below wr.heap.size wr Rw:=by rw [← u1];exact (dW _ _).drew
     have al:Rw.heap[W0.heap.size]? = some (.cells #[.pointer (some ⟨b,0,none⟩)] 77 (0,0))∧Rw.heap[RR]? = some (.cells #[.int .i64 (r:Int)] 3 (0,0)):=⟨ay lx.ah HB,ay ew.ah HB⟩;refine Ai ?_;refine Ah (S:=fun V=>V.heap[W0.heap.size]? = some (.cells #[.pointer (some ⟨b,0,none⟩)] 77 (0,0))∧V.heap[RR]? = some (.cells #[.int .i64 (r:Int)] 3 (0,0))) (by kernel_rfl) ?_;change wpAnyH _ _ _ _ _ _ _ _ wr.drew;rw [u1];clear u1;have mA:=eK.ah.below HB;obtain ⟨a',NO⟩:=zX (jy a1 r c1);have Bk:∀ (V:World) (ev:Operand→Value) (o:Oper) (x y:Operand),o.op=.slice 49 x (some y) none none→ev x=.slice a1 TL c1→ev y=.int .i64 (r:Int)→(execOp ev o).run prog V=.ok (.value (.slice a' (TL-r) (c1-r))) V:=fun V ev o x y ho hx hy=>by
      rw [← NO];exact vk ho hx hy hrT
     have j8:bJ Rw (.slice a' (TL-r) (c1-r)) (T.drop r):=by rw [← NO];exact bJ.from mA.src hrT o6.ah
     obtain ⟨v2,w2,fX,ju,gA,xS⟩:=Ss (Z:=Rw) (base:=w0.heap.size) (v:=.slice none 0 0) (m:=[]) (US _ _ _ _) j8 (by have:=Wg.ah;rw [iP];simp;omega) mA.L.size;rw [List.nil_append] at ju;obtain ⟨a2,c2,rfl⟩:∃ a2 c2,v2=.slice a2 (T.drop r).length c2:=by
      rcases ju.2 with ⟨rfl,hz⟩ | ⟨g,cap,fI,rfl,_⟩
      ·rw [hz];exact ⟨_,_,rfl⟩
      ·exact ⟨_,_,rfl⟩
     obtain ⟨DL,hDL⟩:=zX ((T.drop r).length);rw [hDL] at ju fX xS;obtain ⟨da,dt⟩:=Sv (T:=T.drop r) mA gA (by rw [hDL];exact ju);have bw:w2.heap[b]? = some (.cells #[.bool af,.int .i64 ae,.slice a1 TL c1,.int .i64 ((0:Nat):Int)] 119 (0,0)):=by rw [gA.block b mA.lt (by simp [Value.ownBlock])];exact mA.X
     have cJ:w2.heap[W0.heap.size]? = some (.cells #[.pointer (some ⟨b,0,none⟩)] 77 (0,0))∧w2.heap[RR]? = some (.cells #[.int .i64 (r:Int)] 3 (0,0)):=⟨by rw [gA.block W0.heap.size (zl al.1) (by simp [Value.ownBlock])];exact al.1,by rw [gA.block RR (zl al.2) (by simp [Value.ownBlock])];exact al.2⟩;obtain ⟨w4,cS⟩:=zX (w2.setCell ⟨b,2,none⟩ (.slice a2 DL c2));have yb:W0.heap.size≠b:=lL.ah;have Y8:RR≠b:=fun e=>by
      have h1:=al.2;rw [e,mA.X] at h1;injection h1 with h;injection h with _ h;exact absurd h (by decide)
     have gr:w4.heap[W0.heap.size]? = some (.cells #[.pointer (some ⟨b,0,none⟩)] 77 (0,0))∧w4.heap[RR]? = some (.cells #[.int .i64 (r:Int)] 3 (0,0)):=⟨by rw [← cS,pI _ _ _ _ yb];exact cJ.1,by rw [← cS,pI _ _ _ _ Y8];exact cJ.2⟩;have oE:w2.frozen? ⟨b,2,none⟩=false:=kT _ _ _ _ _ bw;have Bp:w2.cell? ⟨b,2,none⟩=some (.slice a1 TL c1):=by rw [jg _ _ _ _ _ _ bw];rfl
     have hpR:Rw.cell? ⟨b,2,none⟩=some (.slice a1 TL c1):=mA.cells.2.2.1;rw [cS] at da dt;refine zT 0 (some 59) (.load 77 (.tmp 2)) _ al ?_ (hy:=fun o' ho W hS=>by have kx:=cell_of_one hS.1;simp only [execOp,ho];go_simp;try rfl);simp only [zA,zB,zS];refine zT 1 (some 60) (.load 77 (.tmp 2)) _ al ?_ (hy:=fun o' ho W hS=>by have kx:=cell_of_one hS.1;simp only [execOp,ho];go_simp;try rfl);simp only [zA,zB,zS];refine zT 2 (some 61) (.nilCheck (.tmp 60)) _ al ?_;simp only [zA,zB,zS];refine zT 3 (some 62) (.fieldAddr 119 (.tmp 61) 2) _ al ?_;simp only [zA,zB,zS];refine zT 5 (some 64) (.load 3 (.tmp 6)) _ al ?_ (hy:=fun o' ho W hS=>by have kx:=cell_of_one hS.2;simp only [execOp,ho];go_simp;try rfl);simp only [zA,zB,zS];refine zR 4 (some 63) (.load 49 (.tmp 62)) 49 (.slice a1 TL c1) Rw al ?_ (hy:=fun o' ho _=>by simp only [execOp,ho];go_simp;try rfl);simp only [zA,zB,zS];refine zT 6 (some 65) (.slice 49 (.tmp 63) (some (.tmp 64)) none none) ((.slice a' (TL-r) (c1-r))) al ?_ (hy:=fun o' ho W hS=>Bk W _ o' _ _ ho (by rfl) (by rfl));simp only [zA,zB,zS];refine zR 7 (some 66) (.call {callee:=.builtin .append,args:=#[.const (.slice none 0 0),.tmp 65],argTypes:=#[49,49]}) 49 (.slice a2 DL c2) w2 cJ ?_ (hy:=fun o' ho ht=>wR ho ht (by rfl) (by rfl) fX);simp only [zA,zB,zS];refine zT 8 (some 67) (.nilCheck (.tmp 59)) _ cJ ?_;simp only [zA,zB,zS];refine zT 9 (some 68) (.fieldAddr 119 (.tmp 67) 2) _ cJ ?_;simp only [zA,zB,zS];refine zW 10 none (.store 49 (.tmp 68) (.tmp 66)) 0 w4 gr ?_ (hy:=fun o' ho ht=>by rw [← cS];simp only [execOp,ho];go_simp;try rfl);simp only [Act.put];refine zE (by kernel_rfl) ?_;have OF:=Sl.mk da;have Pa:Sl (mO W0 w4 b (ob v b)):=⟨Ih (pX x8.ah HB) dt⟩;have Pb:Sl (gZ w4 (q+1) u gs):=⟨(Wt.ah.below HB).kept dt (.inr ((Wt.ah.below HB).kind mA.X (by decide)))⟩;have aeu:Sl ((Value.slice a2 DL c2).ownBlock=v.ownBlock∨∀ g,(Value.slice a2 DL c2).ownBlock=some g→W0.heap.size≤g):=⟨by
      rcases xS with h | h
      ·exact .inr (fun g hg=>by rw [h] at hg;cases hg)
      ·exact .inr (fun g hg=>by rw [h] at hg;injection hg with hg;have:=u2.ah;have:=HB.size;omega)⟩
     clear HB al mA NO Bk j8 fX ju gA xS bw cJ da dt cS yb Y8 gr oE Bp hpR;go_wp2;go_ret2;refine ⟨_,_,rfl,⟨wS Pb.ah (by have:=DP.ah;omega)⟩,⟨?_⟩,Pa,aeu⟩;rw [show T.length-(T.length-r)=r by have:=o6.ah;omega];exact OF.ah
   ·have xV:((k:Int) != 90)=true:=by simp;omega
    have ha:=Xw LA.ah HL.ah.hP hk h9;rw [gE.ah] at ha;injection ha with ha1 ha
    injection ha with Bs Ow
    subst ha1 Bs Ow;have eK:=Sl.mk HL.ah.hS;have lx:=Sl.mk HL.ah.hC;have ew:=Sl.mk HL.ah.hR;have Wt:=Sl.mk HL.ah.hO;have x8:=Sl.mk HL.ah.hT;have DP:=Sl.mk HL.ah.hK;have u2:Sl (W0.heap.size≤wr.heap.size):=⟨HL.ah.hT.size⟩;clear HL Wg LA gE HG N3;go_upto_region 12 with fail
    obtain ⟨Rw,u1⟩:=zX wr.drew;have HB:Below wr.heap.size wr Rw:=by rw [← u1];exact (dW _ _).drew
    have al:Rw.heap[W0.heap.size]? = some (.cells #[.pointer (some ⟨b,0,none⟩)] 77 (0,0)):=ay lx.ah HB;refine Ai ?_;refine Ah (S:=fun V=>V.heap[W0.heap.size]? = some (.cells #[.pointer (some ⟨b,0,none⟩)] 77 (0,0))) (by kernel_rfl) ?_;change wpAnyH _ _ _ _ _ _ _ _ wr.drew;rw [u1];clear u1;have mA:=eK.ah.below HB;obtain ⟨da,dt,Bp,oE⟩:=Su mA e;obtain ⟨w2,cE⟩:=zX (Rw.setCell ⟨b,3,none⟩ (.int .i64 (e:Int)));rw [cE] at da dt Bp oE;obtain ⟨w4,cS⟩:=zX (w2.setCell ⟨b,2,none⟩ (.slice none 0 0));rw [cS] at da dt;have yb:W0.heap.size≠b:=lL.ah;have cJ:w2.heap[W0.heap.size]? = some (.cells #[.pointer (some ⟨b,0,none⟩)] 77 (0,0)):=by rw [← cE,pI _ _ _ _ yb];exact al
    have gr:w4.heap[W0.heap.size]? = some (.cells #[.pointer (some ⟨b,0,none⟩)] 77 (0,0)):=by rw [← cS,pI _ _ _ _ yb];exact cJ
    have hp0:Rw.cell? ⟨b,3,none⟩=some (.int .i64 ((0:Nat):Int)):=mA.cells.2.2.2;have hf0:=mA.fF 3;refine zT 0 (some 48) (.load 77 (.tmp 2)) _ al ?_ (hy:=fun o' ho W hS=>by have kx:=cell_of_one hS;simp only [execOp,ho];go_simp;try rfl);simp only [zA,zB,zS];refine zT 1 (some 49) (.load 77 (.tmp 2)) _ al ?_ (hy:=fun o' ho W hS=>by have kx:=cell_of_one hS;simp only [execOp,ho];go_simp;try rfl);simp only [zA,zB,zS];refine zT 2 (some 50) (.move (.tmp 10)) _ al ?_;simp only [zA,zB,zS];refine zT 3 (some 51) (.nilCheck (.tmp 48)) _ al ?_;simp only [zA,zB,zS];refine zT 4 (some 52) (.fieldAddr 119 (.tmp 51) 3) _ al ?_;simp only [zA,zB,zS];refine zW 5 none (.store 31 (.tmp 52) (.tmp 50)) 0 w2 cJ ?_ (hy:=fun o' ho ht=>by rw [← cE];simp only [execOp,ho];go_simp;try rfl);simp only [Act.put];refine zT 6 (some 53) (.nilCheck (.tmp 49)) _ cJ ?_;simp only [zA,zB,zS];refine zT 7 (some 54) (.fieldAddr 119 (.tmp 53) 2) _ cJ ?_;simp only [zA,zB,zS];refine zW 8 none (.store 49 (.tmp 54) (.const (.slice none 0 0))) 0 w4 gr ?_ (hy:=fun o' ho ht=>by rw [← cS];simp only [execOp,ho];go_simp;try rfl);simp only [Act.put];refine zE (by kernel_rfl) ?_;have OF:=Sl.mk da;have Pa:Sl (mO W0 w4 b (ob v b)):=⟨Ih (pX x8.ah HB) dt⟩;have Pb:Sl (gZ w4 (q+1) u gs):=⟨(Wt.ah.below HB).kept dt (.inr ((Wt.ah.below HB).kind mA.X (by decide)))⟩;clear HB al mA da dt Bp oE cE cS yb cJ gr hp0 hf0;go_wp2;go_ret2;refine ⟨_,.slice none 0 0,rfl,⟨wS Pb.ah (by have:=DP.ah;omega)⟩,⟨?_⟩,Pa,⟨.inr (fun g hg=>by cases hg)⟩⟩;rw [Nat.sub_zero,List.drop_length];exact OF.ah
open Go.RowKit aO aC aV jF gK
theorem Vm {W:World} {part:List Nat} {bj:Nat} (h:dG w0 W b af ae part bj v) (n:Nat) (hn:part.length=n) :
 Calls prog 67 #[.pointer (some ⟨b,0,none⟩)] W fun e w'=>e=.returned (.int .i64 (n:Int))∧W=w':=by subst hn;exact BI h
end
end Go.Proofs.YtlahonjmfecikaaGreatDoor.jS
namespace aV
open aO aC
theorem Ik (af:Bool) (ae:Int):∀ (k:Nat) (s:List Nat),s.length≤k→(∀ y∈s,y<256)→(all s af ae).2.1≠0→(all s af ae).2.2=0
 | 0,s,h,hs,h0=>by
   obtain rfl:s=[]:=yA (by omega);exact absurd rfl h0
 | k+1,s,h,hs,h0=>by
   rw [dX s af ae hs] at h0 ⊢;by_cases h1:(one s af ae).2.2=90
   ·rw [if_pos h1] at h0;exact absurd rfl h0
   rw [if_neg h1] at h0 ⊢;by_cases h2:(one s af ae).2.2≠0
   ·rw [if_pos h2]
   rw [if_neg h2] at h0 ⊢;have h3:=qH hs (by omega:(one s af ae).2.2=0);exact Ik af ae k (s.drop (one s af ae).2.1) (by rw [iP];omega) (fun y hy=>hs y (Ef hy)) h0
def Y9 (fs:List Fr):Nat:=(fs.map fun f=>(aT f).length).sum
theorem AA (af:Bool) (ae:Int):∀ (k:Nat) (s:List Nat),s.length≤k→(∀ y∈s,y<256) →
 (∀ f∈(all s af ae).1,dF f=true∧f.key.length=4∧(∀ y∈f.key,y<256)∧(∀ y∈f.data,y<256)∧(f.data.length:Int)≤ae)∧Y9 (all s af ae).1≤s.length∧2*(all s af ae).1.length≤s.length
 | 0,s,h,hs=>by
   obtain rfl:s=[]:=yA (by omega);exact ⟨fun f hf=>(by cases hf),aY _,aY _⟩
 | k+1,s,h,hs=>by
   by_cases h1:(one s af ae).2.2=90
   ·rw [show all s af ae=([],0,s.length) by rw [dX s af ae hs,if_pos h1]]
    exact ⟨fun f hf=>(by cases hf),ku _,ku _⟩
   by_cases h2:(one s af ae).2.2≠0
   ·rw [show all s af ae=([],(one s af ae).2.2,0) by rw [dX s af ae hs,if_neg h1,if_pos h2]]
    exact ⟨fun f hf=>(by cases hf),ku _,ku _⟩
   obtain ⟨⟨f,n,c⟩,ho⟩:∃ r,one s af ae=r:=⟨_,rfl⟩;have hc:c=0:=by rw [ho] at h2;simp only at h2;omega
   subst hc;obtain ⟨h3,h4,h5,h6,h7,h8,h9,gD⟩:=JQ hs (J9 ho).1;have e:all s af ae=(f :: (all (s.drop n) af ae).1,(all (s.drop n) af ae).2):=by rw [dX s af ae hs,if_neg h1,if_neg h2,ho]
   rw [e];obtain ⟨i1,i2,i3⟩:=AA af ae k (s.drop n) (by rw [iP];omega) (fun y hy=>hs y (Ef hy));rw [iP] at i2 i3;have hl:(aT f).length=n:=by rw [h4,kQ];omega
   refine ⟨fun g hg=>?_,?_,?_⟩
   ·rcases DN.1 hg with rfl | hg
    ·exact ⟨h3,h7,h8,h9,gD⟩
    ·exact i1 g hg
   ·show (aT f).length+Y9 (all (s.drop n) af ae).1≤_
    omega
   ·show 2*((all (s.drop n) af ae).1.length+1)≤_
    omega
end aV
namespace Go.Proofs.YtlahonjmfecikaaGreatDoor.jS
open Go.RowKit aO aC aV jF gK
theorem aS.XZ {W:World} {sb so n cap:Nat} {fs:List Fr} (h:aS W (.slice (some ⟨sb,so,none⟩) n cap) fs) (i:Nat) (hi:i<fs.length) {c0 c1 c2 c3 c4 c5 c6 c7:Value} (hc:(cv (fs.getD i dn)).toArray=#[c0,c1,c2,c3,c4,c5,c6,c7]) :
 W.cell? ⟨sb,so+i*8,none⟩=some c0∧W.cell? ⟨sb,so+i*8+1,none⟩=some c1∧W.cell? ⟨sb,so+i*8+2,none⟩=some c2∧W.cell? ⟨sb,so+i*8+3,none⟩=some c3∧W.cell? ⟨sb,so+i*8+4,none⟩=some c4∧W.cell? ⟨sb,so+i*8+5,none⟩=some c5∧W.cell? ⟨sb,so+i*8+6,none⟩=some c6∧W.cell? ⟨sb,so+i*8+7,none⟩=some c7:=by
 obtain ⟨a,fd,xz,xD,he,_,h3,h4⟩:=h;injection he with e1 e2 e3
 rw [h3 (by omega)] at e1;injection e1 with e1
 injection e1 with e4 e5
 subst e4 e5;have GF:cv (fs.getD i dn)=[c0,c1,c2,c3,c4,c5,c6,c7]:=by simpa using lG Array.toList hc
 have g:=h4 i hi;rw [GF] at g;exact ⟨g 0 (by decide),g 1 (by decide),g 2 (by decide),g 3 (by decide),g 4 (by decide),g 5 (by decide),g 6 (by decide),g 7 (by decide)⟩
theorem aS.cap {W:World} {a:Option Addr} {n cap:Nat} {fs:List Fr} (h:aS W (.slice a n cap) fs):n=fs.length∧(0<n→∃ sb so,a=some ⟨sb,so,none⟩):=by
 obtain ⟨a',fd,xz,xD,he,_,h3,_⟩:=h;injection he with e1 e2 e3
 refine ⟨e2,fun hp=>⟨xz,xD,?_⟩⟩;rw [e1];exact h3 (by omega)
theorem aS.slice {W:World} {v:Value} {fs:List Fr} (h:aS W v fs):∃ a c,v=.slice a fs.length c:=by
 obtain ⟨a,c,_,_,rfl,_⟩:=h;exact ⟨a,c,rfl⟩
open Go.RowKit aO aC aV jF gK
section
variable {w0 W W':World} {b:Nat} {af:Bool} {ae:Int} {part:List Nat} {bj:Nat} {v:Value}
end
end Go.Proofs.YtlahonjmfecikaaGreatDoor.jS
namespace Go.Proofs.YtlahonjmfecikaaGreatDoor.jS
open Go.RowKit Go.WideShapes Go.ChangeShapes aO aC aV jF gK
structure vw (f:Fr):Prop where
 k4:f.key.length=4
 ks:aU 256 f.key
 ds:aU 256 f.data
 dl:f.data.length≤maxLen
 op:-9223372036854775808≤f.op∧f.op≤9223372036854775807
theorem BM {f:Fr} (h:vw f):∃ aN op m,∃ ka kb kc kd:Nat,∃ s,f=(⟨aN,op,m,[ka,kb,kc,kd],bytes s⟩:Fr)∧(cv f).toArray=(zV aN op m ka kb kc kd s)∧aU 256 [ka,kb,kc,kd]:=by
 obtain ⟨aN,op,m,key,data⟩:=f;obtain ⟨h1,h2,h3,_,_⟩:=h
 match key,h1 with
 | [ka,kb,kc,kd],_=>exact ⟨aN,op,m,ka,kb,kc,kd,aF data,by rw [dm data h3],rfl,h2⟩
end Go.Proofs.YtlahonjmfecikaaGreatDoor.jS
namespace Go.Proofs.YtlahonjmfecikaaGreatDoor.oq
open Go.RowKit bg
section
variable {w w':World} {v:Value} {s:St} {bs:List Nat} {b:Nat} {o:Option St}
theorem wU (lo hi b:Nat) (w:World) :
 Calls prog 173 #[.agg #[.int .u8 lo,.int .u8 hi],.int .u8 b] w fun e w'=>e=.returned (.bool (decide (lo≤b∧b≤hi)))∧Below w.heap.size w w':=by
 go_enter func173,ntmps173;go_wp2;all_goals
  go_ret;refine ⟨bF ?_,(dW _ _).alloc (aY _) _⟩;simp [*]
open Go.RowKit bg
structure Row where
 lo:Nat
 hi:Nat
 dY:Nat
 u4:Nat
 u9:Nat
def Oy:List Row:=[⟨0,127,0,0,0⟩,⟨194,223,1,128,191⟩,⟨224,224,2,160,191⟩,⟨225,236,2,128,191⟩,⟨237,237,2,128,159⟩,⟨238,239,2,128,191⟩,⟨240,240,3,144,191⟩,⟨241,243,3,128,191⟩,⟨244,244,3,128,143⟩]
def Row.cells (r:Row):List Value:=[.int .u8 r.lo,.int .u8 r.hi,.int .i64 r.dY,.int .u8 r.u4,.int .u8 r.u9]
def nZ:List Value:=Oy.flatMap Row.cells
structure bD (w:World):Prop where
 t:w.rangeAt 3 0 nZ
def Ey (w:World) (b n0 n1 l:Nat) (gG:Bool):Prop:=w.heap[b]? = some (.cells #[.int .u8 n0,.int .u8 n1,.int .i64 l,.bool gG] 210 (0,0))
theorem bD.RE (h:bD w):w.cell? ⟨3,0,none⟩=some (.int .u8 ((0:Nat):Int)):=h.t 0 _ rfl
theorem bD.size (h:bD w):4≤w.heap.size:=by
 have h1:3<w.heap.size:=zk h.RE;omega
theorem bD.below {B:Nat} (h:bD w) (hb:Below B w w') (hB:4≤B):bD w' :=
 ⟨fun j v hv=>by rw [hb.cell (p:=⟨3,0+j,none⟩) (show 3<B by omega)];exact h.t j v hv⟩
def row (k:Nat):Row:=Oy.getD k ⟨0,0,0,0,0⟩
theorem tC (k:Nat) (hk:k<9) (W:World):(Instr.index 221 (.agg nZ.toArray) (.int .i64 (k:Int))).run prog W=.ok (.agg (row k).cells.toArray) W:=by
 match k,hk with
 | 0,_=>show _=_;kernel_rfl
 | 1,_=>show _=_;kernel_rfl
 | 2,_=>show _=_;kernel_rfl
 | 3,_=>show _=_;kernel_rfl
 | 4,_=>show _=_;kernel_rfl
 | 5,_=>show _=_;kernel_rfl
 | 6,_=>show _=_;kernel_rfl
 | 7,_=>show _=_;kernel_rfl
 | 8,_=>show _=_;kernel_rfl
theorem Kq (w:World) (r:Option Nat):w.grownBy w.drew r:=⟨rfl,rfl,rfl,aY _,fun _ _ _=>rfl⟩
def MJ (w:World) (b:Nat) (s:St) (gG:Bool):Prop:=∃ m0 m1,Ey w b m0 m1 s.1 gG∧(s.1≠0→m0=s.2.1∧m1=s.2.2)
def Ol (v k:Nat):Prop:=∀ j,j<k→¬ ((row j).lo≤v∧v≤(row j).hi)
theorem yH {v:Nat} (h:Ol v 9):lead v=none:=by
 have h0:=h 0 (by decide);have h1:=h 1 (by decide);have h2:=h 2 (by decide);have h3:=h 3 (by decide);have h4:=h 4 (by decide);have h5:=h 5 (by decide);have h6:=h 6 (by decide);have h7:=h 7 (by decide);have h8:=h 8 (by decide);simp only [row,Oy,Dx,List.getD_cons_succ] at h0 h1 h2 h3 h4 h5 h6 h7 h8;by_cases a:v<194
 ·exact yD (by omega) a
 ·exact Bg (by omega)
theorem Sz {v k lo hi dY u4 u9:Nat} (hk:k<9) (hr:(⟨lo,hi,dY,u4,u9⟩:Row)=row k) (h:lo≤v∧v≤hi):∃ t,lead v=some t∧dY=t.1∧(t.1≠0→u4=t.2.1∧u9=t.2.2):=by
 match k,hk with
 | 0,_=>injection hr with e1 e2 e3 e4 e5;subst e1 e2 e3 e4 e5;exact ⟨_,QS (by omega),rfl,fun h=>by simp [s0] at h⟩
 | 1,_=>injection hr with e1 e2 e3 e4 e5;subst e1 e2 e3 e4 e5;exact ⟨_,Ho (by omega) (by omega),rfl,fun _=>⟨rfl,rfl⟩⟩
 | 2,_=>injection hr with e1 e2 e3 e4 e5;subst e1 e2 e3 e4 e5;obtain rfl:v=224:=by omega
        exact ⟨_,rfl,rfl,fun _=>⟨rfl,rfl⟩⟩
 | 3,_=>injection hr with e1 e2 e3 e4 e5;subst e1 e2 e3 e4 e5;refine ⟨_,vU (by omega) (by omega),rfl,fun _=>?_⟩
        have:=sO v;have:=sQ v;constructor<;>simp only<;>omega
 | 4,_=>injection hr with e1 e2 e3 e4 e5;subst e1 e2 e3 e4 e5;obtain rfl:v=237:=by omega
        exact ⟨_,rfl,rfl,fun _=>⟨rfl,rfl⟩⟩
 | 5,_=>injection hr with e1 e2 e3 e4 e5;subst e1 e2 e3 e4 e5;refine ⟨_,vU (by omega) (by omega),rfl,fun _=>?_⟩
        have:=sO v;have:=sQ v;constructor<;>simp only<;>omega
 | 6,_=>injection hr with e1 e2 e3 e4 e5;subst e1 e2 e3 e4 e5;obtain rfl:v=240:=by omega
        exact ⟨_,rfl,rfl,fun _=>⟨rfl,rfl⟩⟩
 | 7,_=>injection hr with e1 e2 e3 e4 e5;subst e1 e2 e3 e4 e5;refine ⟨_,qX (by omega) (by omega),rfl,fun _=>?_⟩
        have:=sS v;have:=sU v;constructor<;>simp only<;>omega
 | 8,_=>injection hr with e1 e2 e3 e4 e5;subst e1 e2 e3 e4 e5;obtain rfl:v=244:=by omega
        exact ⟨_,rfl,rfl,fun _=>⟨rfl,rfl⟩⟩
structure BR (w:World) (v k:Nat) (wr:World):Prop where
 p:Ol v k
 b:Below w.heap.size w wr
inductive Vo (w:World) (b:Nat) (gG:Bool) (o:Option St):Ending→World→Prop where
 | yes (t:St) (w':World) (h:o=some t) (c:MJ w' b t gG) (g:w.grownBy w' (some b)):Vo w b gG o (.returned (.bool true)) w'
 | no (w':World) (h:o=none) (g:Below w.heap.size w w'):Vo w b gG o (.returned (.bool false)) w'
theorem Il (w2:World) (b n0 n1 l u4 u9 dY:Nat) (gG:Bool) (h:w2.heap[b]? = some (.cells #[.int .u8 n0,.int .u8 n1,.int .i64 l,.bool gG] 210 (0,0))) :
 Ey (((w2.setCell ⟨b,0,none⟩ (.int .u8 u4)).setCell ⟨b,1,none⟩ (.int .u8 u9)).setCell ⟨b,2,none⟩ (.int .i64 dY)).drew b u4 u9 dY gG:=by
 show (((w2.setCell ⟨b,0,none⟩ (.int .u8 u4)).setCell ⟨b,1,none⟩ (.int .u8 u9)).setCell ⟨b,2,none⟩ (.int .i64 dY)).heap[b]? = _
 rw [lF _ _ _ _ _ _ (lF _ _ _ _ _ _ (lF _ _ _ _ _ _ h))];rfl
theorem Oz (b n0 n1 l v:Nat) (gG:Bool) (w:World) (hg:bD w) (hc:Ey w b n0 n1 l gG) :
 Calls prog 172 #[.pointer (some ⟨b,0,none⟩),.int .u8 v] w (Vo w b gG (lead v)):=by
 have aev:Sl ((prog.info? 221).map (·.size)=some nZ.length):=⟨by kernel_rfl⟩;have HG:=Sl.mk hg;have HC:=Sl.mk hc;clear hg hc;go_enter func172,ntmps172;go_wp2_with (first | (refine wpList_load_mid rfl 221 (.global 3) rfl 3 0 rfl nZ (.array 9 220) HG.ah.t underlying221 rfl aev.ah ?_))
 go_loopw [8] (fun i wr=>∃ k:Nat,k≤9∧i=.int .i64 k∧BR w v k wr) (fun i _=>9-(intOf i).toNat)
 case atStart=>exact ⟨0,by omega,rfl,⟨fun j hj=>by omega,dW _ _⟩⟩
 case round =>
  obtain ⟨k,hk,rfl,hrel⟩:=hrel;have HR:=Sl.mk hrel;clear hrel;by_cases bz:k<9
  ·have mR:=tC k bz
   obtain ⟨r,hr⟩:∃ r,r=row k:=⟨_,rfl⟩;rw [← hr] at mR;have Bt:=Sl.mk hr;clear hr;obtain ⟨lo,hi,dY,u4,u9⟩:=r;simp only [Row.cells] at mR;by_cases eV:lo≤v∧v≤hi
   ·have hd:decide (lo≤v∧v≤hi)=true:=iG eV
    have sB:=Sl.mk eV;have HH:=Sl.mk (wU lo hi v);rw [hd] at HH;clear hd eV;go_wp2_with fail
    refine (HH.ah _).mono ?_;rintro e w2 ⟨rfl,cG⟩;have cJ:Sl (w2.heap[wr.heap.size]? = some (.cells #[.int .u8 lo,.int .u8 hi,.int .i64 dY,.int .u8 u4,.int .u8 u9] 220 (0,0))):=⟨by
     rw [cG.block _ (by rw [aP];omega)];exact aI _ _ _ rfl⟩
    have bk:Sl (Below w.heap.size w w2):=⟨(HR.ah.b.alloc HR.ah.b.size _).trans (cG.mono (HR.ah.b.alloc HR.ah.b.size _).size)⟩;have lx:Sl (w2.heap[b]? = some (.cells #[.int .u8 n0,.int .u8 n1,.int .i64 l,.bool gG] 210 (0,0))):=⟨by
     rw [bk.ah.block _ (zl HC.ah)];exact HC.ah⟩
    have eW:wr.heap.size≠b:=by have:=(zl HC.ah);have:=HR.ah.b.size;omega
    clear cG;generalize wr.heap.size=g at *;have c2:w2.cell? ⟨g,2,none⟩=some (.int .i64 dY):=by rw [jg _ _ _ _ _ _ cJ.ah];rfl
    have c3:w2.cell? ⟨g,3,none⟩=some (.int .u8 u4):=by rw [jg _ _ _ _ _ _ cJ.ah];rfl
    have c4:w2.cell? ⟨g,4,none⟩=some (.int .u8 u9):=by rw [jg _ _ _ _ _ _ cJ.ah];rfl
    have d0:w2.cell? ⟨b,0,none⟩=some (.int .u8 n0):=by rw [jg _ _ _ _ _ _ lx.ah];rfl
    have d1:w2.cell? ⟨b,1,none⟩=some (.int .u8 n1):=by rw [jg _ _ _ _ _ _ lx.ah];rfl
    have d2:w2.cell? ⟨b,2,none⟩=some (.int .i64 l):=by rw [jg _ _ _ _ _ _ lx.ah];rfl
    have f0:w2.frozen? ⟨b,0,none⟩=false:=kT _ _ _ _ _ lx.ah;have f1:w2.frozen? ⟨b,1,none⟩=false:=kT _ _ _ _ _ lx.ah;have f2:w2.frozen? ⟨b,2,none⟩=false:=kT _ _ _ _ _ lx.ah;go_wp2;go_region
    have HF:=Sl.mk (Il w2 b n0 n1 l u4 u9 dY gG lx.ah);have Pc:Sl (w.grownBy (((w2.setCell ⟨b,0,none⟩ (.int .u8 u4)).setCell ⟨b,1,none⟩ (.int .u8 u9)).setCell ⟨b,2,none⟩ (.int .i64 dY)).drew (some b)):=⟨
     dO (jI bk.ah _) (dO (dO (dO (aH _ _ _ _) (aH _ _ _ _)) (aH _ _ _ _)) (Kq _ _))⟩
    clear c2 c3 c4 d0 d1 d2 f0 f1 f2;generalize World.drew _=w3 at *;go_wp2;go_ret;obtain ⟨t,ht,h1,h2⟩:=Sz bz Bt.ah sB.ah;exact .yes t _ ht ⟨u4,u9,by rw [← h1];exact HF.ah,h2⟩ Pc.ah
   ·have hd:decide (lo≤v∧v≤hi)=false:=iQ eV
    have sB:=Sl.mk eV;have HH:=Sl.mk (wU lo hi v);rw [hd] at HH;clear hd eV;go_wp2_with fail
    refine (HH.ah _).mono ?_;rintro e w2 ⟨rfl,cG⟩;have bk:Sl (Below w.heap.size w w2):=⟨(HR.ah.b.alloc HR.ah.b.size _).trans (cG.mono (HR.ah.b.alloc HR.ah.b.size _).size)⟩;clear cG;go_wp2;go_roundw
    case rel=>exact ⟨k+1,by omega,by go_num,⟨fun j hj=>by
     by_cases e:j=k
     ·subst e;have h:=sB.ah;rw [← Bt.ah];exact h
     ·exact HR.ah.p j (by omega),bk.ah⟩⟩
    case measure=>simp [intOf];omega
  ·have eg:¬ (k:Int)<9:=by omega
   have HN:Sl (lead v=none):=⟨yH (by have e:k=9:=by omega
                                     rw [← e];exact HR.ah.p)⟩
   go_wp2;go_ret;exact .no _ HN.ah HR.ah.b
open Go.RowKit bg
theorem vC (w2:World) (b n0 n1 l:Nat) (m:Int) (k:Nat) (gG:Bool) (hm:m=(k:Int)) (h:w2.heap[b]? = some (.cells #[.int .u8 n0,.int .u8 n1,.int .i64 l,.bool gG] 210 (0,0))) :
 Ey (((w2.setCell ⟨b,0,none⟩ (.int .u8 128)).setCell ⟨b,1,none⟩ (.int .u8 191)).setCell ⟨b,2,none⟩ (.int .i64 m)) b 128 191 k gG:=by
 subst hm
 show _=_
 rw [lF _ _ _ _ _ _ (lF _ _ _ _ _ _ (lF _ _ _ _ _ _ h))];rfl
theorem BN (b v:Nat) (s:St) (gG:Bool) (w:World) (hg:bD w) (hc:MJ w b s gG) (hs:s.1≤3) :
 Calls prog 166 #[.pointer (some ⟨b,0,none⟩),.int .u8 v] w (Vo w b gG (jh s v)):=by
 obtain ⟨n0,n1,hc,hn⟩:=hc;obtain ⟨l,lo,hi⟩:=s;simp only at hc hn hs;have HG:=Sl.mk hg;have HC:=Sl.mk hc;have HN:=Sl.mk hn;have d0:w.cell? ⟨b,0,none⟩=some (.int .u8 n0):=by rw [jg _ _ _ _ _ _ hc];rfl
 have d1:w.cell? ⟨b,1,none⟩=some (.int .u8 n1):=by rw [jg _ _ _ _ _ _ hc];rfl
 have d2:w.cell? ⟨b,2,none⟩=some (.int .i64 l):=by rw [jg _ _ _ _ _ _ hc];rfl
 clear hg hc hn;by_cases h0:l=0
 ·subst h0
  have HB:=Sl.mk (Oz b n0 n1 0 v gG);have e:jh (0,lo,hi) v=lead v:=by simp [jh]
  rw [e];clear e;go_enter func166,ntmps166;go_wp2_with fail
  refine (HB.ah _ HG.ah HC.ah).mono ?_;intro e w' ht;cases ht with
  | yes t _ h c g =>
    have H1:=Sl.mk h;have H2:=Sl.mk c;have H3:=Sl.mk g;clear h c g;go_wp2;go_ret;exact .yes t _ H1.ah H2.ah H3.ah
  | no _ h g =>
    have H1:=Sl.mk h;have H3:=Sl.mk g;clear h g;go_wp2;go_ret;exact .no _ H1.ah H3.ah
 ·have hq:((l:Int)==0)=false:=by simp;omega
  obtain ⟨rfl,rfl⟩:=HN.ah h0;have hp:1≤l:=by omega
  clear h0 HN;by_cases eV:n0≤v∧v≤n1
  ·have hd:decide (n0≤v∧v≤n1)=true:=iG eV
   have HH:=Sl.mk (wU n0 n1 v);have HU:Sl (jh (l,n0,n1) v=some (l-1,128,191)):=⟨by simp only [jh];rw [if_neg (by omega),if_pos eV]⟩;rw [hd] at HH;clear hd eV;go_enter func166,ntmps166;go_wp2_with fail
   refine (HH.ah _).mono ?_;rintro e w2 ⟨rfl,cG⟩;have bk:=Sl.mk cG;have lx:Sl (w2.heap[b]? = some (.cells #[.int .u8 n0,.int .u8 n1,.int .i64 l,.bool gG] 210 (0,0))):=⟨by
    rw [cG.block _ (zl HC.ah)];exact HC.ah⟩
   clear cG;have d0:w2.cell? ⟨b,0,none⟩=some (.int .u8 n0):=by rw [jg _ _ _ _ _ _ lx.ah];rfl
   have d1:w2.cell? ⟨b,1,none⟩=some (.int .u8 n1):=by rw [jg _ _ _ _ _ _ lx.ah];rfl
   have d2:w2.cell? ⟨b,2,none⟩=some (.int .i64 l):=by rw [jg _ _ _ _ _ _ lx.ah];rfl
   have f0:w2.frozen? ⟨b,0,none⟩=false:=kT _ _ _ _ _ lx.ah;have f1:w2.frozen? ⟨b,1,none⟩=false:=kT _ _ _ _ _ lx.ah;have f2:w2.frozen? ⟨b,2,none⟩=false:=kT _ _ _ _ _ lx.ah;go_wp2;go_ret;exact .yes _ _ HU.ah ⟨128,191,vC w2 b n0 n1 l _ (l-1) gG (by omega) lx.ah,fun _=>⟨rfl,rfl⟩⟩
    (dO (jI bk.ah _) (dO (dO (aH _ _ _ _) (aH _ _ _ _)) (aH _ _ _ _)))
  ·have hd:decide (n0≤v∧v≤n1)=false:=iQ eV
   have HH:=Sl.mk (wU n0 n1 v);have HU:Sl (jh (l,n0,n1) v=none):=⟨by simp only [jh];rw [if_neg (by omega),if_neg eV]⟩;rw [hd] at HH;clear hd eV;go_enter func166,ntmps166;go_wp2_with fail
   refine (HH.ah _).mono ?_;rintro e w2 ⟨rfl,cG⟩;have bk:=Sl.mk cG;clear cG;go_wp2;go_ret;exact .no _ HU.ah bk.ah
open Go.RowKit bg
def o7 (w:World) (b:Nat):Option St→Prop
 | some s=>MJ w b s false
 | none=>∃ n0 n1 l,Ey w b n0 n1 l true
def rt:Option St→List Nat→Nat
 | some s,bs=>dP s bs
 | none,_=>0
def en (o:Option St) (bs:List Nat):Option St:=o.bind fun s=>dK s bs
def SB (o:Option St):Prop:=∀ s,o=some s→Ok s
theorem Za (h:Ok s):s.1≤3:=by rcases h with rfl | rfl | rfl | rfl | rfl | rfl | rfl | rfl<;>simp [s0]
theorem AB (w:World):Calls prog 141 #[] w fun e w'=>e=.returned (.pointer (some ⟨w.heap.size,0,none⟩))∧w'=w.alloc (.cells #[.int .u8 0,.int .u8 0,.int .i64 0,.bool false] 210):=by
 go_enter func141,ntmps141;go_wp2;go_ret;exact ⟨rfl,rfl⟩
theorem MK (w:World):o7 (w.alloc (.cells #[.int .u8 0,.int .u8 0,.int .i64 0,.bool false] 210)) w.heap.size (some s0):=⟨0,0,aI _ _ _ rfl,fun h=>absurd rfl h⟩
theorem OA (b:Nat) (o:Option St) (w:World) (hc:o7 w b o):Calls prog 162 #[.pointer (some ⟨b,0,none⟩)] w fun e w'=>e=.returned (.bool o.isSome)∧w=w':=by
 obtain ⟨n0,n1,l,gG,hb,hc⟩:∃ n0 n1 l gG,gG=!o.isSome∧Ey w b n0 n1 l gG:=by
  cases o with
  | none=>obtain ⟨n0,n1,l,h⟩:=hc;exact ⟨n0,n1,l,true,rfl,h⟩
  | some s=>obtain ⟨n0,n1,h,_⟩:=hc;exact ⟨n0,n1,s.1,false,rfl,h⟩
 have d3:w.cell? ⟨b,3,none⟩=some (.bool gG):=by rw [jg _ _ _ _ _ _ hc];rfl
 have HB:=Sl.mk hb;clear hc hb;go_enter func162,ntmps162;go_wp2;go_ret;exact ⟨bF (by rw [HB.ah];simp),rfl⟩
theorem Ez (b:Nat) (o:Option St) (w:World) (hc:o7 w b o) (ok:SB o):Calls prog 151 #[.pointer (some ⟨b,0,none⟩)] w fun e w'=>e=.returned (.bool (decide (o=some s0)))∧w=w':=by
 cases o with
 | none =>
   obtain ⟨n0,n1,l,hc⟩:=hc;have d3:w.cell? ⟨b,3,none⟩=some (.bool true):=by rw [jg _ _ _ _ _ _ hc];rfl
   clear hc ok;go_enter func151,ntmps151;go_wp2;go_ret;exact ⟨bF (by simp),rfl⟩
 | some s =>
   obtain ⟨n0,n1,hc,_⟩:=hc;have d3:w.cell? ⟨b,3,none⟩=some (.bool false):=by rw [jg _ _ _ _ _ _ hc];rfl
   have d2:w.cell? ⟨b,2,none⟩=some (.int .i64 s.1):=by rw [jg _ _ _ _ _ _ hc];rfl
   have hz:Sl (((s.1:Int)==0)=decide (some s=some s0)):=⟨by
    rcases ok s rfl with rfl | rfl | rfl | rfl | rfl | rfl | rfl | rfl<;>decide⟩
   clear hc ok;go_enter func151,ntmps151;go_wp2;go_ret;exact ⟨bF hz.ah,rfl⟩
theorem kS.any (h:kS w b v bs):bJ w v bs:=by
 obtain ⟨a,cap,sb,so,h0,h1,h3,_,h5⟩:=h;exact ⟨a,cap,sb,so,h0,h1,h3,h5⟩
theorem kS.below (h:kS w b v bs) (hb:Below w.heap.size w w'):kS w' b v bs:=by
 obtain ⟨a,cap,sb,so,h0,h1,h3,h4,h5⟩:=h;exact ⟨a,cap,sb,so,h0,h1,h3,h4,fun i hi=>by rw [hb.cell (p:=⟨sb,so+i,none⟩) (zk (h5 i hi))];exact h5 i hi⟩
theorem kS.grown (h:kS w b v bs) (hb:w.grownBy w' (some b)):kS w' b v bs:=by
 obtain ⟨a,cap,sb,so,h0,h1,h3,h4,h5⟩:=h;refine ⟨a,cap,sb,so,h0,h1,h3,h4,fun i hi=>?_⟩;rw [DV (w:=w) (hb.block sb (zk (h5 i hi)) (fun e=>h4 (by omega) (by injection e)))];exact h5 i hi
theorem OC (s:St) (bs:List Nat) (k:Nat) (hk:k<bs.length):dK s (bs.take (k+1))=(dK s (bs.take k)).bind fun t=>jh t (bs.getD k 0):=by
 have e:bs.take (k+1)=bs.take k++[bs.getD k 0]:=by
  rw [List.take_succ_eq_append_getElem hk];simp [List.getD,lD hk]
 rw [e,mX];congr 1;funext t;simp only [dK];cases jh t (bs.getD k 0)<;>rfl
theorem Im (s t:St) (bs:List Nat) (k:Nat) (hk:k<bs.length) (h:dK s (bs.take k)=some t) (hs:jh t (bs.getD k 0)=none):dP s bs=k∧dK s bs=none:=by
 have e:bs=bs.take k++bs.drop k:=(Ee k bs).symm;have ed:bs.drop k=bs.getD k 0 :: bs.drop (k+1):=by
  rw [List.drop_eq_getElem_cons hk];simp [List.getD,lD hk]
 constructor
 ·conv=>lhs;rw [e]
  rw [uM,h,ed];simp only [dP,hs,kQ,LX (Nat.le_of_lt hk)];omega
 ·conv=>lhs;rw [e]
  rw [mX,h,ed];simp only [Option.bind_some,dK,hs]
theorem Kr (s t:St) (bs:List Nat) (h:dK s bs=some t):dP s bs=bs.length:=(Bf bs s).1 (by rw [h];rfl)
theorem ML {t:St} (bs:List Nat) (hs:Ok s) (h:dK s bs=some t):Ok t:=by
 induction bs generalizing s with
 | nil=>injection h with h;subst h;exact hs
 | cons x r ih =>
   simp only [dK] at h;cases hx:jh s x with
   | none=>rw [hx] at h;cases h
   | some u=>rw [hx] at h;exact ih (QO hs hx) h
theorem SB.en (h:SB o) (bs:List Nat):SB (en o bs):=by
 intro t ht;cases o with
 | none=>cases ht
 | some s=>exact ML bs (h s rfl) ht
def FR (w:World) (b:Nat) (s:St) (bs:List Nat) (k:Nat) (wr:World):Prop:=∃ t,dK s (bs.take k)=some t∧MJ wr b t false∧w.grownBy wr (some b)
theorem Io (h:bD w) (hb:4≤b) (hg:w.grownBy w' (some b)):bD w' :=
 ⟨fun j v hv=>by
  rw [DV (w:=w) (hg.block 3 (by have:=h.size;omega) (fun e=>by injection e with e;omega))];exact h.t j v hv⟩
theorem wT (b:Nat) (o:Option St) (bs:List Nat) (v:Value) (w:World) (hg:bD w) (hc:o7 w b o) (ok:SB o) (hv:kS w b v bs) (hb:4≤b) (hL:bs.length≤100000) :
 Calls prog 150 #[.pointer (some ⟨b,0,none⟩),v] w fun e w'=>e=.returned (.int .i64 (rt o bs:Nat))∧o7 w' b (en o bs)∧w.grownBy w' (some b):=by
 cases o with
 | none =>
   obtain ⟨a,cap,sb,so,rfl,-⟩:=hv;obtain ⟨n0,n1,l,hc⟩:=hc;have d3:w.cell? ⟨b,3,none⟩=some (.bool true):=by rw [jg _ _ _ _ _ _ hc];rfl
   have HC:=Sl.mk hc;clear hc ok hg;go_enter func150,ntmps150;go_wp2;go_ret;exact ⟨rfl,⟨n0,n1,l,HC.ah⟩,iV _ _⟩
 | some s =>
   have HV:=Sl.mk hv;obtain ⟨a,cap,sb,so,rfl,h1,h3,h4,h5⟩:=hv;have HC:=Sl.mk hc;obtain ⟨n0,n1,hc,hn⟩:=hc;have d3:w.cell? ⟨b,3,none⟩=some (.bool false):=by rw [jg _ _ _ _ _ _ hc];rfl
   have OKS:=Sl.mk (ok s rfl);have HG:=Sl.mk hg;have H3:=Sl.mk h3;have H4:=Sl.mk h4;have H5:=Sl.mk h5;clear hc ok hg h3 h4 h5 hn;go_enter func150,ntmps150;go_wp2;go_loopw [13] (fun i wr=>∃ k:Nat,k≤bs.length∧i=.int .i64 k∧FR w b s bs k wr) (fun i _=>bs.length-(intOf i).toNat)
   case atStart=>exact ⟨0,by omega,rfl,s,rfl,HC.ah,iV _ _⟩
   case round =>
    obtain ⟨k,hk,rfl,t,ht,Bu,nc⟩:=hrel;have HT:=Sl.mk ht;have HCT:=Sl.mk Bu;have Pc:=Sl.mk nc;clear ht Bu nc;by_cases bz:k<bs.length
    ·obtain rfl:=H3.ah (by omega)
     obtain ⟨x,hx⟩:∃ x,x=bs.getD k 0:=⟨_,rfl⟩;have bL:wr.cell? ⟨sb,so+k,none⟩=some (.int .u8 (x:Int)):=by
      rw [DV (w:=w) (Pc.ah.block sb (zk (H5.ah k bz)) (fun e=>H4.ah (by omega) (by injection e))),hx];exact H5.ah k bz
     have HX:=Sl.mk hx;clear hx;have At:=Sl.mk (BN b x t false wr (Io HG.ah hb Pc.ah) HCT.ah (Za (ML _ OKS.ah HT.ah)));go_wp2_with fail
     refine At.ah.mono ?_;intro e w' hto;cases hto with
     | yes u _ h c g =>
       have H1:Sl (FR w b s bs (k+1) w'):=⟨⟨u,by rw [OC s bs k bz,HT.ah,← HX.ah];exact h,c,dO Pc.ah g⟩⟩;clear h c g;go_wp2;go_roundw
       case rel=>exact ⟨k+1,by omega,by go_num,H1.ah⟩
       case measure=>simp [intOf];omega
     | no _ h g =>
       obtain ⟨q1,q2⟩:=Im s t bs k bz HT.ah (by rw [← HX.ah];exact h);have Q1:=Sl.mk q1;have Q2:=Sl.mk q2;obtain ⟨m0,m1,hm,_⟩:=HCT.ah;have HM:Sl (w'.heap[b]? = some (.cells #[.int .u8 m0,.int .u8 m1,.int .i64 t.1,.bool false] 210 (0,0))):=⟨by
        rw [g.block _ (zl hm)];exact hm⟩
       have vd:Sl (w.grownBy w' (some b)):=⟨dO Pc.ah (jI g _)⟩;have d3':w'.cell? ⟨b,3,none⟩=some (.bool false):=by rw [jg _ _ _ _ _ _ HM.ah];rfl
       have f3:w'.frozen? ⟨b,3,none⟩=false:=kT _ _ _ _ _ HM.ah;clear h g q1 q2 hm;go_wp2;go_ret;refine ⟨by rw [show rt (some s) bs=k from Q1.ah];rfl,?_,dO vd.ah (aH _ _ _ _)⟩;rw [show en (some s) bs=none from Q2.ah];refine ⟨m0,m1,t.1,?_⟩
       show _=_
       rw [lF _ _ _ _ _ _ HM.ah];rfl
    ·have eg:¬ (k:Int)<(bs.length:Int):=by omega
     have HE:Sl (dK s bs=some t):=⟨by have h:=HT.ah;rw [nC (by omega)] at h;exact h⟩;go_wp2;go_ret;exact ⟨by rw [show rt (some s) bs=bs.length from Kr s t bs HE.ah];rfl,by rw [show en (some s) bs=some t from HE.ah];exact HCT.ah,Pc.ah⟩
open Go.RowKit bg
theorem BO {W W':World} (h:Below w.heap.size w W) (g:W.grownBy W' (some b)) (hb:w.heap.size≤b):Below w.heap.size w W' :=
 h.grown g h.size (fun k hk=>by injection hk with hk;omega)
theorem SE:SB (some s0):=fun s h=>by injection h with h;exact .inl h.symm
def vb (bs:List Nat):Bool:=decide (dK s0 bs=some s0)
theorem OD (bs:List Nat) (v:Value) (w:World) (hg:bD w) (hv:bJ w v bs) (hL:bs.length≤100000) :
 Calls prog 122 #[v] w fun e w'=>e=.returned (.bool (vb bs))∧Below w.heap.size w w':=by
 have HG:=Sl.mk hg;have HV:=Sl.mk hv;obtain ⟨a,cap,sb,so,rfl,-⟩:=hv;clear hg;go_enter func122,ntmps122;go_wp2_with fail
 refine (AB _).mono ?_;rintro e w1 ⟨rfl,bA⟩;have bi:Sl (Below w.heap.size w w1):=⟨by rw [bA];exact (dW _ _).alloc (aY _) _⟩;have Hi:Sl (o7 w1 w.heap.size (some s0)):=⟨by rw [bA];exact MK w⟩;have Ds:Sl (kS w1 w.heap.size (.slice a bs.length cap) bs):=⟨kS.below (HV.ah.off (aY _)) bi.ah⟩;clear bA;go_wp2_with fail
 refine (wT w.heap.size (some s0) bs _ _ (HG.ah.below bi.ah HG.ah.size) Hi.ah SE Ds.ah HG.ah.size hL).mono ?_;rintro e w2 ⟨rfl,Dd,Dm⟩;have lx:=Sl.mk Dd;have bk:Sl (Below w.heap.size w w2):=⟨BO bi.ah Dm (aY _)⟩;clear Dd Dm;go_wp2_with fail
 refine (Ez w.heap.size _ _ lx.ah (SE.en bs)).mono ?_;rintro e w3 ⟨rfl,rfl⟩;go_wp2;go_ret;exact ⟨rfl,bk.ah⟩
open Go.RowKit bg
theorem EC (h:o7 w b o) (hb:Below w.heap.size w w'):o7 w' b o:=by
 cases o with
 | none=>obtain ⟨n0,n1,l,h⟩:=h;exact ⟨n0,n1,l,by show _=_;rw [hb.block _ (zl h)];exact h⟩
 | some s=>obtain ⟨n0,n1,h,k⟩:=h;exact ⟨n0,n1,by show _=_;rw [hb.block _ (zl h)];exact h,k⟩
theorem Gg (h:o7 w b o):b<w.heap.size:=by
 cases o with
 | none=>obtain ⟨n0,n1,l,h⟩:=h;exact (zl h)
 | some s=>obtain ⟨n0,n1,h,k⟩:=h;exact (zl h)
theorem tV {c:Nat} (h:o7 w b o) (hg:w.grownBy w' (some c)) (eW:b≠c):o7 w' b o:=by
 have bz:=Gg h;have e:=hg.block b bz (fun e=>eW (by injection e));cases o with
 | none=>obtain ⟨n0,n1,l,h⟩:=h;exact ⟨n0,n1,l,by show _=_;rw [e];exact h⟩
 | some s=>obtain ⟨n0,n1,h,k⟩:=h;exact ⟨n0,n1,by show _=_;rw [e];exact h,k⟩
theorem AL (w0 W:World) (b:Nat) (o:Option St) (bs:List Nat) (v:Value) (n:Nat) (hn:rt o bs=n) (h0:w0.heap.size≤b) (hB:Below w0.heap.size w0 W) (hg:bD w0) (hc:o7 W b o) (ok:SB o) (hv:kS W b v bs) (hL:bs.length≤100000) :
 Calls prog 150 #[.pointer (some ⟨b,0,none⟩),v] W fun e w'=>e=.returned (.int .i64 (n:Int))∧Sl (o7 w' b (en o bs))∧Sl (W.grownBy w' (some b))∧Sl (Below w0.heap.size w0 w') :=
 (wT b o bs v W (hg.below hB hg.size) hc ok hv (by have:=hg.size;omega) hL).mono fun _ _ ⟨he,h1,h2⟩=>⟨by rw [he,hn],⟨h1⟩,⟨h2⟩,⟨BO hB h2 h0⟩⟩
theorem SG (b:Nat) (o:Option St) (W:World) (r:Bool) (hc:o7 W b o) (hr:o.isSome=r):Calls prog 162 #[.pointer (some ⟨b,0,none⟩)] W fun e w'=>e=.returned (.bool r)∧W=w':=by
 rw [← hr];exact OA b o W hc
theorem SH (b:Nat) (o:Option St) (W:World) (r:Bool) (hc:o7 W b o) (ok:SB o) (hr:decide (o=some s0)=r):Calls prog 151 #[.pointer (some ⟨b,0,none⟩)] W fun e w'=>e=.returned (.bool r)∧W=w':=by
 rw [← hr];exact Ez b o W hc ok
theorem Ip (w0 W:World) (bs:List Nat) (v:Value) (r:Bool) (hr:vb bs=r) (hB:Below w0.heap.size w0 W) (hg:bD w0) (hv:bJ W v bs) (hL:bs.length≤100000) :
 Calls prog 122 #[v] W fun e w'=>e=.returned (.bool r)∧Sl (Below W.heap.size W w')∧Sl (Below w0.heap.size w0 w') :=
 (OD bs v W (hg.below hB hg.size) hv hL).mono fun _ _ ⟨he,h1⟩=>⟨by rw [he,hr],⟨h1⟩,⟨hB.trans (h1.mono hB.size)⟩⟩
open Go.RowKit bg
end
end Go.Proofs.YtlahonjmfecikaaGreatDoor.oq
namespace Go.Proofs.YtlahonjmfecikaaGreatDoor.Gh
open Go.RowKit bg aG oq
section
variable {W:World} {l:List Nat} {s:ByteArray}
def Vp (lo n hi:Int):Bool:=decide (lo≤n)&&decide (n≤hi)
theorem Iq (lo n hi:Int) (r:Bool) (hr:Vp lo n hi=r) (w:World):Calls prog 149 #[.int .i64 lo,.int .i64 n,.int .i64 hi] w fun e w'=>e=.returned (.bool r)∧w=w':=by
 subst hr;unfold Vp;by_cases h1:lo≤n
 ·have e1:(lo≤n)=True:=eq_true h1
  by_cases h2:n≤hi
  ·have e2:(n≤hi)=True:=eq_true h2
   rw [iG h1,iG h2];clear h1 h2;go_enter func149,ntmps149;go_wp2;go_ret;exact ⟨rfl,rfl⟩
  ·have e2:(n≤hi)=False:=dR h2
   rw [iG h1,iQ h2];clear h1 h2;go_enter func149,ntmps149;go_wp2;go_ret;exact ⟨rfl,rfl⟩
 ·have e1:(lo≤n)=False:=dR h1
  rw [iQ h1];clear h1;go_enter func149,ntmps149;go_wp2;go_ret;exact ⟨rfl,rfl⟩
theorem cell_of_one {g:Nat} {v:Value} {t:TypeId} (h:W.heap[g]? = some (.cells #[v] t (0,0))):W.cell? ⟨g,0,none⟩=some v:=by rw [jg _ _ _ _ _ _ h];rfl
theorem BP (lo n hi:Int) (C:Nat) (r:Bool) (hr:Vp lo n hi=r) (W:World) (hC:W.heap[C]? = some (.cells #[.int .i64 n] 3 (0,0))) :
 Calls prog 148 #[.int .i64 lo,.int .i64 hi,.pointer (some ⟨C,0,none⟩)] W fun e w'=>e=.returned (.bool r)∧W=w':=by
 have hc:=cell_of_one hC;have B:=Iq lo n hi r hr W;clear hr hC;go_enter func148,ntmps148;go_wp2_with fail
 refine B.mono ?_;rintro e w1 ⟨rfl,rfl⟩;go_wp2;go_ret;exact ⟨rfl,rfl⟩
theorem OE (n:Int):dS n=(Vp 1000 n 1003||(Vp 1007 n 1011||Vp 3000 n 4999)):=rfl
theorem DW (n:Int) (w:World):Calls prog 121 #[.int .i64 n] w fun e w'=>e=.returned (.bool (dS n))∧Sl (Below w.heap.size w w'):=by
 rw [OE];obtain ⟨a,ha⟩:=zX (Vp 1000 n 1003);obtain ⟨b,hb⟩:=zX (Vp 1007 n 1011);obtain ⟨c,hc⟩:=zX (Vp 3000 n 4999);rw [ha,hb,hc];obtain ⟨wa,cz⟩:=zX (w.alloc (.cells #[.int .i64 n] 3));have HB:Sl (Below w.heap.size w wa):=⟨by rw [← cz];exact (dW _ _).alloc (aY _) _⟩;have F1:=BP 1000 n 1003 w.heap.size a ha wa (by rw [← cz];exact aI _ _ _ rfl);have F2:=BP 1007 n 1011 w.heap.size b hb wa (by rw [← cz];exact aI _ _ _ rfl);have F3:=BP 3000 n 4999 w.heap.size c hc wa (by rw [← cz];exact aI _ _ _ rfl);clear ha hb hc;cases a with
 | true =>
   go_enter func121,ntmps121;go_wp2_with fail
   refine F1.mono ?_;rintro e w1 ⟨rfl,rfl⟩;clear F1 F2 F3;go_wp2;go_ret;exact ⟨rfl,HB⟩
 | false =>
   cases b with
   | true =>
     go_enter func121,ntmps121;go_wp2_with fail
     refine F1.mono ?_;rintro e w1 ⟨rfl,rfl⟩;go_wp2_with fail
     refine F2.mono ?_;rintro e w1 ⟨rfl,rfl⟩;clear F1 F2 F3;go_wp2;go_ret;exact ⟨rfl,HB⟩
   | false =>
     go_enter func121,ntmps121;go_wp2_with fail
     refine F1.mono ?_;rintro e w1 ⟨rfl,rfl⟩;go_wp2_with fail
     refine F2.mono ?_;rintro e w1 ⟨rfl,rfl⟩;go_wp2_with fail
     refine F3.mono ?_;rintro e w1 ⟨rfl,rfl⟩;clear F1 F2 F3;go_wp2;go_ret;exact ⟨rfl,HB⟩
open Go.RowKit bg aG oq
def BQ (W:World) (g:Nat) (l:List Int):Prop:=W.heap[g]? = some (.cells (l.map (Value.int .i64)).toArray 31 (0,0))
theorem BQ.cell {g:Nat} {l:List Int} (h:BQ W g l) (k:Nat) (hk:k<l.length):W.cell? ⟨g,k,none⟩=some (.int .i64 (l.getD k 0)):=by
 rw [jg _ _ _ _ _ _ h];rw [Ed,List.getElem?_map,lD hk,iw,lD hk];rfl
theorem OG (l:List Int) (e:Int) (g:Nat) (w:World) (hg:BQ w g l) (n:Nat) (hn:l.length=n) (hm:n≤1000) :
 Calls prog 144 #[.slice (some ⟨g,0,none⟩) n n,.int .i64 e] w fun en w'=>(∃ r:Int,en=.returned (.int .i64 r)∧decide (r≥0)=decide (e∈l))∧w=w':=by
 have HG:=Sl.mk hg;have HN:=Sl.mk hn;clear hg hn;go_enter func144,ntmps144;go_wp2;go_loopw [8] (fun i wr=>∃ k:Nat,i=.int .i64 (k:Int)∧k≤n∧wr=w∧Sl (e∉l.take k)) (fun i _=>n-(intOf i).toNat)
 case atStart=>exact ⟨0,rfl,ku _,rfl,⟨by simp⟩⟩
 case round =>
  obtain ⟨k,rfl,hk,rfl,HT⟩:=hrel;by_cases gf:k<n
  ·have bz:((k:Int)<(n:Int))=True:=eq_true (by omega)
   have hc:=HG.ah.cell k (by rw [HN.ah];exact gf);have hlk:l[k]? = some (l.getD k 0):=by rw [iw,lD (by rw [HN.ah];exact gf)];rfl
   have HLK:=Sl.mk hlk;clear hlk;obtain ⟨x,hx⟩:=zX (l.getD k 0);rw [hx] at hc HLK;clear hx;by_cases Av:e=x
   ·have hq:(e==x)=true:=by rw [Av];exact beq_self_eq_true _
    have HR:Sl (decide ((k:Int)≥0)=decide (e∈l)):=⟨by
     rw [iG (by omega),iG];rw [Av];exact List.mem_of_getElem? HLK.ah⟩
    clear Av;go_wp2;go_ret;exact ⟨⟨_,rfl,HR.ah⟩,rfl⟩
   ·have hq:(e==x)=false:=mJ.2 Av
    have HT':Sl (e∉l.take (k+1)):=⟨by
     rw [List.take_add_one,HLK.ah];simp only [Option.toList_some,sN,uF];exact fun h=>h.elim HT.ah Av⟩
    clear Av;go_wp2;exact ⟨⟨k+1,by go_num,by omega,trivial,HT'⟩,by simp [intOf];omega⟩
  ·obtain rfl:k=n:=by omega
   have bz:((k:Int)<(k:Int))=False:=dR (by omega);have HR:Sl (decide ((-1:Int)≥0)=decide (e∈l)):=⟨by
    have h:=HT.ah;rw [nC (by rw [HN.ah];exact aY _)] at h;rw [iQ h];rfl⟩
   go_wp2;go_ret;exact ⟨⟨_,rfl,HR.ah⟩,rfl⟩
theorem Gi (l:List Int) (e:Int) (g:Nat) (w:World) (hg:BQ w g l) (n:Nat) (hn:l.length=n) (hm:n≤1000) (d:Bool) (hd:decide (e∈l)=d) :
 Calls prog 117 #[.slice (some ⟨g,0,none⟩) n n,.int .i64 e] w fun en w'=>en=.returned (.bool d)∧w=w':=by
 have I:=OG l e g w hg n hn hm;rw [hd] at I;clear hg hn hm hd;go_enter func117,ntmps117;go_wp2_with fail
 refine I.mono ?_;rintro en w1 ⟨⟨r,rfl,hr⟩,rfl⟩;clear I;go_wp2;go_ret;exact ⟨rfl,rfl⟩
theorem Gj (l:List Int) (e:Int) (g C:Nat) (w:World) (hg:BQ w g l) (hC:w.heap[C]? = some (.cells #[.int .i64 e] 31 (0,0))) (n:Nat) (hn:l.length=n) (hm:n≤1000) (d:Bool) (hd:decide (e∈l)=d) :
 Calls prog 116 #[.slice (some ⟨g,0,none⟩) n n,.pointer (some ⟨C,0,none⟩)] w fun en w'=>en=.returned (.bool d)∧w=w':=by
 have I:=Gi l e g w hg n hn hm d hd;have hc:=cell_of_one hC;clear hg hn hm hd hC;go_enter func116,ntmps116;go_wp2_with fail
 refine I.mono ?_;rintro en w1 ⟨rfl,rfl⟩;clear I;go_wp2;go_ret;exact ⟨rfl,rfl⟩
theorem SI (e:Int):dI e=if decide (e∈[0])=true then 1000 else if decide (e∈[91,100,110,120])=true then 1002 else if decide (e∈[111,122])=true then 1007 else if decide (e∈[92,121])=true then 1009 else 1011:=by
 unfold dI;simp only [Ap,DN,pJ,or_false]
theorem SK (e:Int) (w:World):Calls prog 87 #[.int .i64 e] w fun en w'=>en=.returned (.int .i64 (dI e))∧Sl (Below w.heap.size w w'):=by
 rw [SI];obtain ⟨a,ha⟩:=zX (decide (e∈[0]));obtain ⟨b,hb⟩:=zX (decide (e∈[91,100,110,120]));obtain ⟨c,hc⟩:=zX (decide (e∈[111,122]));obtain ⟨d,hd⟩:=zX (decide (e∈[92,121]));rw [ha,hb,hc,hd];obtain ⟨wa,cz⟩:=zX (w.alloc (.cells #[.int .i64 e] 31));obtain ⟨wb,gR⟩:=zX (wa.alloc (.cells #[.int .i64 0] 31));obtain ⟨wc,sz⟩:=zX (wb.alloc (.cells #[.int .i64 91,.int .i64 100,.int .i64 110,.int .i64 120] 31));obtain ⟨wd,kI⟩:=zX (wc.alloc (.cells #[.int .i64 111,.int .i64 122] 31));obtain ⟨we,t6⟩:=zX (wd.alloc (.cells #[.int .i64 92,.int .i64 121] 31));have ba:Below w.heap.size w wa:=by rw [← cz];exact (dW _ _).alloc (aY _) _
 have ca:wa.heap[w.heap.size]? = some (.cells #[.int .i64 e] 31 (0,0)):=by rw [← cz];exact aI _ _ _ rfl
 have step:∀ (W:World) (o:Obj) (W2:World),W.alloc o=W2→Below w.heap.size w W→W.heap[w.heap.size]? = some (.cells #[.int .i64 e] 31 (0,0))→Below w.heap.size w W2∧W2.heap[w.heap.size]? = some (.cells #[.int .i64 e] 31 (0,0)):=fun W o W2 h h1 h2=>by
  subst h;exact ⟨h1.alloc h1.size _,by rw [gJ _ _ _ (zl h2)];exact h2⟩
 obtain ⟨bb,cb⟩:=step _ _ _ gR ba ca;obtain ⟨bc,cc⟩:=step _ _ _ sz bb cb;obtain ⟨bd,cd⟩:=step _ _ _ kI bc cc;obtain ⟨be,ce⟩:=step _ _ _ t6 bd cd;have F1:=Gj [0] e wa.heap.size w.heap.size wb (by rw [← gR];exact aI _ _ _ rfl) cb 1 rfl (by decide) a ha;have F2:=Gj [91,100,110,120] e wb.heap.size w.heap.size wc (by rw [← sz];exact aI _ _ _ rfl) cc 4 rfl (by decide) b hb;have F3:=Gj [111,122] e wc.heap.size w.heap.size wd (by rw [← kI];exact aI _ _ _ rfl) cd 2 rfl (by decide) c hc;have F4:=Gj [92,121] e wd.heap.size w.heap.size we (by rw [← t6];exact aI _ _ _ rfl) ce 2 rfl (by decide) d hd;have HB:=Sl.mk bb;have HC:=Sl.mk bc;have HD:=Sl.mk bd;have HE:=Sl.mk be;clear ha hb hc hd ba ca step bb cb bc cc bd cd be ce;go_enter func87,ntmps87;go_wp2_with fail
 refine F1.mono ?_;rintro en w1 ⟨rfl,rfl⟩;clear F1;cases a with
 | true =>
   go_wp2;go_ret;exact ⟨rfl,HB⟩
 | false =>
   go_wp2_with fail
   refine F2.mono ?_;rintro en w1 ⟨rfl,rfl⟩;clear F2;cases b with
   | true =>
     go_wp2;go_ret;exact ⟨rfl,HC⟩
   | false =>
     go_wp2_with fail
     refine F3.mono ?_;rintro en w1 ⟨rfl,rfl⟩;clear F3;cases c with
     | true =>
       go_wp2;go_ret;exact ⟨rfl,HD⟩
     | false =>
       go_wp2_with fail
       refine F4.mono ?_;rintro en w1 ⟨rfl,rfl⟩;clear F4;cases d with
       | true =>
         go_wp2;go_ret;exact ⟨rfl,HE⟩
       | false =>
         go_wp2;go_ret;exact ⟨rfl,HE⟩
open Go.RowKit bg aG oq
theorem pY (h:s.size=0):s={data:=#[]}:=ByteArray.ext (Array.eq_empty_of_size_eq_zero h)
theorem Gl (s:ByteArray) (w:World) (hm:s.size≤1000000):Calls prog 91 #[.string s] w fun e w'=>e=.returned (.string s)∧Sl (Below w.heap.size w w'):=by
 by_cases h0:s.size=0
 ·obtain rfl:=pY h0
  clear h0 hm;go_enter func91,ntmps91;go_wp2;go_ret;exact ⟨rfl,⟨dW _ _⟩⟩
 ·have hq:(((s.size:Nat):Int)==0)=false:=mJ.2 (by omega)
  have hi5:(prog.info? 5).map (·.size)=some 1:=size5;have hc5:prog.cellsOf 5=1:=by kernel_rfl
  have mk:=oO (s.size:Int) s.size rfl hm;obtain ⟨M,hM⟩:=zX ((dZ (zs s.size)).toArray);rw [hM] at mk;have hMs:M.size=s.size:=by rw [← hM,UN,Bq];simp [zs]
  obtain ⟨wa,cz⟩:=zX (w.alloc (.cells M 5));have ha:wa.heap[w.heap.size]? = some (.cells M 5 (0,0)):=by rw [← cz];exact aI _ _ _ rfl
  have pA:(Instr.makeSlice 49 (.int .i64 (s.size:Int)) (.int .i64 (s.size:Int))).run prog w=.ok (.slice (some ⟨w.heap.size,0,none⟩) s.size s.size) wa:=by rw [← cz];exact mk w
  have An:=Lib.run_copy_row_string (P:=prog) wa 49 9 3 5 w.heap.size 0 s.size s.size s M 5 underlying49 hi5 ha (aY _) (by omega);rw [QH,List.nil_append,Xj (by rw [Array.length_toList];omega),yC] at An;obtain ⟨wb,gR⟩:=zX (wa.setRow w.heap.size (Lib.byteCells s.data.toList).toArray);rw [gR] at An;have hb:wb.heap[w.heap.size]? = some (.cells (Lib.byteCells s.data.toList).toArray 5 (0,0)):=by rw [← gR];exact gY _ _ M _ 5 (0,0) ha
  have eW:s.data.toList≠[]:=fun e=>h0 (by rw [Lib.size_eq,e];rfl)
  have hus:=Lib.run_unsafeString_row (P:=prog) wb 176 3 9 5 underlying176 hc5 w.heap.size s.size (by unfold World.shape?;rw [hb];simp [Lib.byteCells_length]) s.data.toList eW (by rw [← Lib.size_eq];omega) (by rw [← Lib.size_eq];omega)
   (fun j x hx=>by
    rw [DD,vT,jg _ _ _ _ _ _ hb,Ed];simp [Lib.byteCells,hx])
  rw [← Lib.size_eq] at hus;have HB:Sl (Below w.heap.size w (wb.freeze ⟨w.heap.size,0,none⟩ s.size)):=⟨by
   refine Lib.below_freeze (p:=⟨w.heap.size,0,none⟩) ?_ (aY _) _;have h1:Below w.heap.size w wa:=by rw [← cz];exact (dW _ _).alloc (aY _) _
   refine h1.trans ?_;rw [← gR];exact ⟨rfl,rfl,rfl,by simp,fun k hk=>qC _ _ _ _ (by omega)⟩⟩
  clear cz gR ha hb hM hMs mk eW;go_enter func91,ntmps91;go_wp2;go_ret;exact ⟨rfl,HB⟩
theorem yO (s:ByteArray) (w:World) (hm:s.size≤1000000):Calls prog 59 #[.string s] w fun e w'=>e=.returned (.string s)∧Sl (Below w.heap.size w w'):=by
 have C:=Gl s w hm;clear hm;go_enter func59,ntmps59;go_wp2_with fail
 refine C.mono ?_;rintro e w1 ⟨rfl,HB⟩;clear C;go_wp2;go_ret;exact ⟨rfl,HB⟩
def rP (n:Int) (l:List Nat):Nat:=if dS n=false∨123<l.length then 110 else if aG.jc l=false then 111 else 0
theorem MM (l:List Nat):aG.jc l=vb l:=rfl
theorem kY (n:Int) (s:ByteArray) (w:World) (hg:bD w):Calls prog 92 #[.int .i64 n,.string s] w fun e w'=>e=.returned (.int .i64 (rP n (bytes s):Nat))∧Sl (Below w.heap.size w w'):=by
 have HG:=Sl.mk hg;have V:=DW n w;unfold rP;rw [au,MM];obtain ⟨r,hr⟩:=zX (dS n);rw [hr] at V ⊢;clear hr hg;cases r with
 | false =>
   rw [if_pos (.inl rfl)];go_enter func92,ntmps92;go_wp2_with fail
   refine V.mono ?_;rintro e w1 ⟨rfl,HB⟩;clear V;go_wp2;go_ret;exact ⟨rfl,HB⟩
 | true =>
   by_cases hs:s.size>123
   ·have hq:((s.size:Int)>123)=True:=eq_true (by omega)
    rw [if_pos (.inr hs)];clear hs;go_enter func92,ntmps92;go_wp2_with fail
    refine V.mono ?_;rintro e w1 ⟨rfl,HB⟩;clear V;go_wp2;go_ret;exact ⟨rfl,HB⟩
   ·have hq:((s.size:Int)>123)=False:=dR (by omega)
    rw [if_neg (by rintro (h | h);cases h;exact hs h)];have LB:Sl ((bytes s).length≤100000):=⟨by rw [au];omega⟩;obtain ⟨d,hd⟩:=zX (vb (bytes s));have HD:=Sl.mk hd;rw [hd];clear hs hd;cases d with
    | true =>
      go_enter func92,ntmps92;go_wp2_with fail
      refine V.mono ?_;rintro e w1 ⟨rfl,HB⟩;clear V;obtain ⟨c2,w2,Dd,nd,bw⟩:=lJ s w1;have bk:Sl (Below w.heap.size w w2):=⟨HB.ah.trans (bw.ah.mono HB.ah.size)⟩;go_wp2_with fail
      refine (Ip w w2 (bytes s) _ _ HD.ah bk.ah HG.ah nd.ah LB.ah).mono ?_;rintro e w3 ⟨rfl,cI,bv⟩;clear Dd;go_wp2;go_ret;exact ⟨rfl,bv⟩
    | false =>
      go_enter func92,ntmps92;go_wp2_with fail
      refine V.mono ?_;rintro e w1 ⟨rfl,HB⟩;clear V;obtain ⟨c2,w2,Dd,nd,bw⟩:=lJ s w1;have bk:Sl (Below w.heap.size w w2):=⟨HB.ah.trans (bw.ah.mono HB.ah.size)⟩;go_wp2_with fail
      refine (Ip w w2 (bytes s) _ _ HD.ah bk.ah HG.ah nd.ah LB.ah).mono ?_;rintro e w3 ⟨rfl,cI,bv⟩;clear Dd;go_wp2;go_ret;exact ⟨rfl,bv⟩
open Go.RowKit bg aG oq
theorem Ir (h:bytes s=[]):s.size=0:=by rw [← au,h];rfl
theorem wV (h:s.size≠0):(s.toList==[])=false:=by
 rw [nO,iQ];intro e;exact h (by rw [← au,e];rfl)
theorem Vq {n:Int} (h:¬ (n=0∧l=[])):eY n l=if rP n l=0 then (Hz n.toNat++l,0) else ([],rP n l):=by
 unfold eY rP;rw [if_neg h];by_cases h1:dS n=false∨123<l.length
 ·rw [if_pos h1,if_pos h1];rfl
 rw [if_neg h1,if_neg h1];by_cases h2:aG.jc l=false
 ·rw [if_pos h2,if_pos h2];rfl
 ·rw [if_neg h2,if_neg h2];rfl
theorem SO {n:Int} (h:rP n l=0):dS n=true∧l.length≤123∧aG.jc l=true:=by
 unfold rP at h;by_cases h1:dS n=false∨123<l.length
 ·rw [if_pos h1] at h;cases h
 rw [if_neg h1] at h;by_cases h2:aG.jc l=false
 ·rw [if_pos h2] at h;cases h
 ·exact ⟨by by_cases hv:dS n=true;exact hv;exact absurd (.inl (by simpa using hv)) h1,by omega,by simpa using h2⟩
theorem FU (n:Int) (s:ByteArray) (w:World) (hg:bD w):Calls prog 60 #[.int .i64 n,.string s] w fun e w'=>e=.returned (.tuple #[.string (aF (eY n (bytes s)).1),.int .i64 ((eY n (bytes s)).2:Nat)])∧Sl (Below w.heap.size w w'):=by
 by_cases h0:n=0∧s.size=0
 ·obtain ⟨rfl,h0⟩:=h0
  obtain rfl:=pY h0;go_enter func60,ntmps60;go_wp2;go_ret2;exact ⟨rfl,⟨dW _ _⟩⟩
 rw [Vq (fun h=>h0 ⟨h.1,Ir h.2⟩)];have CH:=kY n s w hg;obtain ⟨k,hk⟩:=zX (rP n (bytes s));rw [hk] at CH ⊢;have Lz:((n==0)=false)∨((n==0)=true∧(s.toList==[])=false):=by
  by_cases hn:n=0
  ·exact .inr ⟨by rw [hn];rfl,wV (fun h=>h0 ⟨hn,h⟩)⟩
  ·exact .inl (mJ.2 hn)
 by_cases ux:k=0
 ·subst ux
  obtain ⟨hv,hl,ht⟩:=SO hk;have hp:=sV hv;rw [au] at hl;obtain ⟨N,rfl⟩:=JH (show 0≤n by omega);rw [if_pos rfl];have hN:N<65536:=by omega
  obtain ⟨hi,zz⟩:=zX (N / 256);obtain ⟨lo,Ax⟩:=zX (N % 256);have e1:(N:Int) / 256=(hi:Int):=by omega
  have e2:IntKind.u8.wrap (hi:Int)=(hi:Int):=by rw [IntKind.wrap_u8'];omega
  have e3:IntKind.u8.wrap (N:Int)=(lo:Int):=by rw [IntKind.wrap_u8'];omega
  have HK:Sl (Hz ((N:Int)).toNat++bytes s=bytes (aF [hi,lo]++s)):=⟨by
   rw [iK,dm _ (fun x hx=>by simp at hx;omega),show ((N:Int)).toNat=N from rfl,Hz,zz,Ax]⟩
  rw [HK.ah,bT];have HZ:Sl ((aF [hi,lo]).size+s.size≤1000):=⟨by rw [cZ];simp;omega⟩;clear hk hv hl ht zz Ax hN;rcases Lz with hq | ⟨hq,mw⟩
  ·clear h0 hp
   go_enter func60,ntmps60;go_wp2_with fail
   refine CH.mono ?_;rintro e w1 ⟨rfl,HB⟩;clear CH;have eQ:=fA.strs (bs:=[hi,lo]) (k:=2) rfl (w1.alloc (.cells #[.int .u8 hi,.int .u8 lo] 5)) (g:=w1.heap.size) (aI _ _ _ rfl);have bk:Sl (Below w.heap.size w (w1.alloc (.cells #[.int .u8 hi,.int .u8 lo] 5))):=⟨HB.ah.alloc HB.ah.size _⟩;go_wp2
   ·exfalso
    have:=HZ.ah;omega
   go_ret2;exact ⟨rfl,bk⟩
  ·exfalso
   have h1:N=0:=by simpa using hq
   omega
 ·rw [if_neg ux,show aF []={data:=#[]} from rfl]
  have Y7:((k:Int)==0)=false:=mJ.2 (by omega);clear hk ux h0;rcases Lz with hq | ⟨hq,mw⟩
  ·go_enter func60,ntmps60
   go_wp2_with fail
   refine CH.mono ?_;rintro e w1 ⟨rfl,HB⟩;clear CH;go_wp2;go_ret2;exact ⟨rfl,HB⟩
  ·go_enter func60,ntmps60
   go_wp2_with fail
   refine CH.mono ?_;rintro e w1 ⟨rfl,HB⟩;clear CH;go_wp2;go_ret2;exact ⟨rfl,HB⟩
open Go.RowKit bg aG oq
theorem Xy (x y:Nat) (hx:x<256) (hy:y<256):bits .or .i64 ((256*x:Nat):Int) (y:Int)=((256*x+y:Nat):Int):=by
 have h:256*x|||y=256*x+y:=nat_join 8 (256*x) y (by omega) (by omega)
 show IntKind.i64.wrap ((BitVec.ofInt 64 ((256*x:Nat):Int)|||BitVec.ofInt 64 (y:Int)).toNat:Int)=_
 rw [BitVec.toNat_or,ofInt_u64 _ (by omega),ofInt_u64 _ (by omega),h,lZ];omega
theorem MO (x y:Nat) (l:List Nat):iy (x :: y :: l)=if rP ((256*x+y:Nat):Int) l=0 then (((256*x+y:Nat):Int),l,0) else (0,[],rP ((256*x+y:Nat):Int) l):=by
 rw [vZ];by_cases h1:123<l.length∨dS ((256*x+y:Nat):Int)=false
 ·rw [if_pos h1,show rP ((256*x+y:Nat):Int) l=110 from if_pos h1.symm];rfl
 have n1:¬ (dS ((256*x+y:Nat):Int)=false∨123<l.length):=fun h=>h1 h.symm
 rw [if_neg h1];by_cases h2:aG.jc l=false
 ·rw [if_pos h2,show rP ((256*x+y:Nat):Int) l=111 from by unfold rP;rw [if_neg n1,if_pos h2]];rfl
 ·rw [if_neg h2,show rP ((256*x+y:Nat):Int) l=0 from by unfold rP;rw [if_neg n1,if_neg h2]];rfl
def DX (r:Int×List Nat×Nat):Value:=.tuple #[.int .i64 r.1,.string (aF r.2.1),.int .i64 (r.2.2:Nat)]
theorem ED (h:2≤s.size):∃ x y,bytes s=x :: y :: bytes (s.extract 2 s.size)∧x<256∧y<256∧(s[0]'(by omega)).toNat=x∧(s[1]'(by omega)).toNat=y:=by
 have he:bytes (s.extract 2 s.size)=(bytes s).drop 2:=by
  rw [bC,nC (by rw [au];exact aY _)]
 have hs:=aJ s;have g0:=dL s 0 (by omega);have g1:=dL s 1 (by omega);have hl:=au s;rw [he]
 match hb:bytes s with
 | []=>rw [hb] at hl;simp at hl;omega
 | [_]=>rw [hb] at hl;simp at hl;omega
 | x :: y :: r =>
   rw [hb] at hs g0 g1;exact ⟨x,y,rfl,hs x (by simp),hs y (by simp),g0.symm,g1.symm⟩
theorem wJ (s:ByteArray) (w:World) (hg:bD w) (hm:s.size≤1000000):Calls prog 139 #[.string s] w fun e w'=>e=.returned (DX (iy (bytes s)))∧Sl (Below w.heap.size w w'):=by
 by_cases h0:s.size=0
 ·obtain rfl:=pY h0
  clear h0 hm;go_enter func139,ntmps139;go_wp2;go_ret3
  exact ⟨rfl,⟨dW _ _⟩⟩
 have ve:=wV h0;by_cases h1:s.size<2
 ·have hq:((s.size:Int)<2)=True:=eq_true (by omega)
  have HR:Sl (iy (bytes s)=(0,[],110)):=⟨by
   have:=au s
   match hb:bytes s with
   | []=>rw [hb] at this;simp at this;omega
   | [_]=>rfl
   | _ :: _ :: _=>rw [hb] at this;simp at this;omega⟩
  clear h0 h1 hm;go_enter func139,ntmps139;go_wp2;go_ret3
  exact ⟨by rw [HR.ah];rfl,⟨dW _ _⟩⟩
 have hq:((s.size:Int)<2)=False:=dR (by omega);obtain ⟨x,y,hb,hx,hy,mU,Hj⟩:=ED (s:=s) (by omega);have Ww:0<s.size:=by omega
 have tS:1<s.size:=by omega
 have kn:(s[0]'Ww).toNat=x:=mU;have hi1:(s[1]'tS).toNat=y:=Hj;clear mU Hj;obtain ⟨t,ht⟩:=zX (s.extract 2 s.size);have LI:t.size≤1000000:=by rw [← ht,DJ];omega
 rw [ht] at hb;rw [hb,MO];obtain ⟨X,hX⟩:=zX (256*x);have e1:(x:Int)*256=(X:Int):=by omega
 obtain ⟨K,hK⟩:=zX (256*x+y);have e2:bits .or .i64 (X:Int) (y:Int)=(K:Int):=by rw [← hX,← hK];exact Xy x y hx hy
 have BD:Below w.heap.size w w.drew:=(dW _ _).drew;have CH:=kY (K:Int) t w.drew (hg.below BD hg.size);have HD:=Sl.mk BD;clear BD;rw [hK];obtain ⟨k,hk⟩:=zX (rP (K:Int) (bytes t));rw [hk] at CH ⊢;have hXs:X<65536:=by omega
 have z1:IntKind.i64.wrap (x:Int)=(x:Int):=by rw [lZ];omega
 have z2:IntKind.i64.wrap (y:Int)=(y:Int):=by rw [lZ];omega
 have z3:IntKind.i64.wrap (X:Int)=(X:Int):=by rw [lZ];omega
 have k1:((1:Int)<(s.size:Int))=True:=eq_true (by omega);have k2:((2:Int)≤(s.size:Int))=True:=eq_true (by omega);have HM:=Sl.mk LI;clear hb hX hK hx hy hk LI h1 h0 hm hg;by_cases ux:k=0
 ·subst ux
  rw [if_pos rfl,DX,bT];go_enter func139,ntmps139;go_upto_region 5 with fail
  go_still (by kernel_rfl)
  go_wp2_with fail
  refine CH.mono ?_;rintro e w1 ⟨rfl,HX⟩;have HB:Sl (Below w.heap.size w w1):=⟨HD.ah.trans HX.ah⟩;clear CH HX;have CL:=yO t w1 HM.ah;go_wp2_with fail
  refine CL.mono ?_;rintro e w2 ⟨rfl,bk⟩;clear CL;go_wp2;go_ret3
  exact ⟨rfl,⟨HB.ah.trans (bk.ah.mono HB.ah.size)⟩⟩
 ·rw [if_neg ux,DX,show aF []={data:=#[]} from rfl]
  have Y7:((k:Int)==0)=false:=mJ.2 (by omega);clear ux;go_enter func139,ntmps139;go_upto_region 5 with fail
  go_still (by kernel_rfl)
  go_wp2_with fail
  refine CH.mono ?_;rintro e w1 ⟨rfl,HX⟩;have HB:Sl (Below w.heap.size w w1):=⟨HD.ah.trans HX.ah⟩;clear CH HX;go_wp2;go_ret3
  exact ⟨rfl,HB⟩
open Go.RowKit bg aG oq
theorem nD (w0 W:World) (n:Int) (s t:ByteArray) (k:Nat) (h:eY n (bytes s)=(bytes t,k)) (hB:Below w0.heap.size w0 W) (hg:bD w0) :
 Calls prog 60 #[.int .i64 n,.string s] W fun e w'=>e=.returned (.tuple #[.string t,.int .i64 (k:Int)])∧Sl (Below w0.heap.size w0 w') :=
 (FU n s W (hg.below hB hg.size)).mono fun _ _ ⟨he,h1⟩=>⟨by rw [he,h,bT],⟨hB.trans (h1.ah.mono hB.size)⟩⟩
theorem Vr (n:Int) (s:ByteArray):∃ t k,eY n (bytes s)=(bytes t,k):=by
 refine ⟨aF (eY n (bytes s)).1,(eY n (bytes s)).2,?_⟩;rw [dm _ (je (aJ s) (s:=(eY n (bytes s)).1) (e:=(eY n (bytes s)).2) rfl)]
theorem Vs (s:ByteArray):∃ n t k,iy (bytes s)=(n,bytes t,k):=by
 have h:∃ n l k,iy (bytes s)=(n,l,k)∧∀ y∈l,y<256:=by
  have hs:=aJ s
  match hb:bytes s with
  | []=>exact ⟨_,_,_,rfl,fun y hy=>by cases hy⟩
  | [_]=>exact ⟨_,_,_,rfl,fun y hy=>by cases hy⟩
  | x :: y :: r =>
    rw [hb] at hs;rw [MO];by_cases h:rP ((256*x+y:Nat):Int) r=0
    ·rw [if_pos h];exact ⟨_,_,_,rfl,fun z hz=>hs z (by simp [hz])⟩
    ·rw [if_neg h];exact ⟨_,_,_,rfl,fun y hy=>by cases hy⟩
 obtain ⟨n,l,k,h1,h2⟩:=h;exact ⟨n,aF l,k,by rw [h1,dm l h2]⟩
end
end Go.Proofs.YtlahonjmfecikaaGreatDoor.Gh
namespace Go.Proofs.YtlahonjmfecikaaGreatDoor.jG
open Go.RowKit bg aA gK oq Gh
open aC (Fr dF nI aQ bn)
open aG (iy)
section
variable {b k c base:Nat} {S:Nat→Prop} {W W' V U w0:World} {v p v1 v' p':Value} {o:Oper} {o':Option St} {ae:Int} {st:Ms} {s:ByteArray}
def gQ (b:Nat) (v p:Value) (k:Nat):Prop:=k=b∨v.ownBlock=some k∨p=.pointer (some ⟨k,0,none⟩)
theorem mq (h:gQ b (.slice none 0 0) (.pointer none) k):k=b:=by
 rcases h with h | h | h
 ·exact h
 ·cases h
 ·cases h
structure bM (S:Nat→Prop) (W W':World):Prop where
 os:W'.os=W.os
 tape:W'.tape=W.tape
 output:W'.output=W.output
 size:W.heap.size≤W'.heap.size
 block:∀ k,k<W.heap.size→¬ S k→W'.heap[k]? = W.heap[k]?
theorem bM.below (h:Below W.heap.size W W'):bM S W W':=⟨h.os,h.tape,h.output,h.size,fun k hk _=>h.block k hk⟩
theorem bM.grown {r:Option Nat} (h:W.grownBy W' r) (hr:∀ k,r=some k→S k):bM S W W' :=
 ⟨h.os,h.tape,h.output,h.size,fun k hk hn=>h.block k hk (fun e=>hn (hr k e.symm))⟩
theorem bM.trans {S2:Nat→Prop} (h:bM S W V) (k:bM S2 V U) (hs:∀ j,j<W.heap.size→S2 j→S j):bM S W U :=
 ⟨k.os.trans h.os,k.tape.trans h.tape,k.output.trans h.output,jd h.size k.size,fun j hj hn=>(k.block j (NQ hj h.size) (fun e=>hn (hs j hj e))).trans (h.block j hj hn)⟩
theorem bM.up {B:Nat} (h:bM S W V) (hB:Below B w0 W) (hS:∀ k,S k→B≤k) (hs:B≤W.heap.size):Below B w0 V :=
 ⟨h.os.trans hB.os,h.tape.trans hB.tape,h.output.trans hB.output,jd hB.size h.size,fun k hk=>(h.block k (by omega) (fun e=>by have:=hS k e;omega)).trans (hB.block k hk)⟩
structure iC (W W':World) (b:Nat) (v p v' p':Value):Prop where
 kept:bM (gQ b v p) W W'
 dy:∀ k,gQ b v' p' k→gQ b v p k∨W.heap.size≤k
theorem iC.below (b:Nat) (v p:Value) (h:Below W.heap.size W W'):iC W W' b v p v p:=⟨.below h,fun _ hk=>.inl hk⟩
theorem iC.trans {p1 v2 p2:Value} (h:iC W V b v p v1 p1) (k:iC V U b v1 p1 v2 p2):iC W U b v p v2 p2 :=
 ⟨h.kept.trans k.kept (fun j hj e=>by
  rcases h.dy j e with h1 | h1
  ·exact h1
  ·omega),fun j e=>by
  rcases k.dy j e with h1 | h1
  ·exact h.dy j h1
  ·exact .inr (jd h.kept.size h1)⟩
theorem iC.lu (v p:Value) (h:W.grownBy W' (some b)) (hm:∀ k,gQ b v' p' k→gQ b v p k∨W.heap.size≤k):iC W W' b v p v' p' :=
 ⟨.grown h (fun k e=>by injection e with e;exact .inl e.symm),hm⟩
structure qZ (w0 W:World) (b:Nat) (ae op:Int) (aT:List Nat) (o:Option St) (bj:Nat) (aL:Bool) (v p:Value):Prop where
 X:W.heap[b]? = some (.cells #[.int .i64 ae,.int .i64 op,v,p,.int .i64 (bj:Int),.bool aL] 124 (0,0))
 O:W.ownsRow w0.heap.size 5 1 v aT.length (dZ aT)
 C:op≠0→∃ c,p=.pointer (some ⟨c,0,none⟩)∧w0.heap.size≤c∧o7 W c o
 N:op=0→p=.pointer none
 K:SB o
 B:w0.heap.size≤b
 L:Below w0.heap.size w0 W
section
variable {w0 W:World} {b:Nat} {ae op:Int} {aT:List Nat} {o:Option St} {bj:Nat} {aL:Bool} {v p:Value}
theorem qZ.lt (h:qZ w0 W b ae op aT o bj aL v p):b<W.heap.size:=(zl h.X)
theorem qZ.lu (h:qZ w0 W b ae op aT o bj aL v p) (hk:gQ b v p k):w0.heap.size≤k∧k<W.heap.size:=by
 rcases hk with rfl | hk | hk
 ·exact ⟨h.B,h.lt⟩
 ·exact h.O.lt k hk
 ·by_cases h0:op=0
  ·rw [h.N h0] at hk;cases hk
  ·obtain ⟨c,hc,hb,hx⟩:=h.C h0
   rw [hc] at hk;injection hk with hk
   injection hk with hk
   injection hk with hk
   subst hk;exact ⟨hb,Gg hx⟩
theorem qZ.pZ (h:qZ w0 W b ae op aT o bj aL v p) (hk:bM S W W') (hn:∀ k,gQ b v p k→¬ S k) (hL:Below w0.heap.size w0 W'):qZ w0 W' b ae op aT o bj aL v p where
 X:=by rw [hk.block b h.lt (hn b (.inl rfl))];exact h.X
 O:=by
  obtain ⟨h1,h2⟩:=h.O;refine ⟨h1,?_⟩;rcases h2 with h2 | ⟨g,cap,fI,rfl,hb,hg,r⟩
  ·exact .inl h2
  ·exact .inr ⟨g,cap,fI,rfl,hb,by rw [hk.block g (zl hg) (hn g (.inr (.inl rfl)))];exact hg,r⟩
 C:=fun h0=>by
  obtain ⟨c,hc,hb,hx⟩:=h.C h0;have e:=hk.block c (Gg hx) (hn c (.inr (.inr hc)));refine ⟨c,hc,hb,?_⟩;cases o with
  | none=>obtain ⟨n0,n1,l,hx⟩:=hx;exact ⟨n0,n1,l,by show _=_;rw [e];exact hx⟩
  | some s=>obtain ⟨n0,n1,hx,hy⟩:=hx;exact ⟨n0,n1,by show _=_;rw [e];exact hx,hy⟩
 N:=h.N
 K:=h.K
 B:=h.B
 L:=hL
theorem qZ.below (h:qZ w0 W b ae op aT o bj aL v p) (hb:Below W.heap.size W W'):qZ w0 W' b ae op aT o bj aL v p :=
 h.pZ (S:=fun _=>False) (.below hb) (fun _ _=>id) (h.L.trans (hb.mono h.L.size))
theorem qZ.cells (h:qZ w0 W b ae op aT o bj aL v p):W.cell? ⟨b,0,none⟩=some (.int .i64 ae)∧W.cell? ⟨b,1,none⟩=some (.int .i64 op)∧W.cell? ⟨b,2,none⟩=some v∧W.cell? ⟨b,3,none⟩=some p∧W.cell? ⟨b,4,none⟩=some (.int .i64 (bj:Int))∧W.cell? ⟨b,5,none⟩=some (.bool aL):=by
 refine ⟨?_,?_,?_,?_,?_,?_⟩<;>(rw [jg _ _ _ _ _ _ h.X];rfl)
theorem qZ.fF (h:qZ w0 W b ae op aT o bj aL v p) (i:Nat):W.frozen? ⟨b,i,none⟩=false:=kT _ _ _ _ _ h.X
theorem qZ.slice (h:qZ w0 W b ae op aT o bj aL v p):∃ a c,v=.slice a aT.length c:=by
 rcases h.O.2 with ⟨rfl,hz⟩ | ⟨g,cap,fI,rfl,_⟩
 ·rw [hz];exact ⟨_,_,rfl⟩
 ·exact ⟨_,_,rfl⟩
theorem lT:type_of% @Go.Proofs.YtlahonjmfecikaaGreatDoor.jS.jA:=@Go.Proofs.YtlahonjmfecikaaGreatDoor.jS.jA
theorem BU {o:Option St} (h:o7 W c o):∃ cs,W.heap[c]? = some (.cells cs 210 (0,0)):=by
 cases o with
 | none=>obtain ⟨n0,n1,l,h⟩:=h;exact ⟨_,h⟩
 | some s=>obtain ⟨n0,n1,h,_⟩:=h;exact ⟨_,h⟩
theorem qZ.Zb (h:qZ w0 W b ae op aT o bj aL v p) (hg:W.grownBy W' (some b)) {op':Int} {pC:List Nat} {vh:Nat} {nE:Bool} 
 (hX:W'.heap[b]? = some (.cells #[.int .i64 ae,.int .i64 op',v',p',.int .i64 (vh:Int),.bool nE] 124 (0,0)))
 (hz:(v'=v∧p'=p∧op'=op∧pC=aT∧o'=o)∨(v'=.slice none 0 0∧p'=.pointer none∧op'=0∧pC=[]∧SB o')) :
 qZ w0 W' b ae op' pC o' vh nE v' p'∧iC W W' b v p v' p':=by
 have hL:Below w0.heap.size w0 W':=h.L.grown hg h.L.size (fun k hk=>by injection hk with hk;rw [← hk];exact h.B);rcases hz with ⟨rfl,rfl,rfl,rfl,rfl⟩ | ⟨rfl,rfl,rfl,rfl,ep⟩
 ·refine ⟨⟨hX,h.O.kept hg (.inr (lT h.O h.X (by decide))),fun h0=>?_,h.N,h.K,h.B,hL⟩,.lu _ _ hg (fun k hk=>.inl hk)⟩
  obtain ⟨c,hc,hb,hx⟩:=h.C h0;refine ⟨c,hc,hb,tV hx hg (fun e=>?_)⟩;obtain ⟨cs,cU⟩:=BU hx;rw [e,h.X] at cU;injection cU with cU
  injection cU with _ cU
  exact absurd cU (by decide)
 ·exact ⟨⟨hX,US _ _ _ _,fun h0=>absurd rfl h0,fun _=>rfl,ep,h.B,hL⟩,.lu _ _ hg (fun k hk=>.inl (.inl (mq hk)))⟩
end
def DY (op:Int) (aT:List Nat):Option St:=if op=1 then dK s0 aT else some s0
structure gU (w0 W:World) (b:Nat) (ae:Int) (st:Ms) (v p:Value):Prop where
 m:qZ w0 W b ae st.op st.aT (DY st.op st.aT) st.bj st.aL v p
 f:vP ae st
 lo:1≤ae
 hi:ae≤1048576
theorem gU.below (h:gU w0 W b ae st v p) (hb:Below W.heap.size W W'):gU w0 W' b ae st v p:=⟨h.m.below hb,h.f,h.lo,h.hi⟩
theorem gU.len (h:gU w0 W b ae st v p):st.aT.length≤1048576:=by have:=h.f.ae;have:=h.hi;omega
theorem gU.apart (h:gU w0 W b ae st v p) (hk:bM S W W') (hn:∀ k,gQ b v p k→¬ S k) (hL:Below w0.heap.size w0 W'):gU w0 W' b ae st v p:=⟨h.m.pZ hk hn hL,h.f,h.lo,h.hi⟩
theorem Xz:∃ i,prog.info? 5=some i∧i.zero=some (.int .u8 0)∧i.size=1∧i.bytes=1:=rF
theorem Is (s:ByteArray):Lib.strCells s=dZ (bytes s):=by
 unfold Lib.strCells dZ bytes;rw [List.map_map];rfl
theorem Vt {Z:World} {m:List Nat} (ef:Z.ownsRow base 5 1 v m.length (dZ m)) (s:ByteArray) (hl:m.length+s.size≤4000000) (eE:base≤Z.heap.size) :
 ∃ v1 w1,(Builtin.append_ #[49,9] 49 #[v,.string s]).run prog Z=.ok v1 w1∧w1.ownsRow base 5 1 v1 (m++bytes s).length (dZ (m++bytes s))∧Z.grownBy w1 v.ownBlock∧(∀ k,v1.ownBlock=some k→v.ownBlock=some k∨Z.heap.size≤k):=by
 obtain ⟨i0,kn,ic,eI,dz⟩:=Xz;have Wz:m.length+s.size≤maxLen:=by unfold maxLen;omega
 obtain ⟨v',w',hr,h2,h3,_⟩:=Lib.run_append_own_string (P:=prog) Z base 49 9 49 5 i0 underlying49 underlying9 kn ic eI dz v m.length (dZ m) ef s Wz (by omega) eE;rw [Is,← qB] at h2;refine ⟨v',w',hr,by rw [jB,au];exact h2,h3,fun k hk=>?_⟩;rcases ef.2 with ⟨rfl,h0⟩ | ⟨g,cap,fI,rfl,NB,hg,Vv,qt,cU,YP⟩
 ·have WD:m=[]:=yA h0
  subst WD;obtain ⟨v2,w2,eA,h4,_⟩:=Lib.run_append_own_string (P:=prog) Z Z.heap.size 49 9 49 5 i0 underlying49 underlying9 kn ic eI dz _ 0 [] (US Z Z.heap.size 5 1) s (by simpa using Wz) (by simp at hl;omega) (aY _);have vl:(Builtin.append_ #[49,9] 49 #[.slice none 0 0,.string s]).run prog Z=.ok v' w':=hr;rw [vl] at eA;injection eA with e1 e2
  subst e1 e2;exact .inr (h4.lt k hk).1
 ·by_cases hroom:m.length+s.size≤cap
  ·have eA:=Lib.run_append_room_string (P:=prog) Z 49 9 49 5 i0 underlying49 underlying9 kn eI g m.length cap fI hg s hroom (by omega)
   rw [hr] at eA;injection eA with e1 e2
   rw [e1] at hk;exact .inl hk
  ·have holds:∀ j u,(dZ m)[j]? = some u→Z.cell? ((⟨g,0,none⟩:Addr).add j)=some u:=ef.cells (g:=g) rfl
   have eA:=Lib.run_append_grow_string (P:=prog) Z 49 9 49 5 i0 (.int .u8 0) underlying49 underlying9 kn ic ⟨g,0,none⟩ m.length cap (dZ m) (by rw [eI];simp) holds s (by omega) (by omega) (by rw [dz];exact growslice_fits (by omega) (by omega));rw [hr] at eA;injection eA with e1 e2
   rw [e1] at hk;simp only [Value.ownBlock] at hk;injection hk with hk
   exact .inr (by omega)
theorem SQ {bs:List Nat} (h:W.ownsRow base 5 1 v bs.length (dZ bs)):(convert 49 9 v).run prog W=.ok (.string (aF bs)) W:=by
 by_cases hp:0<bs.length
 ·obtain ⟨g,cap,rfl,_,hs⟩:=tq h hp
  exact hs.conv
 ·have h0:bs=[]:=yA (by omega)
  subst h0;rcases h.2 with ⟨rfl,_⟩ | ⟨g,cap,fI,rfl,_⟩
  ·exact run_convert_bytes_nil (P:=prog) W 49 5 underlying49 underlying5 0 0 9 underlying9
  ·exact run_convert_bytes_arg (P:=prog) W 49 5 underlying49 underlying5 g 0 0 cap [] rfl (fun i hi=>absurd hi (Fz _)) 9 underlying9
theorem Gf (ae:Int) (w0 W:World) (hB:Below w0.heap.size w0 W) (hm:1≤ae∧ae≤1048576) :
 Calls prog 39 #[.int .i64 ae] W fun e w'=>e=.returned (.tuple #[.pointer (some ⟨W.heap.size,0,none⟩),.int .i64 0])∧Sl (gU w0 w' W.heap.size ae M0 (.slice none 0 0) (.pointer none))∧Sl (Below W.heap.size W w'):=by
 have q1:(ae<1)=False:=dR (by omega);have q2:(ae>1048576)=False:=dR (by omega);have HS:=Sl.mk hB.size;have HB:=Sl.mk hB;have HM:=Sl.mk hm;clear hB hm;go_enter func39,ntmps39;go_wp2;go_ret2;exact ⟨rfl,⟨⟨⟨aI _ _ _ rfl,US _ _ _ _,fun h=>absurd rfl h,fun _=>rfl,SE,HS.ah,HB.ah.alloc HS.ah _⟩,JS (by have:=HM.ah.1;omega),HM.ah.1,HM.ah.2⟩⟩,⟨(dW _ _).alloc (aY _) _⟩⟩
section
variable {w0 W:World} {b:Nat} {ae op:Int} {aT:List Nat} {o:Option St} {bj:Nat} {aL:Bool} {v p:Value}
theorem SS (h:qZ w0 W b ae op aT o bj aL v p):Calls prog 65 #[.pointer (some ⟨b,0,none⟩)] W fun e w'=>e=.returned (.bool aL)∧W=w':=by
 obtain ⟨_,_,_,_,_,e5⟩:=h.cells;clear h;go_enter func65,ntmps65;go_wp2;go_ret;exact ⟨rfl,rfl⟩
theorem BI (h:qZ w0 W b ae op aT o bj aL v p) (n:Nat) (hn:aT.length=n):Calls prog 68 #[.pointer (some ⟨b,0,none⟩)] W fun e w'=>e=.returned (.int .i64 (n:Int))∧W=w':=by
 obtain ⟨_,_,e2,_,_,_⟩:=h.cells;obtain ⟨a,c,rfl⟩:=h.slice;subst hn;clear h;go_enter func68,ntmps68;go_wp2;go_ret;exact ⟨rfl,rfl⟩
end
open Go.RowKit bg aA gK oq Gh
open aC (Fr dF nI aQ bn)
open aG (iy)
def OH (op:Int) (o:Option St) (bs:List Nat):Option St:=if op=1 then en o bs else o
def SV (op:Int) (o:Option St) (gy:Bool) (bs:List Nat):Bool:=if op=1 then (if gy then decide (en o bs=some s0) else (en o bs).isSome) else true
theorem Gm {w w1:World} {aR:Array Oper} {rest:List Oper} {a:Act} {Q:Exit→Act→World→Prop} (fS:o.guard=none) (sl x:Operand)
 (ho:o.op=.call {callee:=.builtin .append,args:=#[sl,x],argTypes:=#[49,9]}) (Nm:o.type=49) (v v1:Value) (s:ByteArray) (hs:a.eval sl=v) (hx:a.eval x=.string s)
 (gd:(Builtin.append_ #[49,9] 49 #[v,.string s]).run prog w=.ok v1 w1) (h:wpList prog aR Q rest (a.put o.dst v1) w1):wpList prog aR Q (o :: rest) a w:=by
 refine wpList_plain fS fun K hK=>?_
 unfold Oper.wp;have hy:(execOp a.eval o).run prog w=.ok (.value v1) w1:=by
  simp [execOp,ho,Nm,resolve,invoke,builtin,hs,hx,gd,Result.andThen]
 rw [hy,Xp];exact hK _ _ h
section
variable {w0 W:World} {b:Nat} {ae op:Int} {aT:List Nat} {o:Option St} {bj:Nat} {aL:Bool} {v p:Value}
theorem Vu (h:qZ w0 W b ae op aT o bj aL v p) {w2:World} (g:W.grownBy w2 v.ownBlock) {T:List Nat} (ho:w2.ownsRow w0.heap.size 5 1 v1 T.length (dZ T)) (hv:∀ k,v1.ownBlock=some k→v.ownBlock=some k∨W.heap.size≤k) :
 qZ w0 (w2.setCell ⟨b,2,none⟩ v1) b ae op T o bj aL v1 p∧iC W (w2.setCell ⟨b,2,none⟩ v1) b v p v1 p:=by
 have hk:=lT h.O h.X (by decide);have cG:w2.heap[b]? = some (.cells #[.int .i64 ae,.int .i64 op,v,p,.int .i64 (bj:Int),.bool aL] 124 (0,0)):=by rw [g.block b h.lt (fun e=>hk e.symm)];exact h.X
 have tW:=lT ho cG (by decide);have g2:=aH w2 b 2 v1;have hL:Below w0.heap.size w0 w2:=h.L.grown g h.L.size (fun k hk=>(h.O.lt k hk).1);refine ⟨⟨by rw [lF _ _ _ _ _ _ cG];rfl,ho.kept g2 (.inr tW),fun h0=>?_,h.N,h.K,h.B,hL.grown g2 hL.size (fun k hk=>by injection hk with hk;rw [← hk];exact h.B)⟩,⟨?_,fun k hk=>?_⟩⟩
 ·obtain ⟨c,hc,hb,hx⟩:=h.C h0
  obtain ⟨cs,cU⟩:=BU hx;have k1:=lT h.O cU (by decide);have DQ:o7 w2 c o:=by
   cases hv:v.ownBlock with
   | none=>rw [hv] at g;exact EC hx ⟨g.os,g.tape,g.output,g.size,fun k hk=>g.block k hk (fun e=>by cases e)⟩
   | some j=>rw [hv] at g k1;exact tV hx g (fun e=>k1 (by rw [e]))
  refine ⟨c,hc,hb,tV DQ g2 (fun e=>?_)⟩;rw [e,h.X] at cU;injection cU with cU
  injection cU with _ cU
  exact absurd cU (by decide)
 ·exact bM.trans (S:=gQ b v p) (.grown g (fun k hk=>.inr (.inl hk))) (.grown (S:=fun k=>k=b) g2 (fun k hk=>by injection hk with hk;exact hk.symm)) (fun j _ e=>.inl e)
 ·rcases hk with hk | hk | hk
  ·exact .inl (.inl hk)
  ·rcases hv k hk with h1 | h1
   ·exact .inl (.inr (.inl h1))
   ·exact .inr h1
  ·exact .inl (.inr (.inr hk))
theorem MP (h:qZ w0 W b ae op aT o bj aL v p) (hc:p=.pointer (some ⟨c,0,none⟩)) (cY:op≠0) (g:W.grownBy W' (some c)) (hx:o7 W' c o') (ok:SB o') :
 qZ w0 W' b ae op aT o' bj aL v p∧iC W W' b v p v p:=by
 obtain ⟨c',GF,hb,mU⟩:=h.C cY;obtain rfl:c'=c:=by rw [hc] at GF;injection GF with e;injection e with e;injection e with e;exact e.symm
 obtain ⟨cs,cU⟩:=BU mU;have k1:=lT h.O cU (by decide);have k2:b≠c':=fun e=>by
  rw [← e,h.X] at cU;injection cU with cU
  injection cU with _ cU
  exact absurd cU (by decide)
 exact ⟨⟨by rw [g.block b h.lt (fun e=>k2 (by injection e))];exact h.X,h.O.kept g (.inr k1),fun _=>⟨c',hc,hb,hx⟩,h.N,ok,h.B,h.L.grown g h.L.size (fun k hk=>by injection hk with hk;rw [← hk];exact hb)⟩,
  ⟨.grown g (fun k hk=>by injection hk with hk;subst hk;exact .inr (.inr hc)),fun k hk=>.inl hk⟩⟩
theorem MQ (h:qZ w0 W b ae op aT o bj aL v p) (cY:op≠0) (hg:oq.bD w0) (s:ByteArray) (gy:Bool) (hs:s.size≤100000) (ht:aT.length≤2000000) (r:Bool) (hr:SV op o gy (bytes s)=r) :
 Calls prog 142 #[.pointer (some ⟨b,1,none⟩),.string s,.bool gy] W fun e w'=>∃ v',e=.returned (.bool r)∧Sl (qZ w0 w' b ae op (aT++bytes s) (OH op o (bytes s)) bj aL v' p)∧Sl (iC W w' b v p v' p):=by
 obtain ⟨v1,w2,gd,ju,gA,hv1⟩:=Vt h.O s (by omega) h.L.size;obtain ⟨hm,fh⟩:=Vu h gA ju hv1;obtain ⟨a1,n1,k1,rfl⟩:∃ a n k,v1=.slice a n k:=by obtain ⟨a,k,e⟩:=hm.slice;exact ⟨a,_,k,e⟩
 have HM:=Sl.mk hm;have vm:Sl (iC W (w2.setCell ⟨b,2,none⟩ (.slice a1 n1 k1)) b v p (.slice a1 n1 k1) p):=⟨fh⟩;have cG:w2.heap[b]? = some (.cells #[.int .i64 ae,.int .i64 op,v,p,.int .i64 (bj:Int),.bool aL] 124 (0,0)):=by rw [gA.block b h.lt (fun e=>lT h.O h.X (by decide) e.symm)];exact h.X
 have c2:w2.cell? ⟨b,2,none⟩=some v:=by rw [jg _ _ _ _ _ _ cG];rfl
 have f2:w2.frozen? ⟨b,2,none⟩=false:=kT _ _ _ _ _ cG;have e2:=h.cells.2.2.1;have HG:=Sl.mk hg;have HS:=Sl.mk hs;obtain ⟨w3,cH⟩:=zX (w2.setCell ⟨b,2,none⟩ (.slice a1 n1 k1));rw [cH] at HM vm;have d1:w3.cell? ⟨b,1,none⟩=some (.int .i64 op):=HM.ah.cells.2.1;have d3:w3.cell? ⟨b,3,none⟩=some p:=HM.ah.cells.2.2.2.1;have WF:=Sl.mk cY;clear ju gA hv1 hm fh cG hg hs ht cY h;by_cases h1:op=1
 ·subst h1
  obtain ⟨c,hc,wD,hx⟩:=HM.ah.C WF.ah;subst hc;have HX:=Sl.mk hx;have HCB:=Sl.mk wD;obtain ⟨cap,w4,eh,xb,mC⟩:=lJ s w3;have gS:=Sl.mk (HM.ah.below mC.ah);have oF:=Sl.mk (vm.ah.trans (iC.below b (.slice a1 n1 k1) (.pointer (some ⟨c,0,none⟩)) mC.ah));have cx:=EC hx mC.ah;have Pd:=Gg hx;have F:=AL w0 w4 c o (bytes s) (.slice (some ⟨w3.heap.size,0,none⟩) s.size cap) _ rfl wD gS.ah.L HG.ah cx HM.ah.K (xb.ah.Yx Pd) (by rw [au];exact HS.ah);have HK:=Sl.mk HM.ah.K;have g3:w4.cell? ⟨b,3,none⟩=some (.pointer (some ⟨c,0,none⟩)):=gS.ah.cells.2.2.2.1;unfold SV at hr;rw [if_pos rfl] at hr;have hao:OH 1 o (bytes s)=en o (bytes s):=if_pos rfl;rw [hao];clear hx wD cx Pd xb mC hao;cases gy with
  | true =>
    rw [if_pos rfl] at hr;go_enter func142,ntmps142;go_wp2_with (at_builtin;refine Gm rfl _ _ rfl rfl v (.slice a1 n1 k1) s rfl rfl gd ?_)
    refine F.mono ?_;rintro e w5 ⟨rfl,eT,gw,-⟩;clear F;obtain ⟨vo,xd⟩:=MP gS.ah rfl WF.ah gw.ah eT.ah (HK.ah.en _);have eN:=Sl.mk vo;have gL:=Sl.mk (oF.ah.trans xd);have g5:w5.cell? ⟨b,3,none⟩=some (.pointer (some ⟨c,0,none⟩)):=vo.cells.2.2.2.1;have WH:=SH c _ w5 r eT.ah (HK.ah.en _) hr;clear vo xd;go_wp2_with fail
    refine WH.mono ?_;rintro e w6 ⟨rfl,rfl⟩;go_wp2;go_ret;exact ⟨_,rfl,eN,gL⟩
  | false =>
    rw [if_neg (by decide)] at hr;go_enter func142,ntmps142;go_wp2_with (at_builtin;refine Gm rfl _ _ rfl rfl v (.slice a1 n1 k1) s rfl rfl gd ?_)
    refine F.mono ?_;rintro e w5 ⟨rfl,eT,gw,-⟩;clear F;obtain ⟨vo,xd⟩:=MP gS.ah rfl WF.ah gw.ah eT.ah (HK.ah.en _);have eN:=Sl.mk vo;have gL:=Sl.mk (oF.ah.trans xd);have g5:w5.cell? ⟨b,3,none⟩=some (.pointer (some ⟨c,0,none⟩)):=vo.cells.2.2.2.1;have WH:=SG c _ w5 r eT.ah hr;clear vo xd;go_wp2_with fail
    refine WH.mono ?_;rintro e w6 ⟨rfl,rfl⟩;go_wp2;go_ret;exact ⟨_,rfl,eN,gL⟩
 ·have q1:(op != 1)=true:=by simpa using h1
  obtain rfl:r=true:=by rw [← hr];unfold SV;rw [if_neg h1]
  have ho:OH op o (bytes s)=o:=if_neg h1;rw [ho];clear h1 hr ho HG HS;go_enter func142,ntmps142;go_wp2_with (at_builtin;refine Gm rfl _ _ rfl rfl v (.slice a1 n1 k1) s rfl rfl gd ?_)
  go_ret;exact ⟨_,rfl,HM,vm⟩
end
open Go.RowKit bg aA gK oq Gh
open aC (Fr dF nI aQ bn)
open aG (iy)
def evC (op ao:Int) (s:ByteArray):Array Value:=#[.int .i64 op,.int .i64 ao,.string s]
def XA (x:Ev):Value:=.agg (evC x.op x.ao (aF x.data))
def X0:Option Ev→Value
 | some x=>XA x
 | none=>.agg #[.int .i64 0,.int .i64 0,.string {data:=#[]}]
def ab8 (W:World) (tv:Value):Option Ev→Prop
 | none=>tv=.nilFunc
 | some x=>∃ (n:FuncId) (cs:Array Value),tv=.func (.func n) #[] cs∧(∀ args V,(callFunc n args).run prog V=.ok (.enter n args) V)∧Calls prog n cs W fun e w'=>e=.returned (XA x)∧Sl (Below W.heap.size W w')
theorem lU {cs:Array Value} (h:cs.size=3):(prog.info? 52).map (·.size)=some cs.size:=by rw [h];kernel_rfl
theorem Ks {fn:Func} {p:Tmp} (h:fn.results=#[.cell p 52]) (tmps:Array Value) (w:World) (g:Nat) (t:TypeId) (cs:Array Value) (fr:Nat×Nat)
 (hp:tmps.getD p undef=.pointer (some ⟨g,0,none⟩)) (hg:w.heap[g]? = some (.cells cs t fr)) (hs:cs.size=3):(results fn tmps).run prog w=.ok (.agg cs) w :=
 results_cell_row h tmps w g t cs fr _ hp hg underlying52 rfl (lU hs)
theorem o8 (a b:Int) (s:ByteArray):(#[.int .i64 a,.int .i64 b,.string s]:Array Value).all (·.oneCell')=true:=by simp [Value.oneCell']
theorem rQ {ev:Operand→Value} {x y:Operand} {g:Nat} {oB cells:Array Value} (ho:o.op=.store 52 x y) (hx:ev x=.pointer (some ⟨g,0,none⟩)) (hy:ev y=.agg cells) (hg:W.heap[g]? = some (.cells oB 52 (0,0))) (hs:oB.size=cells.size) (hi:(prog.info? 52).map (·.size)=some cells.size) (h1:cells.all (·.oneCell')=true) :
 (execOp ev o).run prog W=.ok .skip (W.setRow g cells):=by
 unfold execOp;simp only [ho,hx,hy,Instr.storeAt,Instr.sureAddr,rE,Sem.run_pure,Result.andThen_ok,run_storeVar_row W g 52 52 oB cells hg hi hs h1]
theorem EE {g:Nat} {op:Int} {aT:List Nat} (h:W.heap[g]? = some (.cells #[.int .i64 op,v,p] 122 (0,0))) (ho:W.ownsRow base 5 1 v aT.length (dZ aT)) :
 Calls prog 143 #[.pointer (some ⟨g,0,none⟩)] W fun e w'=>e=.returned (XA ⟨op,0,aT⟩)∧Sl (Below W.heap.size W w'):=by
 obtain ⟨W1,Ay,HB,HN⟩:=zY W #[.int .i64 0,.int .i64 0,.string {data:=#[]}] 52;have h1:=ay h HB;have eh:=SQ (pO ho HB);have c0:W1.cell? ⟨g,0,none⟩=some (.int .i64 op):=by rw [jg _ _ _ _ _ _ h1];rfl
 have c1:W1.cell? ⟨g,1,none⟩=some v:=by rw [jg _ _ _ _ _ _ h1];rfl
 have jx:=Sl.mk HN;have WK:=Sl.mk HB;have HI:=lU (cs:=#[.int .i64 op,.int .i64 0,.string (aF aT)]) rfl;obtain ⟨a,n,k,rfl⟩:∃ a n k,v=.slice a n k:=by
  rcases ho.2 with ⟨rfl,_⟩ | ⟨g,cap,fI,rfl,_⟩
  ·exact ⟨_,_,_,rfl⟩
  ·exact ⟨_,_,_,rfl⟩
 clear h ho h1 HN HB;go_enter func143,ntmps143;go_wp2_with (refine fG rfl 52 (.tmp 1) (.tmp 7) rfl W.heap.size #[.int .i64 op,.int .i64 0,.string (aF aT)] rfl rfl 52 #[.int .i64 0,.int .i64 0,.string {data:=#[]}] jx.ah HI rfl (o8 _ _ _) ?_)
 refine gX (Ks rfl _ _ W.heap.size 52 _ (0,0) rfl (gY _ _ _ _ _ _ jx.ah) rfl) rfl ?_;exact ⟨rfl,⟨below_setRow WK.ah (aY _) _⟩⟩
theorem SX {g q:Nat} {ao:Int} (h:W.heap[g]? = some (.cells #[.int .i64 ao] 3 (0,0))) (h2:W.heap[q]? = some (.cells #[.string s] 9 (0,0))) :
 Calls prog 140 #[.pointer (some ⟨g,0,none⟩),.pointer (some ⟨q,0,none⟩)] W fun e w'=>e=.returned (XA ⟨8,ao,bytes s⟩)∧Sl (Below W.heap.size W w'):=by
 obtain ⟨W1,Ay,HB,HN⟩:=zY W #[.int .i64 0,.int .i64 0,.string {data:=#[]}] 52;have c0:=cell_of_one (ay h HB);have c1:=cell_of_one (ay h2 HB);have jx:=Sl.mk HN;have WK:=Sl.mk HB;have HI:=lU (cs:=#[.int .i64 8,.int .i64 ao,.string s]) rfl;unfold XA;rw [bT];clear h h2 HN HB;go_enter func140,ntmps140;go_wp2_with (refine fG rfl 52 (.tmp 2) (.tmp 5) rfl W.heap.size #[.int .i64 8,.int .i64 ao,.string s] rfl rfl 52 #[.int .i64 0,.int .i64 0,.string {data:=#[]}] jx.ah HI rfl (o8 _ _ _) ?_)
 refine gX (Ks rfl _ _ W.heap.size 52 _ (0,0) rfl (gY _ _ _ _ _ _ jx.ah) rfl) rfl ?_;exact ⟨rfl,⟨below_setRow WK.ah (aY _) _⟩⟩
theorem OI {g:Nat} {aN m:Bool} {op:Int} {a d:Nat} (h:W.heap[g]? = some (.cells (zV aN op m a b c d s) 61 (0,0))) (hs:s.size≤1000000) :
 Calls prog 111 #[.pointer (some ⟨g,0,none⟩)] W fun e w'=>e=.returned (XA ⟨op,0,bytes s⟩)∧Sl (Below W.heap.size W w'):=by
 obtain ⟨W1,Ay,HB,HN⟩:=zY W #[.int .i64 0,.int .i64 0,.string {data:=#[]}] 52;have jx:=Sl.mk HN;have WK:=Sl.mk HB;have HI:=lU (cs:=#[.int .i64 op,.int .i64 0,.string s]) rfl;unfold XA;rw [bT];have ir:=ay h HB;have qu:g<W.heap.size:=(zl h);have HM:=Sl.mk hs;clear h HN HB hs;go_enter func111,ntmps111;go_upto_region 1 with fail
 refine zG (S:=fun V=>V.heap[g]? = some (.cells (zV aN op m a b c d s) 61 (0,0))) (by kernel_rfl) (fun Rw aM=>?_);have al:=ay ir aM;have C:=yO s Rw HM.ah;refine zT 0 (some 2) (.fieldAddr 61 (.tmp 0) 1) _ al ?_;simp only [zA,zB,zS];refine zT 1 (some 3) (.load 3 (.tmp 2)) _ al ?_ (hy:=fun o' ho W hS=>by obtain ⟨_,hc,_,_,_,_,_,_⟩:=oZ hS;simp only [execOp,ho];go_simp;try rfl);simp only [zA,zB,zS];refine zT 2 (some 4) (.fieldAddr 61 (.tmp 0) 4) _ al ?_;simp only [zA,zB,zS];refine zT 3 (some 5) (.load 9 (.tmp 4)) _ al ?_ (hy:=fun o' ho W hS=>by obtain ⟨_,_,_,_,_,_,_,hc⟩:=oZ hS;simp only [execOp,ho];go_simp;try rfl);simp only [zA,zB,zS];refine zC 4 (some 6) (.call {callee:=.value (.func 59),args:=#[.tmp 5],argTypes:=#[9]}) 59 #[.string s] ?_;refine (C).mono ?_;rintro e w2 ⟨rfl,bk⟩;have cJ:=ay al bk.ah;refine ⟨_,rfl,cJ,?_⟩;simp only [zA,zB,zS];refine zT 5 (some 7) (.build 52 #[(0,.tmp 3),(2,.tmp 6)]) _ cJ ?_;simp only [zA,zB,zS];have Pe:Below W1.heap.size W1 w2:=aM.trans (bk.ah.mono aM.size);have eR:=ay jx.ah Pe;obtain ⟨w3,cH⟩:=zX (w2.setRow W.heap.size #[.int .i64 op,.int .i64 0,.string s]);have bv:Sl (Below W.heap.size W w3):=⟨by rw [← cH];exact below_setRow (WK.ah.trans (Pe.mono WK.ah.size)) (aY _) _⟩;have HN3:Sl (w3.heap[W.heap.size]? = some (.cells #[.int .i64 op,.int .i64 0,.string s] 52 (0,0))):=⟨by rw [← cH];exact gY _ _ _ _ _ _ eR⟩;have da:w3.heap[g]? = some (.cells (zV aN op m a b c d s) 61 (0,0)):=by rw [← cH,qC _ _ _ _ (by omega)];exact cJ
 refine zW 6 none (.store 52 (.tmp 1) (.tmp 7)) 0 w3 da ?_ (hy:=fun o' ho ht=>by rw [← cH];exact rQ ho (by rfl) (by rfl) eR rfl HI (o8 _ _ _));simp only [Act.put];refine zE (by kernel_rfl) ?_;clear ir qu aM al cJ bk Pe eR cH da C;go_wp2;refine gX (Ks rfl _ _ W.heap.size 52 _ (0,0) rfl HN3.ah rfl) rfl ?_;exact ⟨rfl,bv⟩
end
section
variable {w0 W W2:World} {b bj:Nat} {ae:Int} {o:Option St} {aL:Bool} {v p:Value} {st:Ms} {f:Fr}
structure ON (w0 W w':World) (b:Nat) (ae:Int) (r:Ms×Option Ev) (v p v' p' tv:Value):Prop where
 mac:∃ op aT o,qZ w0 w' b ae op aT o 0 r.1.aL v' p'∧(r.1.bj=0→op=r.1.op∧aT=r.1.aT∧o=DY r.1.op r.1.aT)
 ou:iC W w' b v p v' p'
 Td:r.1.bj=0→ab8 w' tv r.2
theorem MS {op:Int} {aT:List Nat} {vh:Nat} {nE:Bool} (h:qZ w0 W b ae op aT o bj aL v p) (g:W.grownBy W2 (some b))
 (hX:W2.heap[b]? = some (.cells #[.int .i64 ae,.int .i64 op,v,p,.int .i64 (vh:Int),.bool nE] 124 (0,0))) :
 qZ w0 (((W2.setCell ⟨b,1,none⟩ (.int .i64 0)).setCell ⟨b,2,none⟩ (.slice none 0 0)).setCell ⟨b,3,none⟩ (.pointer none)) b ae 0 [] (some s0) vh nE (.slice none 0 0) (.pointer none) ∧
 iC W (((W2.setCell ⟨b,1,none⟩ (.int .i64 0)).setCell ⟨b,2,none⟩ (.slice none 0 0)).setCell ⟨b,3,none⟩ (.pointer none)) b v p (.slice none 0 0) (.pointer none) ∧
 W.grownBy (((W2.setCell ⟨b,1,none⟩ (.int .i64 0)).setCell ⟨b,2,none⟩ (.slice none 0 0)).setCell ⟨b,3,none⟩ (.pointer none)) (some b):=by
 have g3:=dO g (dO (dO (aH W2 b 1 (.int .i64 0)) (aH _ b 2 (.slice none 0 0))) (aH _ b 3 (.pointer none)));obtain ⟨h1,h2⟩:=h.Zb g3 (op':=0) (pC:=[]) (o':=some s0) (vh:=vh) (nE:=nE) (v':=.slice none 0 0) (p':=.pointer none) (by
  rw [lF _ _ _ _ _ _ (lF _ _ _ _ _ _ (lF _ _ _ _ _ _ hX))];rfl) (.inr ⟨rfl,rfl,rfl,rfl,SE⟩)
 exact ⟨h1,h2,g3⟩
theorem ON.before {V w':World} {r:Ms×Option Ev} {v' p' tv:Value} (h:ON w0 V w' b ae r v p v' p' tv) (hb:Below W.heap.size W V):ON w0 W w' b ae r v p v' p' tv :=
 ⟨h.mac,(iC.below b v p hb).trans h.ou,h.Td⟩
def IC (c:Int×List Nat×Nat):Ms×Option Ev:=if c.2.2=0 then (done,some ⟨8,c.1,c.2.1⟩) else (gG c.2.2,none)
section
variable {w0 W:World} {b:Nat} {ae op:Int} {aT:List Nat} {o:Option St} {v p:Value}
theorem OO (w:World) (n:Int) (t:ByteArray):∃ V,(((w.alloc (.cells #[.int .i64 0] 3)).alloc (.cells #[.string {data:=#[]}] 9)).setCell ⟨w.heap.size,0,none⟩ (.int .i64 n)).setCell ⟨(w.alloc (.cells #[.int .i64 0] 3)).heap.size,0,none⟩ (.string t)=V∧Sl (Below w.heap.size w V) ∧
 Sl (V.heap[w.heap.size]? = some (.cells #[.int .i64 n] 3 (0,0)))∧Sl (V.heap[(w.alloc (.cells #[.int .i64 0] 3)).heap.size]? = some (.cells #[.string t] 9 (0,0))):=by
 obtain ⟨a,ha⟩:=zX (w.alloc (.cells #[.int .i64 0] 3));obtain ⟨q,hq⟩:=zX a.heap.size;have hs:q=w.heap.size+1:=by rw [← hq,← ha];exact aP _ _
 have h1:(a.alloc (.cells #[.string {data:=#[]}] 9)).heap[w.heap.size]? = some (.cells #[.int .i64 0] 3 (0,0)):=by rw [gJ _ _ _ (by omega),← ha];exact aI _ _ _ rfl
 have h2:(a.alloc (.cells #[.string {data:=#[]}] 9)).heap[q]? = some (.cells #[.string {data:=#[]}] 9 (0,0)):=aI _ _ _ hq.symm;have hB:Below w.heap.size w (a.alloc (.cells #[.string {data:=#[]}] 9)):=by rw [← ha];exact ((dW _ _).alloc (aY _) _).alloc (by rw [aP];omega) _
 refine ⟨_,rfl,⟨?_⟩,⟨?_⟩,⟨?_⟩⟩
 ·rw [ha,hq]
  exact (hB.setCell (aY _) _).setCell (by show w.heap.size≤q;omega) _
 ·rw [ha,hq,pI _ _ _ _ (by show w.heap.size≠q;omega),lF _ _ _ _ _ _ h1]
  rfl
 ·rw [ha,hq,lF _ _ _ _ _ _ (show _=some (Obj.cells #[.string {data:=#[]}] 9 (0,0)) by rw [pI _ _ _ _ (by show q≠w.heap.size;omega)];exact h2)]
  rfl
theorem Vy (h:qZ w0 W b ae op aT o 0 false v p) (hg:oq.bD w0) (s:ByteArray) (hs:s.size≤1000000) :
 Calls prog 112 #[.pointer (some ⟨b,0,none⟩),.string s] W fun e w'=>∃ v' p' tv,e=.returned (.tuple #[tv,.int .i64 ((IC (iy (bytes s))).1.bj:Int)])∧Sl (ON w0 W w' b ae (IC (iy (bytes s))) v p v' p' tv):=by
 obtain ⟨n,t,k,ye⟩:=Vs s;have C:=wJ s W (hg.below h.L hg.size) hs;rw [ye] at C ⊢;unfold DX at C;simp only [bT] at C;have HM:=Sl.mk h;clear ye hg hs h;obtain ⟨r,hr⟩:=zX (IC (n,bytes t,k));rw [hr];have HR:=Sl.mk hr;clear hr;go_enter func112,ntmps112;go_wp2_with fail
 refine C.mono ?_;rintro e w1 ⟨rfl,bi⟩;clear C;have l8:=Sl.mk (HM.ah.below bi.ah);obtain ⟨wd,kI,bk,dE,lr⟩:=OO w1 n t;obtain ⟨wa,cz⟩:=zX (w1.alloc (.cells #[.int .i64 0] 3));obtain ⟨wb,gR⟩:=zX (wa.alloc (.cells #[.string {data:=#[]}] 9));rw [cz,gR] at kI;rw [cz] at lr;have nf:wa.heap.size=w1.heap.size+1:=by rw [← cz];exact aP _ _
 have cM:wb.heap[w1.heap.size]? = some (.cells #[.int .i64 0] 3 (0,0)):=by rw [← gR,gJ _ _ _ (by omega),← cz];exact aI _ _ _ rfl
 have cG:wb.heap[wa.heap.size]? = some (.cells #[.string {data:=#[]}] 9 (0,0)):=by rw [← gR];exact aI _ _ _ rfl
 have qD:=Sl.mk (l8.ah.below bk.ah);have qS:=Sl.mk nf;have e1:=cell_of_one cM;have e2:=cell_of_one cG;have f1:wb.frozen? ⟨w1.heap.size,0,none⟩=false:=kT _ _ _ _ _ cM;have f2:wb.frozen? ⟨wa.heap.size,0,none⟩=false:=kT _ _ _ _ _ cG;have eW:w1.heap.size≠wa.heap.size:=by omega
 obtain ⟨wc,sz⟩:=zX (wb.setCell ⟨w1.heap.size,0,none⟩ (.int .i64 n));rw [sz] at kI;have e3:wc.cell? ⟨wa.heap.size,0,none⟩=some (.string {data:=#[]}):=by rw [← sz,World.cell?_setCell_other (h:=fun e=>eW (by injection e))];exact e2
 have f3:wc.frozen? ⟨wa.heap.size,0,none⟩=false:=by rw [← sz,World.frozen?_setCell];exact f2
 clear cM cG nf e2 f2;go_upto_region 2 with fail
 clear e1 f1 e3 f3 kI sz cz gR eW;by_cases hk:k=0
 ·subst hk
  have HE:r=(done,some ⟨8,n,bytes t⟩):=by rw [← HR.ah];exact if_pos rfl
  have gC:=Sl.mk HE;clear HE;go_upto_region 4 with fail
  obtain ⟨_,d1,d2,d3,_,d5⟩:=qD.ah.cells;have g1:=qD.ah.fF 1;have g2:=qD.ah.fF 2;have g3:=qD.ah.fF 3;have g5:=qD.ah.fF 5;go_wp2;go_ret2;have hX5:(wd.setCell ⟨b,5,none⟩ (.bool true)).heap[b]? = some (.cells #[.int .i64 ae,.int .i64 op,v,p,.int .i64 ((0:Nat):Int),.bool true] 124 (0,0)):=by
   rw [lF _ _ _ _ _ _ qD.ah.X];rfl
  obtain ⟨hm,fh,nc⟩:=MS qD.ah (aH _ _ _ _) hX5;have bz:=HM.ah.lt;have cV:=bi.ah.size;have h1:=dE.ah;have h2:=lr.ah;have nA:=(zl h1);have z7:=(zl h2);have hq:=qS.ah;have HE:=gC.ah;subst HE;refine ⟨_,_,_,rfl,⟨⟨_,_,_,hm,fun _=>⟨rfl,rfl,rfl⟩⟩,(iC.below b v p (bi.ah.trans (bk.ah.mono cV))).trans fh,fun _=>⟨_,_,rfl,fun args V=>by kernel_rfl,SX ?_ ?_⟩⟩⟩
  ·rw [nc.block _ nA (fun e=>by injection e with e;omega)];exact h1
  ·rw [nc.block _ z7 (fun e=>by injection e with e;omega)];exact h2
 ·have Y7:((k:Int) != 0)=true:=by simpa using hk
  have HE:r=(gG k,none):=by rw [← HR.ah];exact if_neg hk
  have gC:=Sl.mk HE;clear HE;have Pp:=Sl.mk hk;clear hk;go_wp2;go_ret2;have HE:=gC.ah;subst HE;refine ⟨_,_,_,rfl,⟨⟨_,_,_,qD.ah,fun h=>absurd h Pp.ah⟩,iC.below b v p (bi.ah.trans (bk.ah.mono bi.ah.size)),fun h=>absurd h Pp.ah⟩⟩
end
open Go.RowKit bg aA gK oq Gh
open aC (Fr dF nI aQ bn)
open aG (iy)
theorem BZ {cs:Array Value} (h:cs.size=3):(prog.info? 122).map (·.size)=some cs.size:=by rw [h];kernel_rfl
theorem Gs (a:Int) (x:Option Addr) (n k:Nat) (y:Option Addr):(#[.int .i64 a,.slice x n k,.pointer y]:Array Value).all (·.oneCell')=true:=by simp [Value.oneCell']
theorem OP {c:Nat} {op op':Int} {aT:List Nat} (h:qZ w0 W b ae op aT o bj aL v p) (hB:Below W.heap.size W W2) (hc:W.heap.size≤c) (hx:o7 W2 c (some s0)) (h0:op'≠0) :
 qZ w0 (W2.setCells b 1 [.int .i64 op',.slice none 0 0,.pointer (some ⟨c,0,none⟩)]) b ae op' [] (some s0) bj aL (.slice none 0 0) (.pointer (some ⟨c,0,none⟩)) ∧
 iC W (W2.setCells b 1 [.int .i64 op',.slice none 0 0,.pointer (some ⟨c,0,none⟩)]) b v p (.slice none 0 0) (.pointer (some ⟨c,0,none⟩)):=by
 have h2:=h.below hB;have g:W2.grownBy (W2.setCells b 1 [.int .i64 op',.slice none 0 0,.pointer (some ⟨c,0,none⟩)]) (some b):=jJ b _ 1 W2;have bz:=h.lt;refine ⟨⟨?_,US _ _ _ _,fun _=>⟨c,rfl,by have:=h.L.size;omega,tV hx g (by omega)⟩,fun e=>absurd e h0,SE,h.B,h2.L.grown g h2.L.size (fun k hk=>by injection hk with hk;rw [← hk];exact h.B)⟩,?_⟩
 ·simp only [World.setCells]
  rw [lF _ _ _ _ _ _ (lF _ _ _ _ _ _ (lF _ _ _ _ _ _ h2.X))];rfl
 ·refine ⟨bM.trans (S:=gQ b v p) (.below hB) (.grown (S:=fun k=>k=b) g (fun k hk=>by injection hk with hk;exact hk.symm)) (fun j _ e=>.inl e),fun k hk=>?_⟩
  rcases hk with hk | hk | hk
  ·exact .inl (.inl hk)
  ·cases hk
  ·injection hk with hk
   injection hk with hk
   injection hk with hk
   exact .inr (by omega)
theorem OQ {op:Int} {aT:List Nat} (h:qZ w0 W b ae op aT o bj aL v p):W.there b 1 3:=by
 obtain ⟨_,h1,h2,h3,_,_⟩:=h.cells;intro j hj
 match j,hj with
 | 0,_=>exact ⟨by rw [h1];rfl,h.fF 1⟩
 | 1,_=>exact ⟨by rw [h2];rfl,h.fF 2⟩
 | 2,_=>exact ⟨by rw [h3];rfl,h.fF 3⟩
theorem OR {ev:Operand→Value} {o:Oper} {x y:Operand} {i:Nat} {cells:Array Value} (ho:o.op=.store 122 x y) (hx:ev x=.pointer (some ⟨b,i,none⟩)) (hy:ev y=.agg cells) (ht:W.there b i 3) (hs:cells.size=3) (h1:cells.all (·.oneCell')=true) :
 (execOp ev o).run prog W=.ok .skip (W.setCells b i cells.toList):=by
 unfold execOp;simp only [ho,hx,hy,rE,Sem.run_pure,Result.andThen_ok,run_storeAt_mid (P:=prog) W b i 122 cells (by rw [hs];exact ht) (BZ hs) h1]
theorem Tf (op:Int):DY op []=some s0:=by unfold DY;split<;>rfl
theorem B7 (op:Int) (t bs:List Nat):OH op (DY op t) bs=DY op (t++bs):=by
 unfold OH DY;by_cases h:op=1
 ·rw [if_pos h,if_pos h,if_pos h];exact (mX t bs s0).symm
 ·rw [if_neg h,if_neg h,if_neg h]
theorem MU (op:Int) (aN:Bool) (t bs:List Nat):SV op (DY op t) aN bs=wu op aN (t++bs):=by
 unfold SV wu;by_cases h:op=1
 ·rw [if_pos h,iG h,JF]
  have e:en (DY op t) bs=dK s0 (t++bs):=by
   have:=B7 op t bs;unfold OH at this;rw [if_pos h] at this;rw [this];unfold DY;rw [if_pos h]
  rw [e];have hi:=Bf (t++bs) s0;have hl:=pK (t++bs) s0;cases aN with
  | true =>
    rw [if_pos rfl,JF]
    show decide (dK s0 (t++bs)=some s0)=!(decide (dP s0 (t++bs)<(t++bs).length)||!decide (dK s0 (t++bs)=some s0))
    by_cases hw:dK s0 (t++bs)=some s0
    ·have h2:dP s0 (t++bs)=(t++bs).length:=hi.1 (by rw [hw];rfl)
     rw [iG hw,iQ (by omega)];rfl
    ·rw [iQ hw];simp
  | false =>
    rw [if_neg (by decide),Dz,Bool.or_false];by_cases hw:(dK s0 (t++bs)).isSome=true
    ·rw [hw,iQ (by have:=hi.1 hw;omega)];rfl
    ·have h2:dP s0 (t++bs)≠(t++bs).length:=fun e=>hw (hi.2 e)
     rw [iG (by omega)];simpa using hw
 ·rw [if_neg h,iQ h];rfl
def B9 (ae:Int) (st:Ms) (aN:Bool) (op:Int) (bs:List Nat):Ms×Option Ev :=
 if decide (op=0)≠st.cg then (gG 120,none) else dY ae aN (if st.cg then st.op else op) (st.aT++bs)
section
variable {w0 W:World} {b:Nat} {ae:Int} {st:Ms} {v p:Value}
theorem Ti (h:gU w0 W b ae st v p) (he:st.bj=0) (eJ:st.aL=false) (hg:oq.bD w0) (aN:Bool) (op:Int) (m:Bool) (ka kb kc kd:Nat) (s:ByteArray) (cY:0≤op∧op≤2) (hs:s.size≤100000) :
 Calls prog 113 #[.pointer (some ⟨b,0,none⟩),(.agg (zV aN op m ka kb kc kd s))] W fun e w'=>∃ v' p' tv,e=.returned (.tuple #[tv,.int .i64 ((B9 ae st aN op (bytes s)).1.bj:Int)])∧Sl (ON w0 W w' b ae (B9 ae st aN op (bytes s)) v p v' p' tv):=by
 obtain ⟨r,hr⟩:=zX (B9 ae st aN op (bytes s));rw [hr];have hm:=h.m;rw [he,eJ] at hm;have NB:(st.cg=false∧st.op=0∧st.aT=[])∨(st.cg=true∧st.op≠0):=by
  cases hb:st.cg with
  | false=>exact .inl ⟨rfl,(h.f.idle hb).2,(h.f.idle hb).1⟩
  | true=>exact .inr ⟨rfl,by rcases h.f.op hb with e | e<;>rw [e]<;>decide⟩
 have bt:=h.len;have Ax:=h.lo;have zz:=h.hi;obtain ⟨W1,Ay⟩:=zX (W.alloc (.cells (zV aN op m ka kb kc kd s) 61));have bi:Sl (Below W.heap.size W W1):=⟨by rw [← Ay];exact (dW _ _).alloc (aY _) _⟩;have ir:Sl (W1.heap[W.heap.size]? = some (.cells (zV aN op m ka kb kc kd s) 61 (0,0))):=⟨by rw [← Ay];exact aI _ _ _ rfl⟩;have DS:Sl (∀ k,gQ b v p k→k<W.heap.size):=⟨fun k hk=>(hm.lu hk).2⟩;have l8:=Sl.mk (hm.below bi.ah);obtain ⟨g,AC⟩:=zX W.heap.size;have Bx:=Sl.mk AC;rw [AC] at ir;have HR:=Sl.mk hr;have HG:=Sl.mk hg;have HS:=Sl.mk hs;have WF:=Sl.mk cY;have mT:Sl (st.aT.length≤1048576):=⟨bt⟩;have HLO:=Sl.mk Ax;have HHI:=Sl.mk zz;have D0:=Sl.mk NB;clear hr hg hs cY bt Ax zz hm h he eJ NB;obtain ⟨_,m1,_,_,_,_⟩:=l8.ah.cells;obtain ⟨_,f1,_,_,_,_,_,_⟩:=oZ ir.ah;rcases D0.ah with ⟨hb,ho,ht⟩ | ⟨hb,ho⟩
 ·rw [ho] at m1
  by_cases h0:op=0
  ·subst h0
   have gC:Sl (r=(gG 120,none)):=⟨by
    rw [← HR.ah]
    show (if decide ((0:Int)=0)≠st.cg then _ else _)=_
    rw [hb];rfl
   ⟩
   go_enter func113,ntmps113;go_upto_region 1 with fail
   go_still (by kernel_rfl)
   have HD:Below W1.heap.size W1 W1.drew:=(dW _ _).drew;go_wp2;go_ret2;have HE:=gC.ah;subst HE;exact ⟨_,_,_,rfl,⟨⟨_,_,_,l8.ah.below HD,fun e=>absurd e (by decide)⟩,iC.below b _ p (bi.ah.trans (HD.mono bi.ah.size)),fun e=>absurd e (by decide)⟩⟩
  ·have q2:(op != 0)=true:=by simpa using h0
   have rh:Sl (B9 ae st aN op (bytes s)=dY ae aN op ([]++bytes s)):=⟨by
    show (if decide (op=0)≠st.cg then _ else _)=_
    rw [hb,ht,iQ h0];rfl
   ⟩
   have Zg:Sl (op≠0):=⟨h0⟩;obtain ⟨n,hn⟩:=zX st.aT.length;have Zh:n≤1048576:=by have:=mT.ah;omega
   obtain ⟨a0,k0,pu⟩:=l8.ah.slice;rw [hn] at pu;subst pu;obtain ⟨c0,_,c2,_,_,_⟩:=l8.ah.cells;obtain ⟨_,_,_,_,_,_,_,f7⟩:=oZ ir.ah;obtain ⟨d,hd⟩:∃ d:Int,ae-(n:Int)=d:=⟨_,rfl⟩;have nA:=HLO.ah;have z7:=HHI.ah;have z1:IntKind.i64.wrap (ae-(n:Int))=d:=by rw [lZ];omega
   have z2:wrap64 (ae-(n:Int))=d:=by unfold wrap64;omega
   have o6:Sl (([]:List Nat).length≤2000000):=⟨by decide⟩;have un:((([]++bytes s:List Nat).length:Nat):Int)=0+s.size:=by rw [jB,au];simp
   have As:n=0:=by rw [← hn,ht];rfl
   by_cases ia:ae<((([]++bytes s:List Nat).length:Nat):Int)
   ·have q3:((s.size:Int)>d)=True:=eq_true (by omega)
    have gC:Sl (r=(gG 121,none)):=⟨by
     rw [← HR.ah];rw [rh.ah,dY,if_pos ia]
    ⟩
    clear ia un hn Zh nA z7 hd As;have Hm:W1.drew.cell? ⟨b,0,none⟩=some (.int .i64 ae):=c0;have Hn:W1.drew.cell? ⟨b,2,none⟩=some (.slice a0 n k0):=c2;have Hp:W1.drew.cell? ⟨g,7,none⟩=some (.string s):=f7;go_enter func113,ntmps113;go_upto_region 1 with fail
    go_still (by kernel_rfl)
    obtain ⟨R1,hU⟩:=zX W1.drew;have gp:Below W1.heap.size W1 R1:=by rw [← hU];exact (dW _ _).drew
    change Exit.then _ _ Exit.normal _ W1.drew
    rw [hU] at Hm Hn Hp ⊢;clear hU;go_upto_region 4 with fail
    go_still (by kernel_rfl)
    change Exit.then _ _ Exit.normal _ R1.drew
    have HD:Below W1.heap.size W1 R1.drew:=gp.drew;go_wp2;go_ret2;have HE:=gC.ah;subst HE;exact ⟨_,_,_,rfl,⟨⟨_,_,_,l8.ah.below HD,fun e=>absurd e (by decide)⟩,iC.below b _ p (bi.ah.trans (HD.mono bi.ah.size)),fun e=>absurd e (by decide)⟩⟩
   ·have q3:((s.size:Int)>d)=False:=dR (by omega)
    have gc:=Sl.mk (Int.not_lt.1 ia);have oR:Sl (r=dY ae aN op ([]++bytes s)):=⟨by rw [← HR.ah,rh.ah]⟩;clear ia un hn Zh nA z7 hd As;have Hm:W1.drew.cell? ⟨b,0,none⟩=some (.int .i64 ae):=c0;have Hn:W1.drew.cell? ⟨b,2,none⟩=some (.slice a0 n k0):=c2;have Hp:W1.drew.cell? ⟨g,7,none⟩=some (.string s):=f7;go_enter func113,ntmps113;go_upto_region 1 with fail
    go_still (by kernel_rfl)
    obtain ⟨R1,hU⟩:=zX W1.drew;have gp:Below W1.heap.size W1 R1:=by rw [← hU];exact (dW _ _).drew
    change Exit.then _ _ Exit.normal _ W1.drew
    rw [hU] at Hm Hn Hp ⊢;clear hU;go_upto_region 4 with fail
    go_still (by kernel_rfl)
    change Exit.then _ _ Exit.normal _ R1.drew
    have HV:Sl (Below W1.heap.size W1 R1.drew):=⟨gp.drew⟩;clear gp Hm Hn Hp;go_upto_region 7 with fail
    obtain ⟨Rw,u1⟩:=zX R1.drew.drew;have aM:Below R1.drew.heap.size R1.drew Rw:=by rw [← u1];exact (dW _ _).drew
    refine Ai ?_;refine Ah (S:=fun V=>V.heap[g]? = some (.cells (zV aN op m ka kb kc kd s) 61 (0,0))) (by kernel_rfl) ?_;change wpAnyH _ _ _ _ _ _ _ _ R1.drew.drew;rw [u1];clear u1;have Hs:Below W1.heap.size W1 Rw:=HV.ah.trans (aM.mono HV.ah.size);have al:=ay ir.ah Hs;have ly:=l8.ah.below Hs;have C:=oq.AB Rw;refine zT 0 (some 37) (.move (.tmp 0)) _ al ?_;simp only [zA,zB,zS];refine zT 1 (some 38) (.fieldAddr 61 (.tmp 3) 1) _ al ?_;simp only [zA,zB,zS];refine zT 2 (some 39) (.load 3 (.tmp 38)) _ al ?_ (hy:=fun o' ho W hS=>by obtain ⟨_,hc,_,_,_,_,_,_⟩:=oZ hS;simp only [execOp,ho];go_simp;try rfl);simp only [zA,zB,zS];refine zC 3 (some 40) (.call {callee:=.value (.func 141),args:=#[],argTypes:=#[]}) 141 #[] ?_;refine (C).mono ?_;rintro e w4 ⟨rfl,cS⟩;have br:Below Rw.heap.size Rw w4:=by rw [cS];exact (dW _ _).alloc (aY _) _
    have cx:o7 w4 Rw.heap.size (some s0):=by rw [cS];exact MK _
    have gr:=ay al br;refine ⟨_,rfl,gr,?_⟩;simp only [zA,zB,zS];refine zT 4 (some 41) (.build 122 #[(0,.tmp 39),(2,.tmp 40)]) _ gr ?_;simp only [zA,zB,zS];refine zT 5 (some 42) (.nilCheck (.tmp 37)) _ gr ?_;simp only [zA,zB,zS];refine zT 6 (some 43) (.fieldAddr 124 (.tmp 42) 1) _ gr ?_;simp only [zA,zB,zS];obtain ⟨vo,xd⟩:=OP ly br (aY _) cx Zg.ah;obtain ⟨W5,W3⟩:=zX (w4.setCells b 1 [.int .i64 op,.slice none 0 0,.pointer (some ⟨Rw.heap.size,0,none⟩)]);rw [W3] at vo xd;rw [← Tf op] at vo;have ht4:=OQ (ly.below br);have NB:b≠g:=by have h1:=DS.ah b (.inl rfl);have h2:=Bx.ah;omega
    have sf:Sl (W5.heap[g]? = some (.cells (zV aN op m ka kb kc kd s) 61 (0,0))):=⟨by
     rw [← W3,(jJ b _ 1 w4).block g (zl gr) (fun e=>NB (by injection e with e;exact e.symm))];exact gr⟩
    refine zW 7 none (.store 122 (.tmp 43) (.tmp 41)) 0 W5 sf.ah ?_ (hy:=fun o' ho ht=>by rw [← W3];exact OR ho (by rfl) (by rfl) ht4 rfl (Gs _ _ _ _ _));simp only [Act.put];refine zE (by kernel_rfl) ?_;have HMV:=Sl.mk vo;have HGV:=Sl.mk ((iC.below b (.slice a0 n k0) p Hs).trans xd);obtain ⟨pc,xe⟩:=zX Rw.heap.size;rw [xe] at HMV HGV;clear vo xd W3 ht4 NB gr cx br cS C ly al Hs aM;go_upto_region 8 with fail
    obtain ⟨f50,_,_,_,_,_,_,f57⟩:=oZ sf.ah;go_still_tail 7,(by kernel_rfl)
    change wpList _ _ _ _ _ W5.drew;clear f50 f57;have Pr:Below W5.heap.size W5 W5.drew:=(dW _ _).drew;have ma:=HMV.ah.below Pr;have it:=HGV.ah.trans (iC.below b _ _ Pr);have Zi:W5.drew.heap[g]? = some (.cells (zV aN op m ka kb kc kd s) 61 (0,0)):=sf.ah;have CA:=MQ ma Zg.ah HG.ah s aN HS.ah o6.ah _ (MU op aN [] (bytes s));have Zj:Sl (¬ gQ b _ _ g):=⟨fun e=>by
     have h1:=DS.ah g;rcases it.dy g e with h2 | h2
     ·have:=h1 h2
      have:=Bx.ah;omega
     ·have:=(zl ir.ah)
      omega⟩
    have By:=Sl.mk it;have vp:=Sl.mk Zi;clear ma it Zi Pr;go_wp2_with fail
    refine CA.mono ?_;rintro e w6 ⟨v6,rfl,fi,gL⟩;clear CA;have LL:Sl (w6.heap[g]? = some (.cells (zV aN op m ka kb kc kd s) 61 (0,0))):=⟨by rw [gL.ah.kept.block g (zl vp.ah) Zj.ah];exact vp.ah⟩;have Ps:=Sl.mk ((iC.below b _ _ bi.ah).trans (By.ah.trans gL.ah));obtain ⟨k,hk⟩:=zX (wu op aN ([]++bytes s));have HK:=Sl.mk hk;obtain ⟨f0,_,_,_,_,_,_,_⟩:=oZ LL.ah;rw [hk];clear hk gL By vp Zj;cases k with
    | false =>
      have gC:Sl (r=(gG 122,none)):=⟨by
       rw [oR.ah,dY,if_neg (Int.not_lt.2 gc.ah),if_pos HK.ah]⟩
      go_wp2;go_ret2;have HE:=gC.ah;subst HE;exact ⟨_,_,_,rfl,⟨⟨_,_,_,fi.ah,fun e=>absurd e (by decide)⟩,Ps.ah,fun e=>absurd e (by decide)⟩⟩
    | true =>
      cases aN with
      | false =>
        have gC:Sl (r=(⟨0,false,true,op,[]++bytes s⟩,none)):=⟨by
         rw [oR.ah,dY,if_neg (Int.not_lt.2 gc.ah),if_neg (by rw [HK.ah];decide),if_neg (by decide)]⟩
        go_wp2;go_ret2;have HE:=gC.ah;subst HE;exact ⟨_,_,_,rfl,⟨⟨_,_,_,fi.ah,fun _=>⟨rfl,rfl,B7 _ _ _⟩⟩,Ps.ah,fun _=>rfl⟩⟩
      | true =>
        have gC:Sl (r=(M0,some ⟨op,0,[]++bytes s⟩)):=⟨by
         rw [oR.ah,dY,if_neg (Int.not_lt.2 gc.ah),if_neg (by rw [HK.ah];decide),if_pos rfl]⟩
        obtain ⟨a6,n6,k6,rfl⟩:∃ a n k,v6=.slice a n k:=by obtain ⟨a,k,e⟩:=fi.ah.slice;exact ⟨a,_,k,e⟩
        obtain ⟨_,y1,y2,y3,_,_⟩:=fi.ah.cells;have rR:Sl (w6.rangeAt b 1 [.int .i64 op,.slice a6 n6 k6,.pointer (some ⟨pc,0,none⟩)]):=⟨fun j u hu=>by
         match j,hu with
         | 0,hu=>injection hu with hu;subst hu;exact y1
         | 1,hu=>injection hu with hu;subst hu;exact y2
         | 2,hu=>injection hu with hu;subst hu;exact y3⟩
        obtain ⟨w7,gk⟩:=zX ((w6.alloc (.cells #[.int .i64 0,.slice none 0 0,.pointer none] 122)).setRow w6.heap.size #[.int .i64 op,.slice a6 n6 k6,.pointer (some ⟨pc,0,none⟩)]);have fj:Sl (Below w6.heap.size w6 w7):=⟨by rw [← gk];exact below_setRow ((dW _ _).alloc (aY _) _) (aY _) _⟩;have nB:Sl (w7.heap[w6.heap.size]? = some (.cells #[.int .i64 op,.slice a6 n6 k6,.pointer (some ⟨pc,0,none⟩)] 122 (0,0))):=⟨by rw [← gk];exact gY _ _ _ _ _ _ (aI _ _ _ rfl)⟩;have ej:=Sl.mk (fi.ah.below fj.ah);obtain ⟨_,x1,x2,x3,_,_⟩:=ej.ah.cells;have z1:=ej.ah.fF 1;have z2:=ej.ah.fF 2;have z3:=ej.ah.fF 3;have HI:=BZ (cs:=#[.int .i64 op,.slice a6 n6 k6,.pointer (some ⟨pc,0,none⟩)]) rfl;have ri:Sl ((#[.int .i64 op,.slice a6 n6 k6,.pointer (some ⟨pc,0,none⟩)]:Array Value).all (·.oneCell')=true):=⟨Gs _ _ _ _ _⟩;clear y1 y2 y3;go_upto_region 13 with (first | (refine wpList_load_mid rfl 122 (.tmp 58) rfl b 1 rfl [.int .i64 op,.slice a6 n6 k6,.pointer (some ⟨pc,0,none⟩)] _ rR.ah underlying122 rfl HI ?_) | (refine fG rfl 122 (.tmp 8) (.tmp 59) rfl w6.heap.size #[.int .i64 op,.slice a6 n6 k6,.pointer (some ⟨pc,0,none⟩)] rfl rfl 122 #[.int .i64 0,.slice none 0 0,.pointer none] (aI _ _ _ rfl) HI rfl ri.ah ?_))
        rw [gk];clear gk HI;go_wp2;go_ret2;have HE:=gC.ah;subst HE;obtain ⟨hm9,hg9,Zk⟩:=MS ej.ah (iV _ _) ej.ah.X;have bz:=(zl nB.ah);have eW:w6.heap.size≠b:=by have:=fi.ah.lt;omega
        exact ⟨_,_,_,rfl,⟨⟨_,_,_,hm9,fun _=>⟨rfl,rfl,rfl⟩⟩,(Ps.ah.trans (iC.below b _ _ fj.ah)).trans hg9,fun _=>⟨_,_,rfl,fun args V=>by kernel_rfl,EE (by rw [Zk.block _ bz (fun e=>eW (by injection e))];exact nB.ah) (ej.ah.O.kept Zk (.inr (lT ej.ah.O ej.ah.X (by decide))))⟩⟩⟩
 ·by_cases h0:op=0
  ·subst h0
   have q1:(st.op != 0)=true:=by simpa using ho
   have rh:Sl (B9 ae st aN 0 (bytes s)=dY ae aN st.op (st.aT++bytes s)):=⟨by
    show (if decide ((0:Int)=0)≠st.cg then _ else _)=_
    rw [hb];rfl
   ⟩
   have Zg:Sl (st.op≠0):=⟨ho⟩;obtain ⟨n,hn⟩:=zX st.aT.length;have Zh:n≤1048576:=by have:=mT.ah;omega
   obtain ⟨a0,k0,pu⟩:=l8.ah.slice;rw [hn] at pu;subst pu;obtain ⟨c0,_,c2,_,_,_⟩:=l8.ah.cells;obtain ⟨_,_,_,_,_,_,_,f7⟩:=oZ ir.ah;obtain ⟨d,hd⟩:∃ d:Int,ae-(n:Int)=d:=⟨_,rfl⟩;have nA:=HLO.ah;have z7:=HHI.ah;have z1:IntKind.i64.wrap (ae-(n:Int))=d:=by rw [lZ];omega
   have z2:wrap64 (ae-(n:Int))=d:=by unfold wrap64;omega
   have o6:Sl ((st.aT:List Nat).length≤2000000):=⟨by omega⟩;have un:(((st.aT++bytes s:List Nat).length:Nat):Int)=n+s.size:=by rw [jB,au,hn];omega
   by_cases ia:ae<(((st.aT++bytes s:List Nat).length:Nat):Int)
   ·have q3:((s.size:Int)>d)=True:=eq_true (by omega)
    have gC:Sl (r=(gG 121,none)):=⟨by
     rw [← HR.ah];rw [rh.ah,dY,if_pos ia]
    ⟩
    clear ia un hn Zh nA z7 hd;have Hm:W1.drew.cell? ⟨b,0,none⟩=some (.int .i64 ae):=c0;have Hn:W1.drew.cell? ⟨b,2,none⟩=some (.slice a0 n k0):=c2;have Hp:W1.drew.cell? ⟨g,7,none⟩=some (.string s):=f7;go_enter func113,ntmps113;go_upto_region 1 with fail
    go_still (by kernel_rfl)
    obtain ⟨R1,hU⟩:=zX W1.drew;have gp:Below W1.heap.size W1 R1:=by rw [← hU];exact (dW _ _).drew
    change Exit.then _ _ Exit.normal _ W1.drew
    rw [hU] at Hm Hn Hp ⊢;clear hU;go_upto_region 4 with fail
    go_still (by kernel_rfl)
    change Exit.then _ _ Exit.normal _ R1.drew
    have HD:Below W1.heap.size W1 R1.drew:=gp.drew;go_wp2;go_ret2;have HE:=gC.ah;subst HE;exact ⟨_,_,_,rfl,⟨⟨_,_,_,l8.ah.below HD,fun e=>absurd e (by decide)⟩,iC.below b _ p (bi.ah.trans (HD.mono bi.ah.size)),fun e=>absurd e (by decide)⟩⟩
   ·have q3:((s.size:Int)>d)=False:=dR (by omega)
    have gc:=Sl.mk (Int.not_lt.1 ia);have oR:Sl (r=dY ae aN st.op (st.aT++bytes s)):=⟨by rw [← HR.ah,rh.ah]⟩;clear ia un hn Zh nA z7 hd;have Hm:W1.drew.cell? ⟨b,0,none⟩=some (.int .i64 ae):=c0;have Hn:W1.drew.cell? ⟨b,2,none⟩=some (.slice a0 n k0):=c2;have Hp:W1.drew.cell? ⟨g,7,none⟩=some (.string s):=f7;go_enter func113,ntmps113;go_upto_region 1 with fail
    go_still (by kernel_rfl)
    obtain ⟨R1,hU⟩:=zX W1.drew;have gp:Below W1.heap.size W1 R1:=by rw [← hU];exact (dW _ _).drew
    change Exit.then _ _ Exit.normal _ W1.drew
    rw [hU] at Hm Hn Hp ⊢;clear hU;go_upto_region 4 with fail
    go_still (by kernel_rfl)
    change Exit.then _ _ Exit.normal _ R1.drew
    have HV:Sl (Below W1.heap.size W1 R1.drew):=⟨gp.drew⟩;clear gp Hm Hn Hp;go_upto_region 8 with fail
    obtain ⟨W5,W3⟩:=zX R1.drew;rw [W3] at HV ⊢;have HMV:=Sl.mk (l8.ah.below HV.ah);have HGV:Sl (iC W1 W5 b (.slice a0 n k0) p (.slice a0 n k0) p):=⟨iC.below b _ p HV.ah⟩;have sf:Sl (W5.heap[g]? = some (.cells (zV aN 0 m ka kb kc kd s) 61 (0,0))):=⟨ay ir.ah HV.ah⟩;obtain ⟨cp,An⟩:∃ c,p=.pointer (some ⟨c,0,none⟩):=by obtain ⟨c,hc,_⟩:=l8.ah.C Zg.ah;exact ⟨c,hc⟩
    subst An;obtain ⟨f50,_,_,_,_,_,_,f57⟩:=oZ sf.ah;go_still_tail 7,(by kernel_rfl)
    change wpList _ _ _ _ _ W5.drew;clear f50 f57;have Pr:Below W5.heap.size W5 W5.drew:=(dW _ _).drew;have ma:=HMV.ah.below Pr;have it:=HGV.ah.trans (iC.below b _ _ Pr);have Zi:W5.drew.heap[g]? = some (.cells (zV aN 0 m ka kb kc kd s) 61 (0,0)):=sf.ah;have CA:=MQ ma Zg.ah HG.ah s aN HS.ah o6.ah _ (MU st.op aN st.aT (bytes s));have Zj:Sl (¬ gQ b _ _ g):=⟨fun e=>by
     have h1:=DS.ah g;rcases it.dy g e with h2 | h2
     ·have:=h1 h2
      have:=Bx.ah;omega
     ·have:=(zl ir.ah)
      omega⟩
    have By:=Sl.mk it;have vp:=Sl.mk Zi;clear ma it Zi Pr;go_wp2_with fail
    refine CA.mono ?_;rintro e w6 ⟨v6,rfl,fi,gL⟩;clear CA;have LL:Sl (w6.heap[g]? = some (.cells (zV aN 0 m ka kb kc kd s) 61 (0,0))):=⟨by rw [gL.ah.kept.block g (zl vp.ah) Zj.ah];exact vp.ah⟩;have Ps:=Sl.mk ((iC.below b _ _ bi.ah).trans (By.ah.trans gL.ah));obtain ⟨k,hk⟩:=zX (wu st.op aN (st.aT++bytes s));have HK:=Sl.mk hk;obtain ⟨f0,_,_,_,_,_,_,_⟩:=oZ LL.ah;rw [hk];clear hk gL By vp Zj;cases k with
    | false =>
      have gC:Sl (r=(gG 122,none)):=⟨by
       rw [oR.ah,dY,if_neg (Int.not_lt.2 gc.ah),if_pos HK.ah]⟩
      go_wp2;go_ret2;have HE:=gC.ah;subst HE;exact ⟨_,_,_,rfl,⟨⟨_,_,_,fi.ah,fun e=>absurd e (by decide)⟩,Ps.ah,fun e=>absurd e (by decide)⟩⟩
    | true =>
      cases aN with
      | false =>
        have gC:Sl (r=(⟨0,false,true,st.op,st.aT++bytes s⟩,none)):=⟨by
         rw [oR.ah,dY,if_neg (Int.not_lt.2 gc.ah),if_neg (by rw [HK.ah];decide),if_neg (by decide)]⟩
        go_wp2;go_ret2;have HE:=gC.ah;subst HE;exact ⟨_,_,_,rfl,⟨⟨_,_,_,fi.ah,fun _=>⟨rfl,rfl,B7 _ _ _⟩⟩,Ps.ah,fun _=>rfl⟩⟩
      | true =>
        have gC:Sl (r=(M0,some ⟨st.op,0,st.aT++bytes s⟩)):=⟨by
         rw [oR.ah,dY,if_neg (Int.not_lt.2 gc.ah),if_neg (by rw [HK.ah];decide),if_pos rfl]⟩
        obtain ⟨a6,n6,k6,rfl⟩:∃ a n k,v6=.slice a n k:=by obtain ⟨a,k,e⟩:=fi.ah.slice;exact ⟨a,_,k,e⟩
        obtain ⟨_,y1,y2,y3,_,_⟩:=fi.ah.cells;have rR:Sl (w6.rangeAt b 1 [.int .i64 st.op,.slice a6 n6 k6,.pointer (some ⟨cp,0,none⟩)]):=⟨fun j u hu=>by
         match j,hu with
         | 0,hu=>injection hu with hu;subst hu;exact y1
         | 1,hu=>injection hu with hu;subst hu;exact y2
         | 2,hu=>injection hu with hu;subst hu;exact y3⟩
        obtain ⟨w7,gk⟩:=zX ((w6.alloc (.cells #[.int .i64 0,.slice none 0 0,.pointer none] 122)).setRow w6.heap.size #[.int .i64 st.op,.slice a6 n6 k6,.pointer (some ⟨cp,0,none⟩)]);have fj:Sl (Below w6.heap.size w6 w7):=⟨by rw [← gk];exact below_setRow ((dW _ _).alloc (aY _) _) (aY _) _⟩;have nB:Sl (w7.heap[w6.heap.size]? = some (.cells #[.int .i64 st.op,.slice a6 n6 k6,.pointer (some ⟨cp,0,none⟩)] 122 (0,0))):=⟨by rw [← gk];exact gY _ _ _ _ _ _ (aI _ _ _ rfl)⟩;have ej:=Sl.mk (fi.ah.below fj.ah);obtain ⟨_,x1,x2,x3,_,_⟩:=ej.ah.cells;have z1:=ej.ah.fF 1;have z2:=ej.ah.fF 2;have z3:=ej.ah.fF 3;have HI:=BZ (cs:=#[.int .i64 st.op,.slice a6 n6 k6,.pointer (some ⟨cp,0,none⟩)]) rfl;have ri:Sl ((#[.int .i64 st.op,.slice a6 n6 k6,.pointer (some ⟨cp,0,none⟩)]:Array Value).all (·.oneCell')=true):=⟨Gs _ _ _ _ _⟩;clear y1 y2 y3;go_upto_region 13 with (first | (refine wpList_load_mid rfl 122 (.tmp 58) rfl b 1 rfl [.int .i64 st.op,.slice a6 n6 k6,.pointer (some ⟨cp,0,none⟩)] _ rR.ah underlying122 rfl HI ?_) | (refine fG rfl 122 (.tmp 8) (.tmp 59) rfl w6.heap.size #[.int .i64 st.op,.slice a6 n6 k6,.pointer (some ⟨cp,0,none⟩)] rfl rfl 122 #[.int .i64 0,.slice none 0 0,.pointer none] (aI _ _ _ rfl) HI rfl ri.ah ?_))
        rw [gk];clear gk HI;go_wp2;go_ret2;have HE:=gC.ah;subst HE;obtain ⟨hm9,hg9,Zk⟩:=MS ej.ah (iV _ _) ej.ah.X;have bz:=(zl nB.ah);have eW:w6.heap.size≠b:=by have:=fi.ah.lt;omega
        exact ⟨_,_,_,rfl,⟨⟨_,_,_,hm9,fun _=>⟨rfl,rfl,rfl⟩⟩,(Ps.ah.trans (iC.below b _ _ fj.ah)).trans hg9,fun _=>⟨_,_,rfl,fun args V=>by kernel_rfl,EE (by rw [Zk.block _ bz (fun e=>eW (by injection e))];exact nB.ah) (ej.ah.O.kept Zk (.inr (lT ej.ah.O ej.ah.X (by decide))))⟩⟩⟩
  ·skip
   have gC:Sl (r=(gG 120,none)):=⟨by
    rw [← HR.ah]
    show (if decide (op=0)≠st.cg then _ else _)=_
    rw [hb,iQ h0];rfl
   ⟩
   have q1:(st.op != 0)=true:=by simpa using ho
   have q2:(op != 0)=true:=by simpa using h0
   go_enter func113,ntmps113;go_upto_region 1 with fail
   go_still (by kernel_rfl)
   have HD:Below W1.heap.size W1 W1.drew:=(dW _ _).drew;go_wp2;go_ret2;have HE:=gC.ah;subst HE;exact ⟨_,_,_,rfl,⟨⟨_,_,_,l8.ah.below HD,fun e=>absurd e (by decide)⟩,iC.below b _ p (bi.ah.trans (HD.mono bi.ah.size)),fun e=>absurd e (by decide)⟩⟩
end
open Go.RowKit bg aA gK oq Gh
open aC (Fr dF nI aQ bn eF)
open aG (iy)
theorem Tj (h:dF f=false):aA.step ae st f=(gG 120,none):=if_pos h
theorem tY (h:dF f=true) (ho:f.op=9∨f.op=10):aA.step ae st f=(st,some ⟨f.op,0,f.data⟩):=by
 unfold aA.step;rw [if_neg (by rw [h];decide),if_pos ho]
theorem wX (h:dF f=true) (ho:f.op=8):aA.step ae st f=IC (iy f.data):=by
 unfold aA.step;rw [if_neg (by rw [h];decide),if_neg (by omega),if_pos ho];rfl
theorem Kv (h:dF f=true) (ho:¬ (f.op=9∨f.op=10)) (h8:¬ f.op=8):aA.step ae st f=B9 ae st f.aN f.op f.data:=by
 unfold aA.step;rw [if_neg (by rw [h];decide),if_neg ho,if_neg h8];rfl
section
variable {w0 W:World} {b:Nat} {ae:Int} {st:Ms} {v p:Value}
theorem rU (h:gU w0 W b ae st v p) (he:st.bj=0) (eJ:st.aL=false) (hg:oq.bD w0) (aN:Bool) (op:Int) (m:Bool) (ka kb kc kd:Nat) (s:ByteArray) (hk:aU 256 [ka,kb,kc,kd]) (hs:s.size≤100000) :
 Calls prog 84 #[.pointer (some ⟨b,0,none⟩),(.agg (zV aN op m ka kb kc kd s))] W fun e w'=>∃ v' p' tv,e=.returned (.tuple #[tv,.int .i64 ((aA.step ae st (⟨aN,op,m,[ka,kb,kc,kd],bytes s⟩:Fr)).1.bj:Int)])∧Sl (ON w0 W w' b ae (aA.step ae st (⟨aN,op,m,[ka,kb,kc,kd],bytes s⟩:Fr)) v p v' p' tv):=by
 obtain ⟨r,hr⟩:=zX (aA.step ae st (⟨aN,op,m,[ka,kb,kc,kd],bytes s⟩:Fr));rw [hr];obtain ⟨W1,Ay⟩:=zX (W.alloc (.cells (zV aN op m ka kb kc kd s) 61));have bi:Sl (Below W.heap.size W W1):=⟨by rw [← Ay];exact (dW _ _).alloc (aY _) _⟩;have ir:Sl (W1.heap[W.heap.size]? = some (.cells (zV aN op m ka kb kc kd s) 61 (0,0))):=⟨by rw [← Ay];exact aI _ _ _ rfl⟩;obtain ⟨e0,e1,e2,e3,e4,e5,e6,e7⟩:=oZ ir.ah;have CK:=kY aN op m ka kb kc kd s W1 hk;have HM:=Sl.mk h;have HG:=Sl.mk hg;have HS:=Sl.mk hs;have HR:=Sl.mk hr;have HE:=Sl.mk he;have HO:=Sl.mk eJ;clear hr hg hs hk h he eJ;cases hf:dF (⟨aN,op,m,[ka,kb,kc,kd],bytes s⟩:Fr) with
 | false =>
   rw [gK.rJ hf] at CK;have gC:Sl (r=(gG 120,none)):=⟨by rw [← HR.ah];exact Tj hf⟩;clear hf;go_enter func84,ntmps84;go_wp2_with fail
   refine CK.mono ?_;rintro e w2 ⟨rfl,bk⟩;clear CK;go_wp2;go_ret2;have BS:=gC.ah;subst BS;have hb:=bi.ah.trans (bk.ah.mono bi.ah.size);have hm:=(HM.ah.below hb).m;rw [HE.ah,HO.ah] at hm;exact ⟨_,_,_,rfl,⟨⟨_,_,_,hm,fun e=>absurd e (by decide)⟩,iC.below b _ _ hb,fun e=>absurd e (by decide)⟩⟩
 | true =>
   obtain ⟨k,hk⟩:=zX (nI (⟨aN,op,m,[ka,kb,kc,kd],bytes s⟩:Fr));have Y7:(((k:Nat):Int)==91)=false:=by
    refine mJ.2 (fun e=>?_);have e':k=91:=by omega
    rw [← hk] at e';unfold nI at e';rw [if_neg (by rw [hf];decide)] at e';split at e'<;>cases e'
   rw [hk] at CK;have HF:=Sl.mk hf;clear hk hf;by_cases hp:op=9∨op=10
   ·have gC:Sl (r=(st,some ⟨op,0,bytes s⟩)):=⟨by rw [← HR.ah];exact tY HF.ah hp⟩
    rcases hp with rfl | rfl;all_goals
     go_enter func84,ntmps84;go_wp2_with fail
     refine CK.mono ?_;rintro e w2 ⟨rfl,bk⟩;clear CK;have nz:Sl (w2.heap[W.heap.size]? = some (.cells _ 61 (0,0))):=⟨ay ir.ah bk.ah⟩;obtain ⟨_,g1,_,_,_,_,_,_⟩:=oZ nz.ah;go_wp2;go_ret2;have BS:=gC.ah;subst BS;have hb:=bi.ah.trans (bk.ah.mono bi.ah.size);have hm:=(HM.ah.below hb).m;rw [HE.ah] at hm;exact ⟨_,_,_,by rw [HE.ah];rfl,⟨⟨_,_,_,hm,fun _=>⟨rfl,rfl,rfl⟩⟩,iC.below b _ _ hb,fun _=>⟨_,_,rfl,fun args V=>by kernel_rfl,OI nz.ah (by have:=HS.ah;omega)⟩⟩⟩
   ·have n9:(op==9)=false:=mJ.2 (fun e=>hp (.inl e))
    have n10:(op==10)=false:=mJ.2 (fun e=>hp (.inr e));by_cases h8:op=8
    ·subst h8
     have gC:Sl (r=IC (iy (bytes s))):=⟨by rw [← HR.ah];exact wX HF.ah rfl⟩;clear hp;go_enter func84,ntmps84;go_wp2_with fail
     refine CK.mono ?_;rintro e w2 ⟨rfl,bk⟩;clear CK;have nz:Sl (w2.heap[W.heap.size]? = some (.cells _ 61 (0,0))):=⟨ay ir.ah bk.ah⟩;obtain ⟨_,g1,_,_,_,_,_,g7⟩:=oZ nz.ah;have hb:=bi.ah.trans (bk.ah.mono bi.ah.size);have hm:=(HM.ah.below hb).m;rw [HE.ah,HO.ah] at hm;have Hv:=Sl.mk hb;have CE:=Vy hm HG.ah s (by have:=HS.ah;omega);clear hm hb;go_wp2_with fail
     refine CE.mono ?_;rintro e w3 ⟨v',p',tv,rfl,D1⟩;clear CE;go_wp2;go_ret2;have BS:=gC.ah;subst BS;exact ⟨_,_,_,rfl,⟨D1.ah.before Hv.ah⟩⟩
    ·have n8:(op==8)=false:=mJ.2 h8
     have gC:Sl (r=B9 ae st aN op (bytes s)):=⟨by rw [← HR.ah];exact Kv HF.ah hp h8⟩;have cY:0≤op∧op≤2:=by
      rcases (eF HF.ah).1 with h | ⟨h1,h2,_⟩
      ·exact h
      ·exact absurd (show op=8∨op=9∨op=10 from by have rj:8≤op:=h1;have xf:op≤10:=h2;omega) (fun e=>e.elim h8 hp)
     have WF:=Sl.mk cY;clear hp h8 cY;go_enter func84,ntmps84;go_wp2_with fail
     refine CK.mono ?_;rintro e w2 ⟨rfl,bk⟩;clear CK;have nz:Sl (w2.heap[W.heap.size]? = some (.cells _ 61 (0,0))):=⟨ay ir.ah bk.ah⟩;obtain ⟨g0,g1,g2,g3,g4,g5,g6,g7⟩:=oZ nz.ah;have Hv:=Sl.mk (bi.ah.trans (bk.ah.mono bi.ah.size));have CE:=Ti (HM.ah.below Hv.ah) HE.ah HO.ah HG.ah aN op m ka kb kc kd s WF.ah HS.ah;clear e0 e1 e2 e3 e4 e5 e6 e7;go_wp2_with fail
     refine CE.mono ?_;rintro e w3 ⟨v',p',tv,rfl,D1⟩;clear CE;go_wp2;go_ret2;have BS:=gC.ah;subst BS;exact ⟨_,_,_,rfl,⟨D1.ah.before Hv.ah⟩⟩
end
end
end Go.Proofs.YtlahonjmfecikaaGreatDoor.jG
namespace Go.Proofs.YtlahonjmfecikaaGreatDoor.iL
open Go.RowKit aO jF cO
open aC (Fr dn dF nI aQ bn)
section
variable {i j b L r m k:Nat} {W:World} {o:Oper} {fs:List Fr} {a:Option Addr} {bs:List Nat}
def Gn (size ae:Int):Nat:=if size<0∨1048576<size∨ae<1∨65536<ae then 0 else FK size.toNat ae.toNat
theorem Vw {size ae:Int} (h:size<0∨1048576<size∨ae<1∨65536<ae):Gn size ae=0:=if_pos h
theorem Iu {size ae:Nat} (h1:size≤1048576) (h2:1≤ae) (h3:ae≤65536):Gn (size:Int) (ae:Int)=FK size ae:=by
 unfold Gn;rw [if_neg (by omega)];rfl
theorem OJ (size ae:Int) (w:World):Calls prog 88 #[.int .i64 size,.int .i64 ae] w fun e w'=>e=.returned (.int .i64 ((Gn size ae:Nat):Int))∧w=w':=by
 by_cases hr:0≤size∧size≤1048576∧1≤ae∧ae≤65536
 ·obtain ⟨h1,h2,h3,h4⟩:=hr
  obtain ⟨s,rfl⟩:=JH h1;obtain ⟨m,rfl⟩:=JH (show 0≤ae by omega);have HC:Sl (Gn (s:Int) (m:Int)=FK s m):=⟨Iu (by omega) (by omega) (by omega)⟩;obtain ⟨q,hq⟩:=zX ((s+m-1) / m);have nf:((s:Int)+(m:Int)-1).tdiv (m:Int)=(q:Int):=by
   rw [← hq,show (s:Int)+(m:Int)-1=((s+m-1:Nat):Int) from by omega];rfl
  have Zc:q≤s+m:=by rw [← hq];exact jd (Nat.div_le_self _ _) (by omega)
  have z1:IntKind.i64.wrap ((s:Int)+(m:Int))=(s:Int)+(m:Int):=by rw [lZ];omega
  have z2:IntKind.i64.wrap ((s:Int)+(m:Int)-1)=(s:Int)+(m:Int)-1:=by rw [lZ];omega
  have z3:IntKind.i64.wrap (q:Int)=(q:Int):=by rw [lZ];omega
  have a1:((s:Int)<0)=False:=dR (by omega);have a2:((s:Int)>1048576)=False:=dR (by omega);have a3:((m:Int)<1)=False:=dR (by omega);have a4:((m:Int)>65536)=False:=dR (by omega);have a5:((m:Int)==0)=false:=by simp;omega
  have a6:(m=0)=False:=dR (by omega);have HQ:Sl (FK s m=if 1<q then q else 1):=⟨by
   have hm:1≤m:=by omega
   have h5:=(uU (size:=s) hm).1;have e:FK s m=if s=0 then 1 else q:=by unfold FK;rw [hq]
   rw [e] at h5 ⊢;by_cases h0:s=0
   ·rw [if_pos h0,if_neg]
    subst h0;rw [← hq,vT,Nat.div_eq_of_lt (by omega)];omega
   ·rw [if_neg h0] at h5 ⊢
    split<;>omega⟩
  by_cases hb:1<q
  ·have b1:((1:Int)<(q:Int))=True:=eq_true (by omega)
   have b3:max (1:Int) (q:Int)=(q:Int):=by omega
   have b2:((q:Int)<1)=False:=dR (by omega);rw [if_pos hb] at HQ;clear h1 h2 h3 h4 hq Zc hb;go_enter func88,ntmps88;go_wp2;go_ret;exact ⟨by rw [HC.ah,HQ.ah];rfl,rfl⟩
  ·rw [if_neg hb] at HQ
   have b1:((1:Int)<(q:Int))=False:=dR (by omega);have b3:max (1:Int) (q:Int)=1:=by omega
   clear h1 h2 h3 h4 hq Zc hb;go_enter func88,ntmps88;go_wp2;go_ret;exact ⟨by rw [HC.ah,HQ.ah];rfl,rfl⟩
 ·have HC:Sl (Gn size ae=0):=⟨Vw (by omega)⟩
  by_cases h1:size<0
  ·have a1:(size<0)=True:=eq_true h1
   clear hr h1;go_enter func88,ntmps88;go_wp2;go_ret;exact ⟨by rw [HC.ah];rfl,rfl⟩
  have a1:(size<0)=False:=dR h1;by_cases h2:size>1048576
  ·have a2:(size>1048576)=True:=eq_true h2
   clear hr h1 h2;go_enter func88,ntmps88;go_wp2;go_ret;exact ⟨by rw [HC.ah];rfl,rfl⟩
  have a2:(size>1048576)=False:=dR h2;by_cases h3:ae<1
  ·have a3:(ae<1)=True:=eq_true h3
   clear hr h1 h2 h3;go_enter func88,ntmps88;go_wp2;go_ret;exact ⟨by rw [HC.ah];rfl,rfl⟩
  have a3:(ae<1)=False:=dR h3;have a4:(ae>65536)=True:=eq_true (by omega);clear hr h1 h2 h3;go_enter func88,ntmps88;go_wp2;go_ret;exact ⟨by rw [HC.ah];rfl,rfl⟩
theorem Iw (size ae:Int) (n:Nat) (hn:Gn size ae=n) (w:World):Calls prog 88 #[.int .i64 size,.int .i64 ae] w fun e w'=>e=.returned (.int .i64 (n:Int))∧w=w':=by
 subst hn;exact OJ size ae w
theorem BV (op:Int) (r:Bool) (hr:decide (op=1∨op=2)=r) (w:World):Calls prog 89 #[.int .i64 op] w fun e w'=>e=.returned (.bool r)∧w=w':=by
 by_cases h1:op=1
 ·obtain rfl:r=true:=by rw [← hr];exact iG (.inl h1)
  subst h1;clear hr;go_enter func89,ntmps89;go_wp2;go_ret;exact ⟨rfl,rfl⟩
 have q1:(op==1)=false:=by simp [h1]
 by_cases h2:op=2
 ·obtain rfl:r=true:=by rw [← hr];exact iG (.inr h2)
  subst h2;clear hr h1 q1;go_enter func89,ntmps89;go_wp2;go_ret;exact ⟨rfl,rfl⟩
 have q2:(op==2)=false:=by simp [h2]
 obtain rfl:r=false:=by rw [← hr];exact iQ (by omega)
 clear hr h1 h2;go_enter func89,ntmps89;go_wp2;go_ret;exact ⟨rfl,rfl⟩
open Go.RowKit aO jF gK jS
open aC (Fr dn dF nI aQ bn)
def eP (cs:List Value):Nat→List Value→List Value
 | _,[]=>cs
 | o,v :: vs=>eP (cs.set o v) (o+1) vs
theorem wW (g:Nat) (t:TypeId):∀ (vs:List Value) (o:Nat) (cs:List Value) (W:World),W.heap[g]? = some (.cells cs.toArray t (0,0))→(W.setCells g o vs).heap[g]? = some (.cells (eP cs o vs).toArray t (0,0))
 | [],_,_,_,h=>h
 | v :: vs,o,cs,W,h=>by
   have h1:=lF W g o _ t v h;rw [show cs.toArray.setIfInBounds o v=(cs.set o v).toArray from by simp] at h1;exact wW g t vs (o+1) (cs.set o v) _ h1
theorem Gp:∀ (fs:List Fr) (i j:Nat) (u:Value) (f:Fr),i<fs.length→j<8→cv f=(cv (fs.getD i dn)).set j u→(rO fs).set (i*8+j) u=rO (fs.set i f)
 | [],i,_,_,_,hi,_,_=>absurd hi (by simp)
 | g :: fs,0,j,u,f,_,hj,h=>by
   rw [List.set_cons_zero,lQ,lQ,Nat.zero_mul,vT,List.set_append_left _ _ (by simpa [cv] using hj),h];rfl
 | g :: fs,i+1,j,u,f,hi,hj,h=>by
   rw [List.set_cons_succ,lQ,lQ,List.set_append_right _ _ (by simp [cv];omega),show (i+1)*8+j-(cv g).length=i*8+j from by simp [cv];omega,
    Gp fs i j u f (by simpa using hi) hj (by simpa using h)]
def nG (W:World) (g:Nat) (fs:List Fr):Prop:=W.heap[g]? = some (.cells (rO fs).toArray 61 (0,0))
section
variable {W W':World} {g:Nat} {fs:List Fr}
theorem nG.lt (h:nG W g fs):g<W.heap.size:=(zl h)
theorem nG.below (h:nG W g fs) (k:Below W.heap.size W W'):nG W' g fs:=by
 unfold nG;rw [k.block g h.lt];exact h
theorem nG.cell (h:nG W g fs) (hi:i<fs.length) (hj:j<8):W.cell? ⟨g,i*8+j,none⟩=(cv (fs.getD i dn))[j]?:=by
 rw [jg _ _ _ _ _ _ h,Ed,qI fs i hi j hj]
theorem nG.fF (h:nG W g fs) (i:Nat):W.frozen? ⟨g,i,none⟩=false:=kT _ _ _ _ _ h
theorem nG.set (h:nG W g fs) (i j:Nat) (u:Value) (f:Fr) (hi:i<fs.length) (hj:j<8) (hf:cv f=(cv (fs.getD i dn)).set j u):nG (W.setCell ⟨g,i*8+j,none⟩ u) g (fs.set i f):=by
 have h1:=lF W g (i*8+j) _ 61 u h;unfold nG;rw [h1,← Gp fs i j u f hi hj hf];simp
end
theorem Iy {ev:Operand→Value} {x:Operand} {cs:List Value} (ho:o.op=.load 61 x) (hx:ev x=.pointer (some ⟨b,i,none⟩)) (hs:cs.length=8) (h:W.rangeAt b i cs):(execOp ev o).run prog W=.ok (.value (.agg cs.toArray)) W:=by
 unfold execOp;simp only [ho,hx,Instr.loadAt,Instr.sureAddr,rE,Sem.run_pure,Result.andThen_ok,run_loadVar_mid (P:=prog) W b i 61 cs _ h underlying61 rfl (by rw [hs];kernel_rfl)]
theorem aS.range {sb so n cap:Nat} (h:aS W (.slice (some ⟨sb,so,none⟩) n cap) fs) (i:Nat) (hi:i<fs.length):W.rangeAt sb (so+i*8) (cv (fs.getD i dn)):=fun j u hu=>by
 obtain ⟨a,fd,xz,xD,he,_,h3,h4⟩:=h;injection he with e1 e2 e3
 rw [h3 (by omega)] at e1;injection e1 with e1
 injection e1 with e4 e5
 subst e4 e5;have hj:j<8:=by have:=(LV.1 hu).1;simpa [cv] using this
 rw [h4 i hi j hj];exact hu
theorem cv0:cv dn=[.bool false,.int .i64 0,.bool false,.int .u8 0,.int .u8 0,.int .u8 0,.int .u8 0,.string ByteArray.empty]:=rfl
theorem OK:∀ (n:Nat),madeCells (Value.agg #[.bool false,.int .i64 0,.bool false,.int .u8 0,.int .u8 0,.int .u8 0,.int .u8 0,.string ByteArray.empty]).cells (n*8)=(rO (List.replicate n dn)).toArray:=fun n=>by
 apply Array.ext_getElem?;intro i;have h0:(rO (List.replicate n dn)).toArray[i]? = (rO (List.replicate n dn))[i]?:=by simp
 rw [h0];by_cases h:i<n*8
 ·have h1:i / 8<n:=by omega
  have h2:=qI (List.replicate n dn) (i / 8) (by simpa using h1) (i % 8) (by omega);rw [show i / 8*8+i % 8=i from by omega] at h2;have h3:(List.replicate n dn).getD (i / 8) dn=dn:=by simp [List.getD,h1]
  rw [h2,h3,cv0];simp [madeCells,Value.cells,h];have h8:i % 8<8:=Nat.mod_lt _ (by decide);generalize i % 8=k at h8 ⊢
  match k,h8 with
  | 0,_=>rfl
  | 1,_=>rfl
  | 2,_=>rfl
  | 3,_=>rfl
  | 4,_=>rfl
  | 5,_=>rfl
  | 6,_=>rfl
  | 7,_=>rfl
 ·rw [Array.getElem?_eq_none (by simp [madeCells];omega),List.getElem?_eq_none (by rw [eG];simp;omega)]
theorem SY (X:Int) (n:Nat) (hX:X=(n:Int)) (hn:n≤2000000) (w:World) :
 ∃ V,(Instr.makeSlice 34 (.int .i64 X) (.int .i64 X)).run prog w=.ok (.slice (some ⟨w.heap.size,0,none⟩) n n) V∧V=w.alloc (.cells (rO (List.replicate n dn)).toArray 61):=by
 subst hX;obtain ⟨i,hi,hz,h1,h2⟩:=info43;have:=run_make (P:=prog) w 34 61 i _ underlying34 hi hz .i64 .i64 (n:Int) (n:Int) (by omega) (by omega) (by rw [h2];omega) (by omega);rw [h1] at this;rw [show ((n:Int).toNat)=n from by omega,OK] at this;exact ⟨_,this,rfl⟩
theorem S9 (w:World) (n:Nat):nG (w.alloc (.cells (rO (List.replicate n dn)).toArray 61)) w.heap.size (List.replicate n dn):=aI _ _ _ rfl
open Go.RowKit aO jF gK jS cO
open aC (Fr dn dF nI aQ bn)
theorem fK {P:Program} {aR:Array Oper} {rest:List Oper} {a:Act} {Q:Exit→Act→World→Prop} {w:World} (fS:o.guard=none) (s x:Operand) (t ty:TypeId)
 (ho:o.op=.call {callee:=.builtin .append,args:=#[s,x],argTypes:=#[t,t]}) (Nm:o.type=ty) (v u v':Value) (w':World)
 (hs:a.eval s=v) (hx:a.eval x=u) (gd:(Builtin.append_ #[t,t] ty #[v,u]).run P w=.ok v' w')
 (h:wpList P aR Q rest (a.put o.dst v') w'):wpList P aR Q (o :: rest) a w:=by
 refine wpList_plain fS fun K hK=>?_
 unfold Oper.wp;have hy:(execOp a.eval o).run P w=.ok (.value v') w':=by
  rw [← Nm] at gd;simp [execOp,ho,resolve,invoke,builtin,hs,hx,gd,Result.andThen]
 rw [hy,Xp];exact hK _ _ h
open Go.RowKit aO jF gK jS cO
open aC (Fr dn dF nI aQ bn)
theorem MR (hk:∀ f∈fs,vw f) (i:Nat) (hi:i<fs.length):∃ aN op m,∃ ka kb kc kd:Nat,∃ s,fs.getD i dn=(⟨aN,op,m,[ka,kb,kc,kd],bytes s⟩:Fr)∧(cv (fs.getD i dn)).toArray=(zV aN op m ka kb kc kd s)∧aU 256 [ka,kb,kc,kd]∧fs.getD i dn∈fs:=by
 have hm:fs.getD i dn∈fs:=by rw [iw,lD hi];exact Hg _
 obtain ⟨aN,op,m,ka,kb,kc,kd,s,h1,h2,h3⟩:=BM (hk _ hm);exact ⟨aN,op,m,ka,kb,kc,kd,s,h1,h2,h3,hm⟩
theorem AO (fs:List Fr) (i:Nat) (hi:i<fs.length):fs.take (i+1)=fs.take i++[fs.getD i dn]:=by
 rw [List.take_add_one,lD hi,iw,lD hi];rfl
theorem tX (W:World) (cs:Array Value):∃ V,(W.alloc (.cells zZ 61)).setRow W.heap.size cs=V∧Sl (Below W.heap.size W V)∧Sl (V.heap[W.heap.size]? = some (.cells cs 61 (0,0))) :=
 ⟨_,rfl,⟨mh W cs⟩,⟨gY _ _ _ _ _ _ (dQ W _)⟩⟩
open Go.RowKit aO jF gK jS cO
open aC (Fr dn dF nI aQ bn)
theorem kS.from {cap:Nat} (h:kS W b (.slice a L cap) bs) (hr:r≤L) (hl:bs.length=L):kS W b (.slice (jy a r cap) (L-r) (cap-r)) (bs.drop r):=by
 obtain ⟨a',c',sb,so,he,h1,h2,h4,h3⟩:=h;injection he with e1 e2 e3
 subst e1 e3;refine ⟨_,_,sb,so+r,by rw [iP,hl],by rw [iP];omega,fun hp=>?_,fun hp=>h4 (by rw [iP] at hp;omega),fun i hi=>?_⟩
 ·rw [iP] at hp
  unfold jy;rw [if_neg (by omega),h2 (by omega),Dy,DD]
 ·rw [iP] at hi
  rw [UO,h3 (r+i) (by omega)];congr 3;rw [iw,iw,LW]
theorem bJ.upto {cap c:Nat} (h:bJ W (.slice a L cap) bs) (hr:r≤L) (hl:bs.length=L) (hc:r≤c):bJ W (.slice a r c) (bs.take r):=by
 obtain ⟨a',c',sb,so,he,h1,h2,h3⟩:=h;injection he with e1 e2 e3
 subst e1 e3;refine ⟨a,c,sb,so,by rw [kQ,hl,LX hr],by rw [kQ];omega,fun hp=>h2 (by rw [kQ] at hp;omega),fun i hi=>?_⟩;rw [kQ] at hi;rw [h3 i (by omega)];congr 3;rw [iw,iw,NP (by omega)]
theorem EF (V:World) (q o R c N o':Nat) (hN:N≤R) (ho:(if c=N then o else o+N)=o') :
 (Instr.slice 49 (.slice (some ⟨q,o,none⟩) R c) (some (.int .i64 (N:Int))) none none).run prog V=.ok (.slice (some ⟨q,o',none⟩) (R-N) (c-N)) V:=by
 obtain ⟨i0,hi,ic,eI,dz⟩:=rF;rw [run_slice_l (ht:=underlying49) (h0:=by omega) (h1:=by omega)];subst ho;simp [sizeOf,typeInfo,show prog.elem 49=5 from rfl,hi,eI,sliced];split<;>simp [Addr.add]
theorem Iz (V:World) (q o R c N:Nat) (hN:N≤c) :
 (Instr.slice 49 (.slice (some ⟨q,o,none⟩) R c) none (some (.int .i64 (N:Int))) (some (.int .i64 (N:Int)))).run prog V=.ok (.slice (some ⟨q,o,none⟩) N N) V:=by
 obtain ⟨i0,hi,ic,eI,dz⟩:=rF;rw [run_slice_hm (ht:=underlying49) (h0:=by omega) (h2:=by omega) (h3:=by omega)];simp [sizeOf,typeInfo,show prog.elem 49=5 from rfl,hi,eI,sliced,Addr.add]
def part (n m k:Nat) (bs:List Nat):List Fr:=(List.range n).map fun j=>⟨false,0,false,bn,if j<k then (bs.drop (j*m)).take m else []⟩
theorem eu (n m k:Nat) (bs:List Nat):(part n m k bs).length=n:=by simp [part]
theorem kF {n:Nat} (hi:i<n):(part n m k bs).getD i dn=⟨false,0,false,bn,if i<k then (bs.drop (i*m)).take m else []⟩:=by
 simp [part,List.getD,hi]
theorem Kt {a b:List Fr} (hl:a.length=b.length) (h:∀ i,i<a.length→a.getD i dn=b.getD i dn):a=b:=by
 refine List.ext_getElem hl fun i h1 h2=>?_
 have:=h i h1;rwa [iw,iw,lD h1,lD h2] at this
theorem AP {l:List Fr} {f:Fr} (hi:i<l.length):(l.set i f).getD j dn=if j=i then f else l.getD j dn:=by
 rw [iw,List.getElem?_set];by_cases h:i=j
 ·subst h;rw [if_pos rfl,if_pos hi,if_pos rfl];rfl
 ·rw [if_neg h,if_neg (fun e=>h e.symm),iw]
theorem OL (n m:Nat) (bs:List Nat):List.replicate n dn=part n m 0 bs:=by
 refine Kt (by rw [eu];simp) fun i hi=>?_
 have lB:i<n:=by simpa using hi
 rw [kF lB,if_neg (Fz _)];simp [List.getD,lB,dn]
theorem IB {n:Nat} (hk:k<n):(part n m k bs).set k ⟨false,0,false,bn,(bs.drop (k*m)).take m⟩=part n m (k+1) bs:=by
 refine Kt (by simp [eu]) fun i hi=>?_
 have lB:i<n:=by simpa [eu] using hi
 rw [AP (by rw [eu];exact hk),kF lB,kF lB];by_cases h:i=k
 ·subst h;rw [if_pos rfl,if_pos (by omega)]
 ·rw [if_neg h]
  by_cases h2:i<k
  ·rw [if_pos h2,if_pos (by omega)]
  ·rw [if_neg h2,if_neg (by omega)]
theorem Tc {n:Nat} (op:Int) (hm:1≤m) (hn:(jr m op bs).length=n) :
 ((part n m n bs).set 0 ⟨false,op,false,bn,bs.take m⟩).set (n-1) ⟨true,if n-1=0 then op else 0,false,bn,(bs.drop ((n-1)*m)).take m⟩=jr m op bs:=by
 have hp:=FI m hm op bs;refine Kt (by simp [eu,hn]) fun i hi=>?_
 have lB:i<n:=by simpa [eu] using hi
 rw [AP (by simp [eu];omega),AP (by rw [eu];omega),kF lB,Mc hm i op bs (by omega),hn];by_cases h:i=n-1
 ·subst h;rw [if_pos rfl,iG (by omega)]
 ·rw [if_neg h,iQ (by omega)]
  by_cases h2:i=0
  ·subst h2;simp
  ·rw [if_neg h2,if_neg h2,if_pos lB]
theorem Vx (f:Fr) (d:List Nat):cv {f with data:=d}=(cv f).set 7 (.string (aF d)):=rfl
theorem OM (op:Int) (s:ByteArray) (ae:Int) (w:World) (h:¬ (op=1∨op=2)∨Gn (s.size:Int) ae=0) :
 Calls prog 55 #[.int .i64 op,.string s,.int .i64 ae] w fun e w'=>e=.returned (.tuple #[.slice none 0 0,.int .i64 130])∧w=w':=by
 obtain ⟨n,hn⟩:=zX (Gn (s.size:Int) ae);have hc:=fun W=>Iw (s.size:Int) ae n hn W
 obtain ⟨r,hr⟩:∃ r,decide (op=1∨op=2)=r:=⟨_,rfl⟩;have hb:=fun W=>BV op r hr W
 rw [hn] at h;clear hn;cases r with
 | false =>
   clear h hr;go_enter func55,ntmps55;go_wp2_with fail
   refine (hc _).mono ?_;rintro e w1 ⟨rfl,rfl⟩;go_wp2_with fail
   refine (hb _).mono ?_;rintro e w1 ⟨rfl,rfl⟩;go_wp2;go_ret2;exact ⟨rfl,rfl⟩
 | true =>
   obtain rfl:n=0:=by
    rcases h with h | h
    ·exact absurd (QE hr) h
    ·exact h
   clear h hr;go_enter func55,ntmps55;go_wp2_with fail
   refine (hc _).mono ?_;rintro e w1 ⟨rfl,rfl⟩;go_wp2_with fail
   refine (hb _).mono ?_;rintro e w1 ⟨rfl,rfl⟩;go_wp2;go_ret2;exact ⟨rfl,rfl⟩
theorem Ku (op:Int) (s:ByteArray) (m n:Nat) (w:World) (ho:op=1∨op=2) (hs:s.size≤1048576) (hm:1≤m∧m≤65536) (hn:(jr m op (bytes s)).length=n) :
 Calls prog 55 #[.int .i64 op,.string s,.int .i64 (m:Int)] w fun e w'=>∃ g,e=.returned (.tuple #[.slice (some ⟨g,0,none⟩) n n,.int .i64 0])∧Sl (nG w' g (jr m op (bytes s)))∧w.heap.size≤g∧Sl (Below w.heap.size w w'):=by
 have WP:FK s.size m=n:=by rw [← hn,uT hm.1 _ op (bytes s) (aY _),au]
 obtain ⟨sC,pD,Zd,hn4⟩:=uU (size:=s.size) hm.1;rw [WP] at sC pD Zd hn4;have hc:=fun W=>Iw (s.size:Int) (m:Int) n (by rw [Iu hs hm.1 hm.2,WP]) W
 have hb:=fun W=>BV op true (iG ho) W
 have yd:((n:Int)==0)=false:=by simp;omega
 obtain ⟨V1,pA,nF⟩:=SY (n:Int) n rfl (by omega) w;obtain ⟨g,hg⟩:=zX w.heap.size;have gp:Sl (nG V1 g (part n m 0 (bytes s))):=⟨by rw [nF,← OL,← hg];exact S9 w n⟩;have bi:Sl (Below g w V1):=⟨by rw [nF,← hg];exact (dW _ _).alloc (aY _) _⟩;have vm:Sl (g<V1.heap.size):=⟨gp.ah.lt⟩;obtain ⟨Pf,W2,eh,cJ,bw⟩:=lJ s V1;have bk:Sl (Below g w W2):=⟨bi.ah.trans (bw.ah.mono (Nat.le_of_lt vm.ah))⟩;have ew:Sl (nG W2 g (part n m 0 (bytes s))):=⟨gp.ah.below bw.ah⟩;have eR:Sl (kS W2 g (.slice (some ⟨V1.heap.size,0,none⟩) s.size Pf) (bytes s)):=⟨bJ.Yx cJ.ah vm.ah⟩;have dk:=Sl.mk hn;have HM:=Sl.mk hm;have Ab:Sl (s.size≤n*m∧(n=1∨(n-1)*m<s.size)):=⟨pD,Zd⟩;rw [hg] at pA;obtain ⟨bs,Hk⟩:=zX (bytes s);obtain ⟨L,hL⟩:=zX s.size;have Lf:Sl (bs.length=L):=⟨by rw [← Hk,← hL,au]⟩;have z1:IntKind.i64.wrap ((n:Int)-1)=((n-1:Nat):Int):=by rw [lZ];omega
 rw [Hk] at gp ew eR dk cJ ⊢;rw [hL] at eh cJ eR Ab hc hs;have lw:=Sl.mk sC;have al:=Sl.mk hs;have Ze:m≤9223372036854775807:=by omega
 have Pi:n≤9223372036854775807:=by omega
 clear hn hm ho WP sC pD Zd hn4 nF Hk gp bi vm bw hs cJ;go_enter func55,ntmps55;go_wp2_with fail
 refine (hc _).mono ?_;rintro e w1 ⟨rfl,rfl⟩;go_wp2_with fail
 refine (hb _).mono ?_;rintro e w1 ⟨rfl,rfl⟩;go_wp2;clear hc hb pA eh;obtain ⟨q,hq⟩:=zX V1.heap.size;rw [hq] at eR;have aey:Sl (L≤Pf):=⟨by obtain ⟨_,_,_,_,he,h2,_⟩:=eR.ah;injection he with _ _ e3;rw [Lf.ah] at h2;omega⟩;(try rw [hq]);clear hq;go_loopw [10,31] (fun u i wr=>∃ (k o c R:Nat),u=.slice (some ⟨q,o,none⟩) R c∧i=.int .i64 (k:Int)∧k≤n∧R≤c∧Sl (R=L-k*m)∧Sl (nG wr g (part n m k bs))∧Sl (kS wr g (.slice (some ⟨q,o,none⟩) R c) (bs.drop (k*m)))∧Sl (Below g w wr)) (fun _ i _=>n-(intOf i).toNat)
 case atStart=>exact ⟨0,0,Pf,L,rfl,rfl,ku _,aey.ah,⟨by omega⟩,ew,⟨by rw [Nat.zero_mul,Af];exact eR.ah⟩,bk⟩
 case round =>
  obtain ⟨k,o,c,R,rfl,rfl,hk,hRc,oR,Bt,Bw,io⟩:=hrel;have qu:Sl (g≤wr.heap.size):=⟨Nat.le_of_lt Bt.ah.lt⟩;have tU:Sl ((bs.drop (k*m)).length=R):=⟨by rw [iP,Lf.ah,oR.ah]⟩;by_cases gf:k<n
  ·have bz:((k:Int)<(n:Int))=True:=eq_true (by omega)
   have c7:wr.cell? ⟨g,k*8+7,none⟩=some (.string (aF [])):=by
    rw [Bt.ah.cell (by rw [eu];exact gf) (by decide),kF gf,if_neg (JK _)];rfl
   have f7:=Bt.ah.fF (k*8+7);have hRm:R≤9223372036854775807:=by have:=oR.ah;have:=al.ah;omega
   by_cases hb:R<m
   ·have Pk:((R:Int)<(m:Int))=True:=eq_true (by omega)
    have aez:((m:Int)<(R:Int))=False:=dR (by omega);obtain ⟨o',tR⟩:∃ o',(if c=R then o else o+R)=o':=⟨_,rfl⟩;have Bk:=fun V=>EF V q o R c R o' (by omega) tR
    have hs3:=fun V=>Iz V q o R c R (by omega)
    obtain ⟨T,hT⟩:=zX (aF ((bs.drop (k*m)).take R));have Pl:(convert 49 9 (.slice (some ⟨q,o,none⟩) R R)).run prog wr=.ok (.string T) wr:=by
     rw [← hT];exact bJ.conv (bJ.upto (oq.kS.any Bw.ah) (by omega) tU.ah (aY _))
    obtain ⟨X,hX⟩:=zX (wr.setCell ⟨g,k*8+7,none⟩ (.string T));have nc:wr.grownBy X (some g):=by rw [← hX];exact aH _ _ _ _
    have FG:Sl (nG X g (part n m (k+1) bs)):=⟨by
     rw [← IB gf,← (show (bs.drop (k*m)).take R=(bs.drop (k*m)).take m from by rw [nC (by rw [tU.ah];exact aY _),nC (by rw [tU.ah];omega)])];rw [← hX,← hT];exact Bt.ah.set k 7 _ _ (by rw [eu];exact gf) (by decide) (by rw [kF gf,if_neg (JK _)];rfl)⟩
    have cq:Sl (Below g w X):=⟨io.ah.grown nc qu.ah (fun j hj=>by injection hj with hj;rw [← hj];exact aY _)⟩;have cC:Sl (kS X g (.slice (some ⟨q,o',none⟩) (0) (c-R)) (bs.drop ((k+1)*m))):=⟨by
     have h1:=kS.from (oq.kS.grown Bw.ah nc) (r:=R) (by omega) tU.ah;have h2:jy (some ⟨q,o,none⟩) R c=some ⟨q,o',none⟩:=by
      unfold jy;rw [← tR];split<;>simp [Addr.add]
     rw [h2,QN] at h1;rw [Nat.sub_self] at h1;rw [show bs.drop ((k+1)*m)=bs.drop (k*m+R) from by rw [List.drop_eq_nil_of_le (by rw [Lf.ah,Nat.succ_mul];have:=oR.ah;omega),List.drop_eq_nil_of_le (by rw [Lf.ah];have:=oR.ah;omega)]];exact h1⟩
    have HRE:Sl (0=L-(k+1)*m):=⟨by rw [Nat.succ_mul];have:=oR.ah;omega⟩;have cV:0≤c-R:=by omega
    clear hT tR nc;go_upto_region 12 with fail
    (try rw [hX]);clear hX c7 f7 Pl;go_wp2;exact ⟨⟨k+1,o',c-R,0,rfl,by go_num,by omega,cV,HRE,FG,cC,cq⟩,by simp [intOf];omega⟩
   ·have Pk:((R:Int)<(m:Int))=False:=dR (by omega)
    have aez:((m:Int)≤(R:Int)):=by omega
    obtain ⟨o',tR⟩:∃ o',(if c=m then o else o+m)=o':=⟨_,rfl⟩;have Bk:=fun V=>EF V q o R c m o' (by omega) tR
    have hs3:=fun V=>Iz V q o R c m (by omega)
    obtain ⟨T,hT⟩:=zX (aF ((bs.drop (k*m)).take m));have Pl:(convert 49 9 (.slice (some ⟨q,o,none⟩) m m)).run prog wr=.ok (.string T) wr:=by
     rw [← hT];exact bJ.conv (bJ.upto (oq.kS.any Bw.ah) (by omega) tU.ah (aY _))
    obtain ⟨X,hX⟩:=zX (wr.setCell ⟨g,k*8+7,none⟩ (.string T));have nc:wr.grownBy X (some g):=by rw [← hX];exact aH _ _ _ _
    have FG:Sl (nG X g (part n m (k+1) bs)):=⟨by
     rw [← IB gf];rw [← hX,← hT];exact Bt.ah.set k 7 _ _ (by rw [eu];exact gf) (by decide) (by rw [kF gf,if_neg (JK _)];rfl)⟩
    have cq:Sl (Below g w X):=⟨io.ah.grown nc qu.ah (fun j hj=>by injection hj with hj;rw [← hj];exact aY _)⟩;have cC:Sl (kS X g (.slice (some ⟨q,o',none⟩) (R-m) (c-m)) (bs.drop ((k+1)*m))):=⟨by
     have h1:=kS.from (oq.kS.grown Bw.ah nc) (r:=m) (by omega) tU.ah;have h2:jy (some ⟨q,o,none⟩) m c=some ⟨q,o',none⟩:=by
      unfold jy;rw [← tR];split<;>simp [Addr.add]
     rw [h2,QN] at h1;rw [Nat.succ_mul];exact h1⟩
    have HRE:Sl (R-m=L-(k+1)*m):=⟨by rw [Nat.succ_mul];have:=oR.ah;omega⟩;have cV:R-m≤c-m:=by omega
    clear hT tR nc;go_upto_region 12 with fail
    (try rw [hX]);clear hX c7 f7 Pl;go_wp2;exact ⟨⟨k+1,o',c-m,R-m,rfl,by go_num,by omega,cV,HRE,FG,cC,cq⟩,by simp [intOf];omega⟩
  ·obtain rfl:k=n:=by omega
   have bz:((k:Int)<(k:Int))=False:=dR (by omega);have h1k:1≤k:=lw.ah;have c1:wr.cell? ⟨g,1,none⟩=some (.int .i64 0):=by
    have:=Bt.ah.cell (i:=0) (j:=1) (by rw [eu];omega) (by decide);rw [kF (by omega)] at this;exact this
   have f1:=Bt.ah.fF 1;obtain ⟨X,hX⟩:=zX (wr.setCell ⟨g,1,none⟩ (.int .i64 op));have hU:nG X g ((part k m k bs).set 0 ⟨false,op,false,bn,bs.take m⟩):=by
    have h:=Bt.ah.set 0 1 (.int .i64 op) ⟨false,op,false,bn,bs.take m⟩ (by rw [eu];omega) (by decide) (by rw [kF (by omega),if_pos (by omega),Nat.zero_mul,Af];rfl);rw [← hX];exact h
   have ye:((part k m k bs).set 0 ⟨false,op,false,bn,bs.take m⟩).getD (k-1) dn=⟨false,if k-1=0 then op else 0,false,bn,(bs.drop ((k-1)*m)).take m⟩:=by
    rw [AP (by rw [eu];omega)];by_cases h:k-1=0
    ·rw [if_pos h,if_pos h,h,Nat.zero_mul,Af]
    ·rw [if_neg h,if_neg h,kF (by omega),if_pos (by omega)]
   have c2:X.cell? ⟨g,(k-1)*8,none⟩=some (.bool false):=by
    have:=hU.cell (i:=k-1) (j:=0) (by rw [QM,eu];omega) (by decide);rw [ye] at this;exact this
   have f2:=hU.fF ((k-1)*8);obtain ⟨Y,hY⟩:=zX (X.setCell ⟨g,(k-1)*8,none⟩ (.bool true));have x7:Sl (nG Y g (jr m op bs)):=⟨by
    have h:=hU.set (k-1) 0 (.bool true) ⟨true,if k-1=0 then op else 0,false,bn,(bs.drop ((k-1)*m)).take m⟩ (by rw [QM,eu];omega) (by decide) (by rw [ye];rfl);rw [Tc op HM.ah.1 dk.ah] at h;rw [← hY];exact h⟩
   have hJ:Sl (Below g w Y):=⟨by
    have h1:Below g w X:=io.ah.grown (row:=some g) (by rw [← hX];exact aH _ _ _ _) qu.ah (fun j hj=>by injection hj with hj;rw [← hj];exact aY _);exact h1.grown (row:=some g) (by rw [← hY];exact aH _ _ _ _) (Nat.le_of_lt hU.lt) (fun j hj=>by injection hj with hj;rw [← hj];exact aY _)⟩
   clear hU ye;go_upto_region 15 with fail
   (try rw [hX]);go_upto_region 16 with fail
   (try rw [hY]);clear hX hY c1 f1 c2 f2;go_wp2;go_ret2;exact ⟨g,rfl,x7,Nat.le_of_eq hg,⟨by rw [hg];exact hJ.ah⟩⟩
end
open gK jS
theorem Gq {W:World} {b:Nat} {aN m m':Bool} {op:Int} {ka kb kc kd:Nat} {s:ByteArray} (x0 x1 x2 x3:Int) (h:W.heap[b]? = some (.cells (zV aN op m ka kb kc kd s) 61 (0,0))) :
 ((W.setCell ⟨b,2,none⟩ (.bool m')).setCells b 3 [.int .u8 x0,.int .u8 x1,.int .u8 x2,.int .u8 x3]).heap[b]? = some (.cells #[.bool aN,.int .i64 op,.bool m',.int .u8 x0,.int .u8 x1,.int .u8 x2,.int .u8 x3,.string s] 61 (0,0))∧W.grownBy ((W.setCell ⟨b,2,none⟩ (.bool m')).setCells b 3 [.int .u8 x0,.int .u8 x1,.int .u8 x2,.int .u8 x3]) (some b):=by
 refine ⟨?_,dO (aH _ _ _ _) (jJ b _ 3 _)⟩;simp only [World.setCells];rw [lF _ _ _ _ _ _ (lF _ _ _ _ _ _ (lF _ _ _ _ _ _ (lF _ _ _ _ _ _ (lF _ _ _ _ _ _ h))))];rfl
end Go.Proofs.YtlahonjmfecikaaGreatDoor.iL
