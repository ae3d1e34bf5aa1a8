/- Texts, joined. -/
import Derived.Test.YtlahonjmfecikaaGreatDoorXb
set_option maxRecDepth 100000
set_option maxHeartbeats 64000000
set_option linter.unusedVariables false
set_option linter.unusedSimpArgs false
open Go.Proofs.Tryz
namespace Go.Proofs.YtlahonjmfecikaaGreatDoor.gK
open Go.RowKit aO aC jF
section
variable {W:World} {ev:Operand→Value} {o:Oper} {x y:Operand} {s:ByteArray}
theorem kL {L:List Nat} {i l:Nat} (ho:o.op=.index 9 x y) (hx:ev x=.string s) (hy:ev y=.int .i64 (i:Int)) (hs:bytes s=L∧i<L.length) (hl:L.getD i 0=l) :
 (execOp ev o).run prog W=.ok (.value (.int .u8 (l:Int))) W:=by
 obtain ⟨kp,lR⟩:=hs;have hz:i<s.size:=by rw [← au,kp];exact lR
 have hb:=dL s i hz;rw [kp,hl] at hb;subst hb;simp only [execOp,ho,hx,hy];go_simp
 rfl
theorem WB {n:Nat} {r:Bool} (ho:o.op=.binOp .geq 5 x y 5) (hx:ev x=.int .u8 (n:Int)) (hy:ev y=.int .u8 128) (hr:decide (128≤n)=r) :
 (execOp ev o).run prog W=.ok (.value (.bool r)) W:=by
 subst hr;simp only [execOp,ho,hx,hy];by_cases h:128≤n
 ·have h2:((n:Int)≥128)=True:=eq_true (by omega)
  rw [iG h];go_simp
 ·have h2:((n:Int)≥128)=False:=dR (by omega)
  rw [iQ h];go_simp
theorem yh {t:ByteArray} {n:Nat} (ho:o.op=.slice 9 x none (some y) none) (hx:ev x=.string s) (hy:ev y=.int .u64 (n:Int)) (hn:n≤s.size) (ht:s.extract 0 n=t) :
 (execOp ev o).run prog W=.ok (.value (.string t)) W:=by
 subst ht;simp only [execOp,ho,hx,hy,Dy,Option.map_none];go_simp
theorem Dq {g:Nat} {c0 c1 c2 c7:Value} {a b c d p q r t:Nat} (ho:o.op=.store 59 x y) (hx:ev x=.pointer (some ⟨g,3,none⟩)) (hy:ev y=.agg #[.int .u8 ((p:Nat):Int),.int .u8 ((q:Nat):Int),.int .u8 ((r:Nat):Int),.int .u8 ((t:Nat):Int)])
 (hg:W.heap[g]? = some (.cells #[c0,c1,c2,.int .u8 ((a:Nat):Int),.int .u8 ((b:Nat):Int),.int .u8 ((c:Nat):Int),.int .u8 ((d:Nat):Int),c7] 61 (0,0))) :
 (execOp ev o).run prog W=.ok .skip (W.setRow g #[c0,c1,c2,.int .u8 ((p:Nat):Int),.int .u8 ((q:Nat):Int),.int .u8 ((r:Nat):Int),.int .u8 ((t:Nat):Int),c7]):=by
 have eQ:=run_storeCells_at prog g 3 61 (dZ [p,q,r,t]) 0 _ W hg (by simp) (oM _);have hi:=Ry (key:=[p,q,r,t]) rfl;cases hq:prog.info? 59 with
 | none=>rw [hq] at hi;cases hi
 | some i =>
   have hs:i.size=4:=by rw [hq] at hi;simpa using hi
   unfold execOp;simp only [ho,hx,hy,Instr.storeAt,Instr.sureAddr,rE,Sem.run_pure,Result.andThen_ok,storeVar,sizeOf,typeInfo];simp [Value.cells,hq,hs];refine (lG (fun r=>Result.andThen r _) eQ).trans ?_;rfl
theorem Qn (x:Nat) (h:x<256):(gG x=true↔(x / 16 % 8≠0∨(2<x % 16∧aQ ((x % 16:Nat):Int)=false)∨(aQ ((x % 16:Nat):Int)=true∧decide (128≤x)=false))):=by
 have:∀ c:Fin 256,(gG c.val=true↔(c.val / 16 % 8≠0∨(2<c.val % 16∧aQ ((c.val % 16:Nat):Int)=false)∨(aQ ((c.val % 16:Nat):Int)=true∧decide (128≤c.val)=false))):=by decide +kernel
 exact this ⟨x,h⟩
theorem Qo {n:Nat} (h:aQ (n:Int)=true):8≤n:=by
 unfold aQ at h;rw [JG,Ap,Ap] at h;omega
theorem Aa (s:ByteArray) (ae:Int) (w:World) (hs:s.size≤100000) (kw:ae≤9223372036854775807):Calls prog 94 #[.string s,.int .i64 ae] w fun e w'=>e=.returned (lN (eX (bytes s) ae))∧Sl (Below w.heap.size w w'):=by
 obtain ⟨w1,bA⟩:=zX (w.alloc (.cells zZ 61));have bi:Sl (Below w.heap.size w w1):=⟨by rw [← bA];exact (fQ w _).ah⟩;have my:Sl (w1.heap[w.heap.size]? = some (.cells zZ 61 (0,0))):=⟨by rw [← bA];exact dQ _ _⟩;have fe:=au s;have mN:=Sl.mk (aJ s);by_cases h0:s.size=0
 ·obtain rfl:s={data:=#[]}:=kW (yA (by rw [au];exact h0))
  have HQ:Sl (eX (bytes {data:=#[]}) ae=(dn,0,90)):=⟨rfl⟩;clear hs kw fe h0;go_enter func94,ntmps94;go_upto_region 2 with fail
  have HI:=aW (cs:=zZ) rfl;go_wp2_with (refine fG rfl 61 (.tmp 4) (.tmp 14) rfl w.heap.size zZ rfl rfl 61 zZ my.ah HI rfl (aZ _ _ _ _ _ _ _ _) ?_)
  refine gX (dw rfl _ _ w.heap.size 61 _ (0,0) rfl (gY _ _ _ _ _ _ my.ah) rfl) rfl ?_;rw [HQ.ah];exact ⟨rfl,⟨below_setRow bi.ah (aY _) _⟩⟩
 obtain ⟨x,xs,hb⟩:∃ x xs,bytes s=x :: xs:=by
  cases hb:bytes s with
  | nil=>rw [hb] at fe;exact absurd fe.symm h0
  | cons x xs=>exact ⟨x,xs,rfl⟩
 rw [hb] at fe mN ⊢;have cq:=Sl.mk hb;have AR:Sl (aU 256 xs):=⟨fun y hy=>mN.ah y (uK _ hy)⟩;have Ww:0<s.size:=by omega
 have hx:(s[0]'Ww).toNat=x:=by
  have:=dL s 0 Ww;rw [hb,Dx] at this;rw [this];rfl
 have dv:x<256:=mN.ah x (by simp);have ve:(s.toList==[])=false:=by
  rw [Bool.eq_false_iff];intro h;rw [nO,hb] at h;simp at h
 obtain ⟨aN,iA⟩:=zX (decide (128≤x));have lj:=Sl.mk iA;have hbp:=Qn x dv;obtain ⟨o,ho⟩:=zX (x % 16);have Kd:=Sl.mk ho;obtain ⟨q0,yd⟩:=zX (x / 16);obtain ⟨r0,Ek⟩:=zX (q0 % 8);rw [yd,Ek,ho,iA] at hbp;obtain ⟨ct,Bu⟩:=zX (aQ (o:Int));rw [Bu] at hbp;have lk:=Sl.mk hbp;have CTI:Sl ((ct=true→8≤x % 16)∧True):=⟨fun h=>by rw [ho];exact Qo (Bu.trans h),trivial⟩;have Ke:∀ W,Calls prog 124 #[.int .i64 (o:Int)] W fun e w'=>e=.returned (.bool ct)∧W=w':=fun W=>by rw [← Bu];exact rH (o:Int) W
 have Yo:IntKind.i64.wrap (x:Int)=(x:Int):=by rw [lZ];omega
 have FJ:(x:Int) % 16=(o:Int):=by omega
 have LI:Int.tmod (x:Int) 16=(o:Int):=by rw [← FJ,Fq (by omega)]
 have afP:(x:Int) / 16=(q0:Int):=by omega
 have htd:Int.tdiv (x:Int) 16=(q0:Int):=by rw [← afP,Int.tdiv_eq_ediv_of_nonneg (by omega)]
 have hmr:(q0:Int) % 8=(r0:Int):=by omega
 have htr:Int.tmod (q0:Int) 8=(r0:Int):=by rw [← hmr,Fq (by omega)]
 clear hb hbp Bu ho yd Ek iA h0;go_enter func94,ntmps94;go_upto_region 3 with fail
 obtain ⟨Rw,hR⟩:=zX w1.drew;have al:Below w.heap.size w Rw:=by rw [← hR];exact bi.ah.drew
 have gP:Rw.heap[w.heap.size]? = some (.cells zZ 61 (0,0)):=by rw [← hR];exact my.ah
 refine Ai ?_;refine Ah (S:=fun W=>Below w.heap.size w W) (by kernel_rfl) ?_;change wpAnyH _ _ _ _ _ _ _ _ w1.drew;rw [hR];clear hR bi my;refine zT 0 (some 15) (.move (.tmp 0)) _ al ?_;simp only [zA,zB,zS];refine zT 1 (some 16) (.index 9 (.tmp 15) (.const (.int .i64 0))) (.int .u8 (x:Int)) al ?_ (hy:=fun o' ho W hS=>kL (i:=0) ho (by rfl) (by rfl) ⟨cq.ah,by simp⟩ rfl);simp only [zA,zB,zS];refine zT 2 (some 17) (.binOp .geq 5 (.tmp 16) (.const (.int .u8 128)) 5) (.bool aN) al ?_ (hy:=fun o' ho W hS=>WB ho (by rfl) (by rfl) lj.ah);simp only [zA,zB,zS];refine zT 3 (some 18) (.move (.tmp 0)) _ al ?_;simp only [zA,zB,zS];refine zT 4 (some 19) (.index 9 (.tmp 18) (.const (.int .i64 0))) (.int .u8 (x:Int)) al ?_ (hy:=fun o' ho W hS=>kL (i:=0) ho (by rfl) (by rfl) ⟨cq.ah,by simp⟩ rfl);simp only [zA,zB,zS];refine zT 5 (some 20) (.convert 5 3 (.tmp 19)) _ al ?_;simp only [zA,zB,zS];refine zT 6 (some 21) (.binOp .rem 3 (.tmp 20) (.const (.int .i64 16)) 3) _ al ?_;simp only [zA,zB,zS];refine zT 7 (some 22) (.build 61 #[(0,.tmp 17),(1,.tmp 21)]) _ al ?_;simp only [zA,zB,zS];obtain ⟨w2,cE⟩:=zX (Rw.alloc (.cells zZ 61));obtain ⟨fb,il⟩:=zX Rw.heap.size;have bk:Sl (Below w.heap.size w w2):=⟨by rw [← cE];exact al.alloc al.size _⟩;have nz:w2.heap[fb]? = some (.cells zZ 61 (0,0)):=by rw [← cE,← il];exact dQ _ _
 have eW:w.heap.size<fb:=by rw [← il];exact (zl gP)
 have kl:w2.heap[w.heap.size]? = some (.cells zZ 61 (0,0)):=by rw [← cE,gJ _ _ _ (by omega)];exact gP
 refine zR 8 (some 7) (.alloc 61) 0 (.pointer (some ⟨fb,0,none⟩)) w2 bk.ah ?_ (hy:=fun o' ho _=>by simp only [execOp,ho];go_simp;first | done | (refine ⟨?_,?_⟩<;>first | rw [il] | rw [cE] | rfl) | (rw [il];done) | (rw [cE,il];done) | rfl);simp only [zA,zB,zS];obtain ⟨w3,cH⟩:=zX (w2.setRow fb #[.bool aN,.int .i64 (o:Int),.bool false,.int .u8 0,.int .u8 0,.int .u8 0,.int .u8 0,.string {data:=#[]}]);have bv:Sl (Below w.heap.size w w3):=⟨by rw [← cH];exact below_setRow bk.ah (by omega) _⟩;have o4:Sl (w3.heap[fb]? = some (.cells #[.bool aN,.int .i64 (o:Int),.bool false,.int .u8 0,.int .u8 0,.int .u8 0,.int .u8 0,.string {data:=#[]}] 61 (0,0))):=⟨by rw [← cH];exact gY _ _ _ _ _ _ nz⟩;have dg:Sl (w3.heap[w.heap.size]? = some (.cells zZ 61 (0,0))):=⟨by rw [← cH,qC _ _ _ _ (by omega)];exact kl⟩;have ko:=Sl.mk eW;refine zW 9 none (.store 61 (.tmp 7) (.tmp 22)) 0 w3 bv.ah ?_ (hy:=fun o' ho ht=>by rw [← cH];exact yK ho (by rfl) (by rfl) nz ⟨rfl,rfl⟩ (aZ _ _ _ _ _ _ _ _));simp only [Act.put];refine zE (by kernel_rfl) ?_;clear al gP cE il bk nz kl cH;obtain ⟨e0,e1,e2,e3,e4,e5,e6,e7⟩:=oZ o4.ah;by_cases Ek:r0=0
 ·have hqr:((r0:Int) != 0)=false:=by subst Ek;rfl
  by_cases ym:2<o
  ·have hqo:((o:Int)>2)=True:=eq_true (by omega)
   cases ct with
   | false =>
     have cX:gG x=true:=lk.ah.2 (.inr (.inl ⟨ym,rfl⟩));have HQ:Sl (eX (x :: xs) ae=(dn,0,91)):=⟨wO ae cX⟩;go_wp2_with fail
     refine (Ke _).mono ?_;rintro e' w' ⟨rfl,rfl⟩;go_upto_region 5 with fail
     have HI:=aW (cs:=zZ) rfl;go_wp2_with (refine fG rfl 61 (.tmp 4) (.tmp 50) rfl w.heap.size zZ rfl rfl 61 zZ dg.ah HI rfl (aZ _ _ _ _ _ _ _ _) ?_)
     refine gX (dw rfl _ _ w.heap.size 61 _ (0,0) rfl (gY _ _ _ _ _ _ dg.ah) rfl) rfl ?_;rw [HQ.ah];exact ⟨rfl,⟨below_setRow bv.ah (aY _) _⟩⟩
   | true =>
     cases aN with
     | false =>
       have cX:gG x=true:=lk.ah.2 (.inr (.inr ⟨rfl,rfl⟩));have HQ:Sl (eX (x :: xs) ae=(dn,0,91)):=⟨wO ae cX⟩;go_wp2_with fail
       refine (Ke _).mono ?_;rintro e' w' ⟨rfl,rfl⟩;go_wp2_with fail
       refine (Ke _).mono ?_;rintro e' w' ⟨rfl,rfl⟩;go_upto_region 5 with fail
       have HI:=aW (cs:=zZ) rfl;go_wp2_with (refine fG rfl 61 (.tmp 4) (.tmp 50) rfl w.heap.size zZ rfl rfl 61 zZ dg.ah HI rfl (aZ _ _ _ _ _ _ _ _) ?_)
       refine gX (dw rfl _ _ w.heap.size 61 _ (0,0) rfl (gY _ _ _ _ _ _ dg.ah) rfl) rfl ?_;rw [HQ.ah];exact ⟨rfl,⟨below_setRow bv.ah (aY _) _⟩⟩
     | true =>
       have cX:gG x=false:=by
        cases hb:gG x with
        | false=>rfl
        | true=>rcases lk.ah.1 hb with h | h | h;exact absurd Ek h;cases h.2;cases h.2
       go_wp2_with fail
       refine (Ke _).mono ?_;rintro e' w' ⟨rfl,rfl⟩;go_wp2_with fail
       refine (Ke _).mono ?_;rintro e' w' ⟨rfl,rfl⟩;by_cases nA:0<xs.length
       ·have Ya:((s.size:Int)>1)=True:=eq_true (by rw [← fe];simp;omega)
        have ab4:1<s.size:=by rw [← fe];simp;omega
        obtain ⟨y',hy'⟩:=zX (xs.getD 0 0);have afQ:(s[1]'ab4).toNat=y':=by rw [og s x xs cq.ah 0 ab4];exact hy'
        have afR:y'<256:=by rw [← hy'];exact AR.ah.getD (by omega) 0
        obtain ⟨yr,E0⟩:=zX (y' % 128);have hym:(y':Int) % 128=(yr:Int):=by omega
        have afS:Int.tmod (y':Int) 128=(yr:Int):=by rw [← hym,Fq (by omega)]
        by_cases mK:125<yr
        ·have hq7:((yr:Int)>125)=True:=eq_true (by omega)
         have HQ:Sl (eX (x :: xs) ae=(dn,0,91)):=⟨by rw [jR,if_neg (by rw [cX];decide),if_pos ⟨nA,CTI.ah.1 (by trivial),by rw [hy',E0];exact mK⟩]⟩;go_wp2_with fail
         refine (Ke _).mono ?_;rintro e' w' ⟨rfl,rfl⟩;go_upto_region 7 with fail
         have HI:=aW (cs:=zZ) rfl;go_wp2_with (refine fG rfl 61 (.tmp 4) (.tmp 65) rfl w.heap.size zZ rfl rfl 61 zZ dg.ah HI rfl (aZ _ _ _ _ _ _ _ _) ?_)
         refine gX (dw rfl _ _ w.heap.size 61 _ (0,0) rfl (gY _ _ _ _ _ _ dg.ah) rfl) rfl ?_;rw [HQ.ah];exact ⟨rfl,⟨below_setRow bv.ah (aY _) _⟩⟩
        ·have hq7:((yr:Int)>125)=False:=dR (by omega)
         have Fk:Sl (¬ (0<xs.length∧8≤x % 16∧125<xs.getD 0 0 % 128)):=⟨fun h=>by have:=h.2.2;rw [hy',E0] at this;exact mK this⟩;go_wp2_with fail
         refine (Ke _).mono ?_;rintro e' w' ⟨rfl,rfl⟩;obtain ⟨⟨n,k,e⟩,cD⟩:∃ r,bK xs=r:=⟨_,rfl⟩;have cV:=yF xs;rw [cD] at cV;have eL:=jP xs;rw [cD] at eL;simp only at cV eL;have i8:=Sl.mk (jR x xs ae);have CI:∀ W,Calls prog 125 #[.string (s.extract 1 s.size)] W fun e' w'=>e'=.returned (.tuple #[.int .u64 (n:Int),.int .i64 (k:Int),.int .i64 (e:Int)])∧W=w':=fun W=>by
          have:=l9 (s.extract 1 s.size) W (by rw [DJ];omega);rw [show bytes (s.extract 1 s.size)=xs by rw [bC,cq.ah,nC (by rw [← cq.ah,au];exact aY _)];rfl,cD] at this;exact this
         go_wp2_with fail
         refine (CI _).mono ?_;rintro e' w' ⟨rfl,rfl⟩;clear CI afQ hym afS hq7 e0 e1 e2 e3 e4 e5 e6 e7;rcases eL with he | he | he
         ·subst he
          have iS:Sl (eX (x :: xs) ae=if ae<(n:Int) then (dn,0,92) else iH true (o:Int) (decide (128≤xs.getD 0 0)) (1+k) n (xs.drop k)):=⟨by
           rw [i8.ah,if_neg (by rw [cX];decide),if_neg Fk.ah,cD,if_neg (show ¬ (0:Nat)=81 by decide),if_neg (show ¬ (0:Nat)=80 by decide)];by_cases hmn:ae<(n:Int)
           ·rw [if_pos hmn,if_pos hmn]
           ·rw [if_neg hmn,if_neg hmn,yJ,Kd.ah,lj.ah]⟩
          have M5:0<xs.length:=by
           cases xs with
           | nil=>have h2:(bK []).2.2=80:=rfl;rw [cD] at h2;cases h2
           | cons y ys=>simp
          obtain ⟨y,hy⟩:=zX (xs.getD 0 0);rw [hy] at iS;have tS:1<s.size:=by rw [← fe];simp;omega
          have RO:xs.length+1=s.size:=by rw [← fe];simp
          have hy1:(s[1]'tS).toNat=y:=by rw [og s x xs cq.ah 0 tS];exact hy
          by_cases hneg:ae<0
          ·have nf:(ae<0)=True:=eq_true hneg
           have HQ:Sl (eX (x :: xs) ae=(dn,0,92)):=⟨by rw [iS.ah];exact if_pos (by omega)⟩;clear hneg cD cV i8;go_upto_region 14 with fail
           have HI:=aW (cs:=zZ) rfl;go_wp2_with (refine fG rfl 61 (.tmp 4) (.tmp 87) rfl w.heap.size zZ rfl rfl 61 zZ dg.ah HI rfl (aZ _ _ _ _ _ _ _ _) ?_)
           refine gX (dw rfl _ _ w.heap.size 61 _ (0,0) rfl (gY _ _ _ _ _ _ dg.ah) rfl) rfl ?_;rw [HQ.ah];exact ⟨rfl,⟨below_setRow bv.ah (aY _) _⟩⟩
          ·have nf:(ae<0)=False:=dR hneg
           obtain ⟨mo,rfl⟩:=JH (show 0≤ae by omega);have hmw:IntKind.u64.wrap (mo:Int)=(mo:Int):=by rw [FP];omega
           by_cases eJ:mo<n
           ·have mw:((n:Int)>(mo:Int))=True:=eq_true (by omega)
            have HQ:Sl (eX (x :: xs) (mo:Int)=(dn,0,92)):=⟨by rw [iS.ah];exact if_pos (by omega)⟩;clear hneg cD cV i8;go_upto_region 14 with fail
            have HI:=aW (cs:=zZ) rfl;go_wp2_with (refine fG rfl 61 (.tmp 4) (.tmp 87) rfl w.heap.size zZ rfl rfl 61 zZ dg.ah HI rfl (aZ _ _ _ _ _ _ _ _) ?_)
            refine gX (dw rfl _ _ w.heap.size 61 _ (0,0) rfl (gY _ _ _ _ _ _ dg.ah) rfl) rfl ?_;rw [HQ.ah];exact ⟨rfl,⟨below_setRow bv.ah (aY _) _⟩⟩
           ·have mw:((n:Int)>(mo:Int))=False:=dR (by omega)
            obtain ⟨pk,Ln⟩:=zX (1+k);have HQ:Sl (eX (x :: xs) (mo:Int)=iH true (o:Int) (decide (128≤y)) pk n (xs.drop k)):=⟨by rw [iS.ah,if_neg (by omega),Ln]⟩;have Nn:IntKind.i64.wrap (1+(k:Int))=(pk:Int):=by rw [lZ];omega
            obtain ⟨rl,wv⟩:=zX ((xs.drop k).length);have afT:pk+rl=s.size:=by rw [← wv,iP,← fe,jE];omega
            have afU:pk≤s.size:=by omega
            obtain ⟨RS,rK⟩:=zX (s.extract pk s.size);have js:Sl (bytes RS=xs.drop k∧RS.size=rl):=⟨by rw [← rK,bC,cq.ah,nC (by rw [← cq.ah,au];exact aY _),← Ln,Nat.add_comm];rfl,by rw [← rK,DJ];omega⟩;have qi:=js.ah.2;have GD:n≤9223372036854775807:=by omega
            have hwl:IntKind.u64.wrap (rl:Int)=(rl:Int):=by rw [FP];omega
            clear hneg eJ cD cV i8 iS;by_cases h128:128≤y
            ·have hqy:((y:Int)≥128)=True:=eq_true (by omega)
             rw [iG h128] at HQ;have z2:w3.frozen? ⟨fb,2,none⟩=false:=kT _ _ _ _ _ o4.ah;obtain ⟨f0,f1,f2,f3,f4,f5,f6,f7⟩:=oZ o4.ah;obtain ⟨w4,cS⟩:=zX (w3.setCell ⟨fb,2,none⟩ (.bool true));have br:Sl (Below w.heap.size w w4):=⟨by rw [← cS];exact bv.ah.setCell (by show w.heap.size≤fb;have:=ko.ah;omega) _⟩;have DE:Sl (w4.heap[fb]? = some (.cells #[.bool true,.int .i64 (o:Int),.bool true,.int .u8 0,.int .u8 0,.int .u8 0,.int .u8 0,.string {data:=#[]}] 61 (0,0))):=⟨by rw [← cS,lF _ _ _ _ _ _ o4.ah];rfl⟩;have iN:Sl (w4.heap[w.heap.size]? = some (.cells zZ 61 (0,0))):=⟨by rw [← cS,pI _ _ _ _ (by show w.heap.size≠fb;have:=ko.ah;omega)];exact dg.ah⟩;by_cases h4:rl<4
             ·have Ff:((rl:Int)<4)=True:=eq_true (by omega)
              have qS:=HQ;have HQ:Sl (eX (x :: xs) (mo:Int)=(dn,0,90)):=⟨by rw [qS.ah];unfold iH;rw [if_pos rfl,if_pos (by omega)]⟩;clear qS h4 h128;go_upto_region 19 with fail
              have HI:=aW (cs:=zZ) rfl;go_wp2_with (refine fG rfl 61 (.tmp 4) (.tmp 99) rfl w.heap.size zZ rfl rfl 61 zZ iN.ah HI rfl (aZ _ _ _ _ _ _ _ _) ?_)
              refine gX (dw rfl _ _ w.heap.size 61 _ (0,0) rfl (gY _ _ _ _ _ _ iN.ah) rfl) rfl ?_;rw [HQ.ah];exact ⟨rfl,⟨below_setRow br.ah (aY _) _⟩⟩
             ·have Ff:((rl:Int)<4)=False:=dR (by omega)
              obtain ⟨a,b,c,d,lP⟩:=F5 (xs.drop k) (by omega);have im:Sl (aU 256 [a,b,c,d]):=⟨by rw [← lP];exact (AR.ah.drop k).take 4⟩;have SZ:=Sl.mk lP;have m4:Sl (∀ i v,i<4→[a,b,c,d].getD i 0=v→(xs.drop k).getD i 0=v):=⟨fun i v hi hv=>by
               rw [← hv,← lP];simp only [iw,NP hi]⟩
              have h4r:4≤(xs.drop k).length:=by omega
              have Kg:=Sl.mk h4r;obtain ⟨R4,S5⟩:=zX (RS.extract 4 RS.size);have afY:RS.extract 4 rl=R4:=by rw [← qi];exact S5
              obtain ⟨r4,Vi⟩:=zX (rl-4);have cR:Sl (bytes R4=(xs.drop k).drop 4∧R4.size=r4):=⟨by rw [← S5,bC,js.ah.1,nC (by rw [wv,qi];exact aY _)],by rw [← S5,DJ];omega⟩;have afZ:=cR.ah.2;have af0:Sl ((xs.drop k).drop 4=(xs.drop k).drop 4):=⟨rfl⟩;have af2:IntKind.u64.wrap (r4:Int)=(r4:Int):=by rw [FP];omega
              clear hwl lP;go_upto_region 20 with fail
              obtain ⟨Rw,hR⟩:=zX w4.drew;have al:Below w.heap.size w Rw:=by rw [← hR];exact br.ah.drew
              have dk:Rw.heap[fb]? = some (.cells #[.bool true,.int .i64 (o:Int),.bool true,.int .u8 0,.int .u8 0,.int .u8 0,.int .u8 0,.string {data:=#[]}] 61 (0,0)):=by rw [← hR];exact DE.ah
              have gP:Rw.heap[w.heap.size]? = some (.cells zZ 61 (0,0)):=by rw [← hR];exact iN.ah
              refine Ai ?_;refine Ah (S:=fun W=>Below w.heap.size w W) (by kernel_rfl) ?_;change wpAnyH _ _ _ _ _ _ _ _ w4.drew;rw [hR];clear hR br DE iN z2 f0 f1 f2 f3 f4 f5 f6 f7 cS;refine zT 0 (some 100) (.move (.tmp 11)) _ al ?_;simp only [zA,zB,zS];refine zT 1 (some 101) (.index 9 (.tmp 100) (.const (.int .i64 0))) (.int .u8 (a:Int)) al ?_ (hy:=fun o' ho W hS=>by exact kL (i:=0) ho (by rfl) (by rfl) ⟨js.ah.1,by have:=Kg.ah;omega⟩ (m4.ah 0 _ (by decide) rfl));simp only [zA,zB,zS];refine zT 2 (some 102) (.move (.tmp 11)) _ al ?_;simp only [zA,zB,zS];refine zT 3 (some 103) (.index 9 (.tmp 102) (.const (.int .i64 1))) (.int .u8 (b:Int)) al ?_ (hy:=fun o' ho W hS=>by exact kL (i:=1) ho (by rfl) (by rfl) ⟨js.ah.1,by have:=Kg.ah;omega⟩ (m4.ah 1 _ (by decide) rfl));simp only [zA,zB,zS];refine zT 4 (some 104) (.move (.tmp 11)) _ al ?_;simp only [zA,zB,zS];refine zT 5 (some 105) (.index 9 (.tmp 104) (.const (.int .i64 2))) (.int .u8 (c:Int)) al ?_ (hy:=fun o' ho W hS=>by exact kL (i:=2) ho (by rfl) (by rfl) ⟨js.ah.1,by have:=Kg.ah;omega⟩ (m4.ah 2 _ (by decide) rfl));simp only [zA,zB,zS];refine zT 6 (some 106) (.move (.tmp 11)) _ al ?_;simp only [zA,zB,zS];refine zT 7 (some 107) (.index 9 (.tmp 106) (.const (.int .i64 3))) (.int .u8 (d:Int)) al ?_ (hy:=fun o' ho W hS=>by exact kL (i:=3) ho (by rfl) (by rfl) ⟨js.ah.1,by have:=Kg.ah;omega⟩ (m4.ah 3 _ (by decide) rfl));simp only [zA,zB,zS];refine zT 8 (some 108) (.build 59 #[(0,.tmp 101),(1,.tmp 103),(2,.tmp 105),(3,.tmp 107)]) _ al ?_;simp only [zA,zB,zS];refine zT 9 (some 109) (.fieldAddr 61 (.tmp 7) 3) _ al ?_;simp only [zA,zB,zS];obtain ⟨w5,dq⟩:=zX (Rw.setRow fb #[.bool true,.int .i64 (o:Int),.bool true,.int .u8 (a:Int),.int .u8 (b:Int),.int .u8 (c:Int),.int .u8 (d:Int),.string {data:=#[]}]);have ch:Sl (Below w.heap.size w w5):=⟨by rw [← dq];exact below_setRow al (by have:=ko.ah;omega) _⟩;have sL:Sl (w5.heap[fb]? = some (.cells #[.bool true,.int .i64 (o:Int),.bool true,.int .u8 (a:Int),.int .u8 (b:Int),.int .u8 (c:Int),.int .u8 (d:Int),.string {data:=#[]}] 61 (0,0))):=⟨by rw [← dq];exact gY _ _ _ _ _ _ dk⟩;have o3:Sl (w5.heap[w.heap.size]? = some (.cells zZ 61 (0,0))):=⟨by rw [← dq,qC _ _ _ _ (by have:=ko.ah;omega)];exact gP⟩;refine zW 10 none (.store 59 (.tmp 109) (.tmp 108)) 0 w5 ch.ah ?_ (hy:=fun o' ho ht=>by rw [← dq];exact Dq (a:=0) (b:=0) (c:=0) (d:=0) ho (by rfl) (by rfl) dk);simp only [Act.put];refine zE (by kernel_rfl) ?_;clear al dk gP dq;have h4p:4≤rl:=by omega
              have h4i:(4:Int)≤(rl:Int):=by omega
              have h4t:((4:Int)≤(rl:Int))=True:=eq_true h4i;by_cases qk:r4<n
              ·have Mh:((r4:Int)<(n:Int))=True:=eq_true (by omega)
               have qS:=HQ;have HQ:Sl (eX (x :: xs) (mo:Int)=(dn,0,90)):=⟨by rw [qS.ah];unfold iH;rw [if_pos rfl,if_pos (by omega)]⟩;clear qS h4 h128 qk;go_upto_region 23 with fail
               have HI:=aW (cs:=zZ) rfl;go_wp2_with (refine fG rfl 61 (.tmp 4) (.tmp 117) rfl w.heap.size zZ rfl rfl 61 zZ o3.ah HI rfl (aZ _ _ _ _ _ _ _ _) ?_)
               refine gX (dw rfl _ _ w.heap.size 61 _ (0,0) rfl (gY _ _ _ _ _ _ o3.ah) rfl) rfl ?_;rw [HQ.ah];exact ⟨rfl,⟨below_setRow ch.ah (aY _) _⟩⟩
              ·have Mh:((r4:Int)<(n:Int))=False:=dR (by omega)
               have ub:Sl (n≤R4.size∧4+n≤(xs.drop k).length):=⟨by omega,by omega⟩;obtain ⟨en,xF⟩:=zX (pk+4+n);have Ta:=Sl.mk xF;have z4:IntKind.i64.wrap ((s.size:Int)-(r4:Int))=((pk+4:Nat):Int):=by rw [lZ];omega
               obtain ⟨p4,Fd⟩:=zX (pk+4);rw [Fd] at z4;have z5:IntKind.i64.wrap ((p4:Int)+(n:Int))=(en:Int):=by rw [lZ];omega
               clear qk h4 h128 wv;obtain ⟨PD,rL⟩:=zX (R4.extract 0 n);have Tb:Sl (bytes PD=((xs.drop k).drop 4).take n):=⟨by rw [← rL,bC,Af,cR.ah.1]⟩;obtain ⟨TD,pB⟩:=zX (aF (fC [a,b,c,d] (kX 0) (bytes PD)));have t0:∀ W,Calls prog 126 #[.agg #[.int .u8 (a:Int),.int .u8 (b:Int),.int .u8 (c:Int),.int .u8 (d:Int)],.int .i64 0,.string PD] W fun e w'=>e=.returned (.string TD)∧Sl (Below W.heap.size W w'):=fun W=>by rw [← pB];exact lM [a,b,c,d] 0 PD W rfl im.ah (by rw [← rL,DJ];omega)
               have Te:IntKind.i64.wrap (n:Int)=(n:Int):=by rw [lZ];omega
               go_upto_region 24 with fail
               obtain ⟨Rw,hR⟩:=zX w5.drew;have al:Below w.heap.size w Rw:=by rw [← hR];exact ch.ah.drew
               have dk:Rw.heap[fb]? = some (.cells #[.bool true,.int .i64 (o:Int),.bool true,.int .u8 (a:Int),.int .u8 (b:Int),.int .u8 (c:Int),.int .u8 (d:Int),.string {data:=#[]}] 61 (0,0)):=by rw [← hR];exact sL.ah
               have gP:Rw.heap[w.heap.size]? = some (.cells zZ 61 (0,0)):=by rw [← hR];exact o3.ah
               refine Ai ?_;refine Ah (S:=fun W=>Below w.heap.size w W) (by kernel_rfl) ?_;change wpAnyH _ _ _ _ _ _ _ _ w5.drew;rw [hR];clear hR ch sL o3;refine zT 0 (some 118) (.fieldAddr 61 (.tmp 7) 3) _ al ?_;simp only [zA,zB,zS];refine zT 2 (some 120) (.move (.tmp 11)) _ al ?_;simp only [zA,zB,zS];refine zT 3 (some 121) (.move (.tmp 8)) _ al ?_;simp only [zA,zB,zS];refine zT 4 (some 122) (.slice 9 (.tmp 120) none (some (.tmp 121)) none) (.string PD) al ?_ (hy:=fun o' ho W hS=>yh ho (by rfl) (by rfl) (by have:=ub.ah;omega) rL);simp only [zA,zB,zS];refine zR 1 (some 119) (.load 59 (.tmp 118)) 59 (.agg #[.int .u8 (a:Int),.int .u8 (b:Int),.int .u8 (c:Int),.int .u8 (d:Int)]) Rw al ?_ (hy:=fun o' ho _=>by simp only [execOp,ho];obtain ⟨f0,f1,f2,f3,f4,f5,f6,f7⟩:=oZ dk;go_simp;try rfl);simp only [zA,zB,zS];refine zC 5 (some 123) (.call {callee:=.value (.func 126),args:=#[.tmp 119,.const (.int .i64 0),.tmp 122],argTypes:=#[59,3,9]}) 126 #[.agg #[.int .u8 (a:Int),.int .u8 (b:Int),.int .u8 (c:Int),.int .u8 (d:Int)],.int .i64 0,.string PD] ?_;refine (t0 Rw).mono ?_;rintro e X ⟨rfl,df⟩;have cT:Below w.heap.size w X:=al.trans (df.ah.mono al.size);have jt:X.heap[fb]? = some (.cells #[.bool true,.int .i64 (o:Int),.bool true,.int .u8 (a:Int),.int .u8 (b:Int),.int .u8 (c:Int),.int .u8 (d:Int),.string {data:=#[]}] 61 (0,0)):=ay dk df.ah;have kt:X.heap[w.heap.size]? = some (.cells zZ 61 (0,0)):=ay gP df.ah;refine ⟨_,rfl,cT,?_⟩;simp only [zA,zB,zS];refine zT 6 (some 124) (.fieldAddr 61 (.tmp 7) 4) _ cT ?_;simp only [zA,zB,zS];obtain ⟨w8,ff⟩:=zX (X.setCell ⟨fb,7,none⟩ (.string TD));have px:X.frozen? ⟨fb,7,none⟩=false:=kT _ _ _ _ _ jt;have A6:X.cell? ⟨fb,7,none⟩=some (.string {data:=#[]}):=(oZ jt).2.2.2.2.2.2.2;have lA:Sl (Below w.heap.size w w8):=⟨by rw [← ff];exact cT.setCell (by show w.heap.size≤fb;have:=ko.ah;omega) _⟩;have pl:Sl (w8.heap[fb]? = some (.cells #[.bool true,.int .i64 (o:Int),.bool true,.int .u8 (a:Int),.int .u8 (b:Int),.int .u8 (c:Int),.int .u8 (d:Int),.string TD] 61 (0,0))):=⟨by rw [← ff,lF _ _ _ _ _ _ jt];rfl⟩;have CM:Sl (w8.heap[w.heap.size]? = some (.cells zZ 61 (0,0))):=⟨by rw [← ff,pI _ _ _ _ (by show w.heap.size≠fb;have:=ko.ah;omega)];exact kt⟩;refine zW 7 none (.store 9 (.tmp 124) (.tmp 123)) 0 w8 lA.ah ?_ (hy:=fun o' ho ht=>by simp only [execOp,ho];go_simp;first | done | rw [ff] | rfl);simp only [Act.put];refine zE (by kernel_rfl) ?_;have lr:Sl (eX (x :: xs) (mo:Int)=(⟨true,(o:Int),true,[a,b,c,d],fC [a,b,c,d] 0 (((xs.drop k).drop 4).take n)⟩,en,0)):=⟨by rw [HQ.ah];unfold iH;rw [if_pos rfl,if_neg (by have:=ub.ah;omega),SZ.ah,Ta.ah]<;>rfl⟩;have wk:Sl (TD=aF (fC [a,b,c,d] 0 (((xs.drop k).drop 4).take n))):=⟨by rw [← pB,Tb.ah]<;>rfl⟩;have HI:=aW (cs:=#[.bool true,.int .i64 (o:Int),.bool true,.int .u8 (a:Int),.int .u8 (b:Int),.int .u8 (c:Int),.int .u8 (d:Int),.string TD]) rfl;obtain ⟨h0,h1,h2,h3,h4,h5,h6,h7⟩:=oZ pl.ah;clear px A6 ff kt jt cT df al dk gP t0 rL pB
               go_wp2_with (refine fG rfl 61 (.tmp 4) (.tmp 125) rfl w.heap.size #[.bool true,.int .i64 (o:Int),.bool true,.int .u8 (a:Int),.int .u8 (b:Int),.int .u8 (c:Int),.int .u8 (d:Int),.string TD] rfl rfl 61 zZ CM.ah HI rfl (aZ _ _ _ _ _ _ _ _) ?_)
               refine gX (dw rfl _ _ w.heap.size 61 _ (0,0) rfl (gY _ _ _ _ _ _ CM.ah) rfl) rfl ?_;rw [lr.ah,wk.ah];exact ⟨rfl,⟨below_setRow lA.ah (aY _) _⟩⟩
            ·have hqy:((y:Int)≥128)=False:=dR (by omega)
             rw [iQ h128] at HQ;by_cases qk:rl<n
             ·have Mh:((rl:Int)<(n:Int))=True:=eq_true (by omega)
              have qS:=HQ;have HQ:Sl (eX (x :: xs) (mo:Int)=(dn,0,90)):=⟨by rw [qS.ah];unfold iH;rw [if_neg (by decide),if_pos (by omega)]⟩;clear qS h128 qk;go_upto_region 23 with fail
              have HI:=aW (cs:=zZ) rfl;go_wp2_with (refine fG rfl 61 (.tmp 4) (.tmp 117) rfl w.heap.size zZ rfl rfl 61 zZ dg.ah HI rfl (aZ _ _ _ _ _ _ _ _) ?_)
              refine gX (dw rfl _ _ w.heap.size 61 _ (0,0) rfl (gY _ _ _ _ _ _ dg.ah) rfl) rfl ?_;rw [HQ.ah];exact ⟨rfl,⟨below_setRow bv.ah (aY _) _⟩⟩
             ·have Mh:((rl:Int)<(n:Int))=False:=dR (by omega)
              have ub:Sl (n≤RS.size∧n≤(xs.drop k).length):=⟨by omega,by omega⟩;obtain ⟨en,xF⟩:=zX (pk+n);have Ta:=Sl.mk xF;have z4:IntKind.i64.wrap ((s.size:Int)-(rl:Int))=(pk:Int):=by rw [lZ];omega
              have z5:IntKind.i64.wrap ((pk:Int)+(n:Int))=(en:Int):=by rw [lZ];omega
              clear qk h128 wv;obtain ⟨PD,rL⟩:=zX (RS.extract 0 n);have Tb:Sl (bytes PD=(xs.drop k).take n):=⟨by rw [← rL,bC,Af,js.ah.1]⟩;obtain ⟨TD,pB⟩:=zX (aF (fC [0,0,0,0] (kX 0) (bytes PD)));have t0:∀ W,Calls prog 126 #[.agg #[.int .u8 0,.int .u8 0,.int .u8 0,.int .u8 0],.int .i64 0,.string PD] W fun e w'=>e=.returned (.string TD)∧Sl (Below W.heap.size W w'):=fun W=>by rw [← pB];exact lM [0,0,0,0] 0 PD W rfl (fun x hx=>by simp at hx;omega) (by rw [← rL,DJ];omega)
              have Te:IntKind.i64.wrap (n:Int)=(n:Int):=by rw [lZ];omega
              go_upto_region 24 with fail
              obtain ⟨Rw,hR⟩:=zX w3.drew;have al:Below w.heap.size w Rw:=by rw [← hR];exact bv.ah.drew
              have dk:Rw.heap[fb]? = some (.cells #[.bool true,.int .i64 (o:Int),.bool false,.int .u8 0,.int .u8 0,.int .u8 0,.int .u8 0,.string {data:=#[]}] 61 (0,0)):=by rw [← hR];exact o4.ah
              have gP:Rw.heap[w.heap.size]? = some (.cells zZ 61 (0,0)):=by rw [← hR];exact dg.ah
              refine Ai ?_;refine Ah (S:=fun W=>Below w.heap.size w W) (by kernel_rfl) ?_;change wpAnyH _ _ _ _ _ _ _ _ w3.drew;rw [hR];clear hR bv o4 dg;refine zT 0 (some 118) (.fieldAddr 61 (.tmp 7) 3) _ al ?_;simp only [zA,zB,zS];refine zT 2 (some 120) (.move (.tmp 11)) _ al ?_;simp only [zA,zB,zS];refine zT 3 (some 121) (.move (.tmp 8)) _ al ?_;simp only [zA,zB,zS];refine zT 4 (some 122) (.slice 9 (.tmp 120) none (some (.tmp 121)) none) (.string PD) al ?_ (hy:=fun o' ho W hS=>yh ho (by rfl) (by rfl) (by have:=ub.ah;omega) rL);simp only [zA,zB,zS];refine zR 1 (some 119) (.load 59 (.tmp 118)) 59 (.agg #[.int .u8 0,.int .u8 0,.int .u8 0,.int .u8 0]) Rw al ?_ (hy:=fun o' ho _=>by simp only [execOp,ho];obtain ⟨f0,f1,f2,f3,f4,f5,f6,f7⟩:=oZ dk;go_simp;try rfl);simp only [zA,zB,zS];refine zC 5 (some 123) (.call {callee:=.value (.func 126),args:=#[.tmp 119,.const (.int .i64 0),.tmp 122],argTypes:=#[59,3,9]}) 126 #[.agg #[.int .u8 0,.int .u8 0,.int .u8 0,.int .u8 0],.int .i64 0,.string PD] ?_;refine (t0 Rw).mono ?_;rintro e X ⟨rfl,df⟩;have cT:Below w.heap.size w X:=al.trans (df.ah.mono al.size);have jt:X.heap[fb]? = some (.cells #[.bool true,.int .i64 (o:Int),.bool false,.int .u8 0,.int .u8 0,.int .u8 0,.int .u8 0,.string {data:=#[]}] 61 (0,0)):=ay dk df.ah;have kt:X.heap[w.heap.size]? = some (.cells zZ 61 (0,0)):=ay gP df.ah;refine ⟨_,rfl,cT,?_⟩;simp only [zA,zB,zS];refine zT 6 (some 124) (.fieldAddr 61 (.tmp 7) 4) _ cT ?_;simp only [zA,zB,zS];obtain ⟨w8,ff⟩:=zX (X.setCell ⟨fb,7,none⟩ (.string TD));have px:X.frozen? ⟨fb,7,none⟩=false:=kT _ _ _ _ _ jt;have A6:X.cell? ⟨fb,7,none⟩=some (.string {data:=#[]}):=(oZ jt).2.2.2.2.2.2.2;have lA:Sl (Below w.heap.size w w8):=⟨by rw [← ff];exact cT.setCell (by show w.heap.size≤fb;have:=ko.ah;omega) _⟩;have pl:Sl (w8.heap[fb]? = some (.cells #[.bool true,.int .i64 (o:Int),.bool false,.int .u8 0,.int .u8 0,.int .u8 0,.int .u8 0,.string TD] 61 (0,0))):=⟨by rw [← ff,lF _ _ _ _ _ _ jt];rfl⟩;have CM:Sl (w8.heap[w.heap.size]? = some (.cells zZ 61 (0,0))):=⟨by rw [← ff,pI _ _ _ _ (by show w.heap.size≠fb;have:=ko.ah;omega)];exact kt⟩;refine zW 7 none (.store 9 (.tmp 124) (.tmp 123)) 0 w8 lA.ah ?_ (hy:=fun o' ho ht=>by simp only [execOp,ho];go_simp;first | done | rw [ff] | rfl);simp only [Act.put];refine zE (by kernel_rfl) ?_;have lr:Sl (eX (x :: xs) (mo:Int)=(⟨true,(o:Int),false,[0,0,0,0],(xs.drop k).take n⟩,en,0)):=⟨by rw [HQ.ah];unfold iH;rw [if_neg (by decide),if_neg (by have:=ub.ah;omega),Ta.ah]<;>rfl⟩;have wk:Sl (TD=aF ((xs.drop k).take n)):=⟨by rw [← pB,Tb.ah,Ei (z:=[0,0,0,0]) (by decide)]<;>rfl⟩;have HI:=aW (cs:=#[.bool true,.int .i64 (o:Int),.bool false,.int .u8 0,.int .u8 0,.int .u8 0,.int .u8 0,.string TD]) rfl;obtain ⟨h0,h1,h2,h3,h4,h5,h6,h7⟩:=oZ pl.ah;clear px A6 ff kt jt cT df al dk gP t0 rL pB;go_wp2_with (refine fG rfl 61 (.tmp 4) (.tmp 125) rfl w.heap.size #[.bool true,.int .i64 (o:Int),.bool false,.int .u8 0,.int .u8 0,.int .u8 0,.int .u8 0,.string TD] rfl rfl 61 zZ CM.ah HI rfl (aZ _ _ _ _ _ _ _ _) ?_)
              refine gX (dw rfl _ _ w.heap.size 61 _ (0,0) rfl (gY _ _ _ _ _ _ CM.ah) rfl) rfl ?_;rw [lr.ah,wk.ah];exact ⟨rfl,⟨below_setRow lA.ah (aY _) _⟩⟩
         ·subst he
          have HQ:Sl (eX (x :: xs) ae=(dn,0,90)):=⟨by rw [i8.ah,if_neg (by rw [cX];decide),if_neg Fk.ah,cD,if_neg (show ¬ (80:Nat)=81 by decide),if_pos rfl]⟩;clear cD cV i8;go_upto_region 12 with fail
          have HI:=aW (cs:=zZ) rfl;go_wp2_with (refine fG rfl 61 (.tmp 4) (.tmp 78) rfl w.heap.size zZ rfl rfl 61 zZ dg.ah HI rfl (aZ _ _ _ _ _ _ _ _) ?_)
          refine gX (dw rfl _ _ w.heap.size 61 _ (0,0) rfl (gY _ _ _ _ _ _ dg.ah) rfl) rfl ?_;rw [HQ.ah];exact ⟨rfl,⟨below_setRow bv.ah (aY _) _⟩⟩
         ·subst he
          have HQ:Sl (eX (x :: xs) ae=(dn,0,91)):=⟨by rw [i8.ah,if_neg (by rw [cX];decide),if_neg Fk.ah,cD,if_pos rfl]⟩;clear cD cV i8;go_upto_region 10 with fail
          have HI:=aW (cs:=zZ) rfl;go_wp2_with (refine fG rfl 61 (.tmp 4) (.tmp 75) rfl w.heap.size zZ rfl rfl 61 zZ dg.ah HI rfl (aZ _ _ _ _ _ _ _ _) ?_)
          refine gX (dw rfl _ _ w.heap.size 61 _ (0,0) rfl (gY _ _ _ _ _ _ dg.ah) rfl) rfl ?_;rw [HQ.ah];exact ⟨rfl,⟨below_setRow bv.ah (aY _) _⟩⟩
       ·have Ya:((s.size:Int)>1)=False:=dR (by rw [← fe];simp;omega)
        have Fk:Sl (¬ (0<xs.length∧8≤x % 16∧125<xs.getD 0 0 % 128)):=⟨fun h=>nA h.1⟩;obtain ⟨⟨n,k,e⟩,cD⟩:∃ r,bK xs=r:=⟨_,rfl⟩;have cV:=yF xs;rw [cD] at cV;have eL:=jP xs;rw [cD] at eL;simp only at cV eL;have i8:=Sl.mk (jR x xs ae);have CI:∀ W,Calls prog 125 #[.string (s.extract 1 s.size)] W fun e' w'=>e'=.returned (.tuple #[.int .u64 (n:Int),.int .i64 (k:Int),.int .i64 (e:Int)])∧W=w':=fun W=>by
         have:=l9 (s.extract 1 s.size) W (by rw [DJ];omega);rw [show bytes (s.extract 1 s.size)=xs by rw [bC,cq.ah,nC (by rw [← cq.ah,au];exact aY _)];rfl,cD] at this;exact this
        go_wp2_with fail
        refine (CI _).mono ?_;rintro e' w' ⟨rfl,rfl⟩;clear CI e0 e1 e2 e3 e4 e5 e6 e7;have he:e=80:=by
         cases xs with
         | nil=>have h2:(bK []).2.2=80:=rfl;rw [cD] at h2;exact h2
         | cons y ys=>exact absurd (show 0<(y :: ys).length by simp) nA
        subst he;have HQ:Sl (eX (x :: xs) ae=(dn,0,90)):=⟨by rw [i8.ah,if_neg (by rw [cX];decide),if_neg Fk.ah,cD,if_neg (show ¬ (80:Nat)=81 by decide),if_pos rfl]⟩;clear cD cV i8;go_upto_region 12 with fail
        have HI:=aW (cs:=zZ) rfl;go_wp2_with (refine fG rfl 61 (.tmp 4) (.tmp 78) rfl w.heap.size zZ rfl rfl 61 zZ dg.ah HI rfl (aZ _ _ _ _ _ _ _ _) ?_)
        refine gX (dw rfl _ _ w.heap.size 61 _ (0,0) rfl (gY _ _ _ _ _ _ dg.ah) rfl) rfl ?_;rw [HQ.ah];exact ⟨rfl,⟨below_setRow bv.ah (aY _) _⟩⟩
  ·have hqo:((o:Int)>2)=False:=dR (by omega)
   have Bu:ct=false:=by cases ct with
    | false=>rfl
    | true=>have:=CTI.ah.1 (by trivial);rw [Kd.ah] at this;omega
   subst Bu;have cX:gG x=false:=by
    cases hb:gG x with
    | false=>rfl
    | true=>rcases lk.ah.1 hb with h | h | h;exact absurd Ek h;exact absurd h.1 ym;cases h.1
   have Fk:Sl (¬ (0<xs.length∧8≤x % 16∧125<xs.getD 0 0 % 128)):=⟨fun h=>by have h2:=h.2.1;rw [Kd.ah] at h2;omega⟩;go_wp2_with fail
   refine (Ke _).mono ?_;rintro e' w' ⟨rfl,rfl⟩;by_cases nA:0<xs.length
   ·have Ya:((s.size:Int)>1)=True:=eq_true (by rw [← fe];simp;omega)
    go_wp2_with fail
    refine (Ke _).mono ?_;rintro e' w' ⟨rfl,rfl⟩;obtain ⟨⟨n,k,e⟩,cD⟩:∃ r,bK xs=r:=⟨_,rfl⟩;have cV:=yF xs;rw [cD] at cV;have eL:=jP xs;rw [cD] at eL;simp only at cV eL;have i8:=Sl.mk (jR x xs ae);have CI:∀ W,Calls prog 125 #[.string (s.extract 1 s.size)] W fun e' w'=>e'=.returned (.tuple #[.int .u64 (n:Int),.int .i64 (k:Int),.int .i64 (e:Int)])∧W=w':=fun W=>by
     have:=l9 (s.extract 1 s.size) W (by rw [DJ];omega);rw [show bytes (s.extract 1 s.size)=xs by rw [bC,cq.ah,nC (by rw [← cq.ah,au];exact aY _)];rfl,cD] at this;exact this
    go_wp2_with fail
    refine (CI _).mono ?_;rintro e' w' ⟨rfl,rfl⟩;clear CI e0 e1 e2 e3 e4 e5 e6 e7;rcases eL with he | he | he
    ·subst he
     have iS:Sl (eX (x :: xs) ae=if ae<(n:Int) then (dn,0,92) else iH aN (o:Int) (decide (128≤xs.getD 0 0)) (1+k) n (xs.drop k)):=⟨by
      rw [i8.ah,if_neg (by rw [cX];decide),if_neg Fk.ah,cD,if_neg (show ¬ (0:Nat)=81 by decide),if_neg (show ¬ (0:Nat)=80 by decide)];by_cases hmn:ae<(n:Int)
      ·rw [if_pos hmn,if_pos hmn]
      ·rw [if_neg hmn,if_neg hmn,yJ,Kd.ah,lj.ah]⟩
     have M5:0<xs.length:=by
      cases xs with
      | nil=>have h2:(bK []).2.2=80:=rfl;rw [cD] at h2;cases h2
      | cons y ys=>simp
     obtain ⟨y,hy⟩:=zX (xs.getD 0 0);rw [hy] at iS;have tS:1<s.size:=by rw [← fe];simp;omega
     have RO:xs.length+1=s.size:=by rw [← fe];simp
     have hy1:(s[1]'tS).toNat=y:=by rw [og s x xs cq.ah 0 tS];exact hy
     by_cases hneg:ae<0
     ·have nf:(ae<0)=True:=eq_true hneg
      have HQ:Sl (eX (x :: xs) ae=(dn,0,92)):=⟨by rw [iS.ah];exact if_pos (by omega)⟩;clear hneg cD cV i8;go_upto_region 14 with fail
      have HI:=aW (cs:=zZ) rfl;go_wp2_with (refine fG rfl 61 (.tmp 4) (.tmp 87) rfl w.heap.size zZ rfl rfl 61 zZ dg.ah HI rfl (aZ _ _ _ _ _ _ _ _) ?_)
      refine gX (dw rfl _ _ w.heap.size 61 _ (0,0) rfl (gY _ _ _ _ _ _ dg.ah) rfl) rfl ?_;rw [HQ.ah];exact ⟨rfl,⟨below_setRow bv.ah (aY _) _⟩⟩
     ·have nf:(ae<0)=False:=dR hneg
      obtain ⟨mo,rfl⟩:=JH (show 0≤ae by omega);have hmw:IntKind.u64.wrap (mo:Int)=(mo:Int):=by rw [FP];omega
      by_cases eJ:mo<n
      ·have mw:((n:Int)>(mo:Int))=True:=eq_true (by omega)
       have HQ:Sl (eX (x :: xs) (mo:Int)=(dn,0,92)):=⟨by rw [iS.ah];exact if_pos (by omega)⟩;clear hneg cD cV i8;go_upto_region 14 with fail
       have HI:=aW (cs:=zZ) rfl;go_wp2_with (refine fG rfl 61 (.tmp 4) (.tmp 87) rfl w.heap.size zZ rfl rfl 61 zZ dg.ah HI rfl (aZ _ _ _ _ _ _ _ _) ?_)
       refine gX (dw rfl _ _ w.heap.size 61 _ (0,0) rfl (gY _ _ _ _ _ _ dg.ah) rfl) rfl ?_;rw [HQ.ah];exact ⟨rfl,⟨below_setRow bv.ah (aY _) _⟩⟩
      ·have mw:((n:Int)>(mo:Int))=False:=dR (by omega)
       obtain ⟨pk,Ln⟩:=zX (1+k);have HQ:Sl (eX (x :: xs) (mo:Int)=iH aN (o:Int) (decide (128≤y)) pk n (xs.drop k)):=⟨by rw [iS.ah,if_neg (by omega),Ln]⟩;have Nn:IntKind.i64.wrap (1+(k:Int))=(pk:Int):=by rw [lZ];omega
       obtain ⟨rl,wv⟩:=zX ((xs.drop k).length);have afT:pk+rl=s.size:=by rw [← wv,iP,← fe,jE];omega
       have afU:pk≤s.size:=by omega
       obtain ⟨RS,rK⟩:=zX (s.extract pk s.size);have js:Sl (bytes RS=xs.drop k∧RS.size=rl):=⟨by rw [← rK,bC,cq.ah,nC (by rw [← cq.ah,au];exact aY _),← Ln,Nat.add_comm];rfl,by rw [← rK,DJ];omega⟩;have qi:=js.ah.2;have GD:n≤9223372036854775807:=by omega
       have hwl:IntKind.u64.wrap (rl:Int)=(rl:Int):=by rw [FP];omega
       clear hneg eJ cD cV i8 iS;by_cases h128:128≤y
       ·have hqy:((y:Int)≥128)=True:=eq_true (by omega)
        rw [iG h128] at HQ;have z2:w3.frozen? ⟨fb,2,none⟩=false:=kT _ _ _ _ _ o4.ah;obtain ⟨f0,f1,f2,f3,f4,f5,f6,f7⟩:=oZ o4.ah;obtain ⟨w4,cS⟩:=zX (w3.setCell ⟨fb,2,none⟩ (.bool true));have br:Sl (Below w.heap.size w w4):=⟨by rw [← cS];exact bv.ah.setCell (by show w.heap.size≤fb;have:=ko.ah;omega) _⟩;have DE:Sl (w4.heap[fb]? = some (.cells #[.bool aN,.int .i64 (o:Int),.bool true,.int .u8 0,.int .u8 0,.int .u8 0,.int .u8 0,.string {data:=#[]}] 61 (0,0))):=⟨by rw [← cS,lF _ _ _ _ _ _ o4.ah];rfl⟩;have iN:Sl (w4.heap[w.heap.size]? = some (.cells zZ 61 (0,0))):=⟨by rw [← cS,pI _ _ _ _ (by show w.heap.size≠fb;have:=ko.ah;omega)];exact dg.ah⟩;by_cases h4:rl<4
        ·have Ff:((rl:Int)<4)=True:=eq_true (by omega)
         have qS:=HQ;have HQ:Sl (eX (x :: xs) (mo:Int)=(dn,0,90)):=⟨by rw [qS.ah];unfold iH;rw [if_pos rfl,if_pos (by omega)]⟩;clear qS h4 h128;go_upto_region 19 with fail
         have HI:=aW (cs:=zZ) rfl;go_wp2_with (refine fG rfl 61 (.tmp 4) (.tmp 99) rfl w.heap.size zZ rfl rfl 61 zZ iN.ah HI rfl (aZ _ _ _ _ _ _ _ _) ?_)
         refine gX (dw rfl _ _ w.heap.size 61 _ (0,0) rfl (gY _ _ _ _ _ _ iN.ah) rfl) rfl ?_;rw [HQ.ah];exact ⟨rfl,⟨below_setRow br.ah (aY _) _⟩⟩
        ·have Ff:((rl:Int)<4)=False:=dR (by omega)
         obtain ⟨a,b,c,d,lP⟩:=F5 (xs.drop k) (by omega);have im:Sl (aU 256 [a,b,c,d]):=⟨by rw [← lP];exact (AR.ah.drop k).take 4⟩;have SZ:=Sl.mk lP;have m4:Sl (∀ i v,i<4→[a,b,c,d].getD i 0=v→(xs.drop k).getD i 0=v):=⟨fun i v hi hv=>by
          rw [← hv,← lP];simp only [iw,NP hi]⟩
         have h4r:4≤(xs.drop k).length:=by omega
         have Kg:=Sl.mk h4r;obtain ⟨R4,S5⟩:=zX (RS.extract 4 RS.size);have afY:RS.extract 4 rl=R4:=by rw [← qi];exact S5
         obtain ⟨r4,Vi⟩:=zX (rl-4);have cR:Sl (bytes R4=(xs.drop k).drop 4∧R4.size=r4):=⟨by rw [← S5,bC,js.ah.1,nC (by rw [wv,qi];exact aY _)],by rw [← S5,DJ];omega⟩;have afZ:=cR.ah.2;have af0:Sl ((xs.drop k).drop 4=(xs.drop k).drop 4):=⟨rfl⟩;have af2:IntKind.u64.wrap (r4:Int)=(r4:Int):=by rw [FP];omega
         clear hwl lP;go_upto_region 20 with fail
         obtain ⟨Rw,hR⟩:=zX w4.drew;have al:Below w.heap.size w Rw:=by rw [← hR];exact br.ah.drew
         have dk:Rw.heap[fb]? = some (.cells #[.bool aN,.int .i64 (o:Int),.bool true,.int .u8 0,.int .u8 0,.int .u8 0,.int .u8 0,.string {data:=#[]}] 61 (0,0)):=by rw [← hR];exact DE.ah
         have gP:Rw.heap[w.heap.size]? = some (.cells zZ 61 (0,0)):=by rw [← hR];exact iN.ah
         refine Ai ?_;refine Ah (S:=fun W=>Below w.heap.size w W) (by kernel_rfl) ?_;change wpAnyH _ _ _ _ _ _ _ _ w4.drew;rw [hR];clear hR br DE iN z2 f0 f1 f2 f3 f4 f5 f6 f7 cS;refine zT 0 (some 100) (.move (.tmp 11)) _ al ?_;simp only [zA,zB,zS];refine zT 1 (some 101) (.index 9 (.tmp 100) (.const (.int .i64 0))) (.int .u8 (a:Int)) al ?_ (hy:=fun o' ho W hS=>by exact kL (i:=0) ho (by rfl) (by rfl) ⟨js.ah.1,by have:=Kg.ah;omega⟩ (m4.ah 0 _ (by decide) rfl));simp only [zA,zB,zS];refine zT 2 (some 102) (.move (.tmp 11)) _ al ?_;simp only [zA,zB,zS];refine zT 3 (some 103) (.index 9 (.tmp 102) (.const (.int .i64 1))) (.int .u8 (b:Int)) al ?_ (hy:=fun o' ho W hS=>by exact kL (i:=1) ho (by rfl) (by rfl) ⟨js.ah.1,by have:=Kg.ah;omega⟩ (m4.ah 1 _ (by decide) rfl));simp only [zA,zB,zS];refine zT 4 (some 104) (.move (.tmp 11)) _ al ?_;simp only [zA,zB,zS];refine zT 5 (some 105) (.index 9 (.tmp 104) (.const (.int .i64 2))) (.int .u8 (c:Int)) al ?_ (hy:=fun o' ho W hS=>by exact kL (i:=2) ho (by rfl) (by rfl) ⟨js.ah.1,by have:=Kg.ah;omega⟩ (m4.ah 2 _ (by decide) rfl));simp only [zA,zB,zS];refine zT 6 (some 106) (.move (.tmp 11)) _ al ?_;simp only [zA,zB,zS];refine zT 7 (some 107) (.index 9 (.tmp 106) (.const (.int .i64 3))) (.int .u8 (d:Int)) al ?_ (hy:=fun o' ho W hS=>by exact kL (i:=3) ho (by rfl) (by rfl) ⟨js.ah.1,by have:=Kg.ah;omega⟩ (m4.ah 3 _ (by decide) rfl));simp only [zA,zB,zS];refine zT 8 (some 108) (.build 59 #[(0,.tmp 101),(1,.tmp 103),(2,.tmp 105),(3,.tmp 107)]) _ al ?_;simp only [zA,zB,zS];refine zT 9 (some 109) (.fieldAddr 61 (.tmp 7) 3) _ al ?_;simp only [zA,zB,zS];obtain ⟨w5,dq⟩:=zX (Rw.setRow fb #[.bool aN,.int .i64 (o:Int),.bool true,.int .u8 (a:Int),.int .u8 (b:Int),.int .u8 (c:Int),.int .u8 (d:Int),.string {data:=#[]}]);have ch:Sl (Below w.heap.size w w5):=⟨by rw [← dq];exact below_setRow al (by have:=ko.ah;omega) _⟩;have sL:Sl (w5.heap[fb]? = some (.cells #[.bool aN,.int .i64 (o:Int),.bool true,.int .u8 (a:Int),.int .u8 (b:Int),.int .u8 (c:Int),.int .u8 (d:Int),.string {data:=#[]}] 61 (0,0))):=⟨by rw [← dq];exact gY _ _ _ _ _ _ dk⟩;have o3:Sl (w5.heap[w.heap.size]? = some (.cells zZ 61 (0,0))):=⟨by rw [← dq,qC _ _ _ _ (by have:=ko.ah;omega)];exact gP⟩;refine zW 10 none (.store 59 (.tmp 109) (.tmp 108)) 0 w5 ch.ah ?_ (hy:=fun o' ho ht=>by rw [← dq];exact Dq (a:=0) (b:=0) (c:=0) (d:=0) ho (by rfl) (by rfl) dk);simp only [Act.put];refine zE (by kernel_rfl) ?_;clear al dk gP dq;have h4p:4≤rl:=by omega
         have h4i:(4:Int)≤(rl:Int):=by omega
         have h4t:((4:Int)≤(rl:Int))=True:=eq_true h4i;by_cases qk:r4<n
         ·have Mh:((r4:Int)<(n:Int))=True:=eq_true (by omega)
          have qS:=HQ;have HQ:Sl (eX (x :: xs) (mo:Int)=(dn,0,90)):=⟨by rw [qS.ah];unfold iH;rw [if_pos rfl,if_pos (by omega)]⟩;clear qS h4 h128 qk;go_upto_region 23 with fail
          have HI:=aW (cs:=zZ) rfl;go_wp2_with (refine fG rfl 61 (.tmp 4) (.tmp 117) rfl w.heap.size zZ rfl rfl 61 zZ o3.ah HI rfl (aZ _ _ _ _ _ _ _ _) ?_)
          refine gX (dw rfl _ _ w.heap.size 61 _ (0,0) rfl (gY _ _ _ _ _ _ o3.ah) rfl) rfl ?_;rw [HQ.ah];exact ⟨rfl,⟨below_setRow ch.ah (aY _) _⟩⟩
         ·have Mh:((r4:Int)<(n:Int))=False:=dR (by omega)
          have ub:Sl (n≤R4.size∧4+n≤(xs.drop k).length):=⟨by omega,by omega⟩;obtain ⟨en,xF⟩:=zX (pk+4+n);have Ta:=Sl.mk xF;have z4:IntKind.i64.wrap ((s.size:Int)-(r4:Int))=((pk+4:Nat):Int):=by rw [lZ];omega
          obtain ⟨p4,Fd⟩:=zX (pk+4);rw [Fd] at z4;have z5:IntKind.i64.wrap ((p4:Int)+(n:Int))=(en:Int):=by rw [lZ];omega
          clear qk h4 h128 wv;obtain ⟨PD,rL⟩:=zX (R4.extract 0 n);have Tb:Sl (bytes PD=((xs.drop k).drop 4).take n):=⟨by rw [← rL,bC,Af,cR.ah.1]⟩;obtain ⟨TD,pB⟩:=zX (aF (fC [a,b,c,d] (kX 0) (bytes PD)));have t0:∀ W,Calls prog 126 #[.agg #[.int .u8 (a:Int),.int .u8 (b:Int),.int .u8 (c:Int),.int .u8 (d:Int)],.int .i64 0,.string PD] W fun e w'=>e=.returned (.string TD)∧Sl (Below W.heap.size W w'):=fun W=>by rw [← pB];exact lM [a,b,c,d] 0 PD W rfl im.ah (by rw [← rL,DJ];omega)
          have Te:IntKind.i64.wrap (n:Int)=(n:Int):=by rw [lZ];omega
          go_upto_region 24 with fail
          obtain ⟨Rw,hR⟩:=zX w5.drew;have al:Below w.heap.size w Rw:=by rw [← hR];exact ch.ah.drew
          have dk:Rw.heap[fb]? = some (.cells #[.bool aN,.int .i64 (o:Int),.bool true,.int .u8 (a:Int),.int .u8 (b:Int),.int .u8 (c:Int),.int .u8 (d:Int),.string {data:=#[]}] 61 (0,0)):=by rw [← hR];exact sL.ah
          have gP:Rw.heap[w.heap.size]? = some (.cells zZ 61 (0,0)):=by rw [← hR];exact o3.ah
          refine Ai ?_;refine Ah (S:=fun W=>Below w.heap.size w W) (by kernel_rfl) ?_;change wpAnyH _ _ _ _ _ _ _ _ w5.drew;rw [hR];clear hR ch sL o3;refine zT 0 (some 118) (.fieldAddr 61 (.tmp 7) 3) _ al ?_;simp only [zA,zB,zS];refine zT 2 (some 120) (.move (.tmp 11)) _ al ?_;simp only [zA,zB,zS];refine zT 3 (some 121) (.move (.tmp 8)) _ al ?_;simp only [zA,zB,zS];refine zT 4 (some 122) (.slice 9 (.tmp 120) none (some (.tmp 121)) none) (.string PD) al ?_ (hy:=fun o' ho W hS=>yh ho (by rfl) (by rfl) (by have:=ub.ah;omega) rL);simp only [zA,zB,zS];refine zR 1 (some 119) (.load 59 (.tmp 118)) 59 (.agg #[.int .u8 (a:Int),.int .u8 (b:Int),.int .u8 (c:Int),.int .u8 (d:Int)]) Rw al ?_ (hy:=fun o' ho _=>by simp only [execOp,ho];obtain ⟨f0,f1,f2,f3,f4,f5,f6,f7⟩:=oZ dk;go_simp;try rfl);simp only [zA,zB,zS];refine zC 5 (some 123) (.call {callee:=.value (.func 126),args:=#[.tmp 119,.const (.int .i64 0),.tmp 122],argTypes:=#[59,3,9]}) 126 #[.agg #[.int .u8 (a:Int),.int .u8 (b:Int),.int .u8 (c:Int),.int .u8 (d:Int)],.int .i64 0,.string PD] ?_;refine (t0 Rw).mono ?_;rintro e X ⟨rfl,df⟩;have cT:Below w.heap.size w X:=al.trans (df.ah.mono al.size);have jt:X.heap[fb]? = some (.cells #[.bool aN,.int .i64 (o:Int),.bool true,.int .u8 (a:Int),.int .u8 (b:Int),.int .u8 (c:Int),.int .u8 (d:Int),.string {data:=#[]}] 61 (0,0)):=ay dk df.ah;have kt:X.heap[w.heap.size]? = some (.cells zZ 61 (0,0)):=ay gP df.ah;refine ⟨_,rfl,cT,?_⟩;simp only [zA,zB,zS];refine zT 6 (some 124) (.fieldAddr 61 (.tmp 7) 4) _ cT ?_;simp only [zA,zB,zS];obtain ⟨w8,ff⟩:=zX (X.setCell ⟨fb,7,none⟩ (.string TD));have px:X.frozen? ⟨fb,7,none⟩=false:=kT _ _ _ _ _ jt;have A6:X.cell? ⟨fb,7,none⟩=some (.string {data:=#[]}):=(oZ jt).2.2.2.2.2.2.2;have lA:Sl (Below w.heap.size w w8):=⟨by rw [← ff];exact cT.setCell (by show w.heap.size≤fb;have:=ko.ah;omega) _⟩;have pl:Sl (w8.heap[fb]? = some (.cells #[.bool aN,.int .i64 (o:Int),.bool true,.int .u8 (a:Int),.int .u8 (b:Int),.int .u8 (c:Int),.int .u8 (d:Int),.string TD] 61 (0,0))):=⟨by rw [← ff,lF _ _ _ _ _ _ jt];rfl⟩;have CM:Sl (w8.heap[w.heap.size]? = some (.cells zZ 61 (0,0))):=⟨by rw [← ff,pI _ _ _ _ (by show w.heap.size≠fb;have:=ko.ah;omega)];exact kt⟩;refine zW 7 none (.store 9 (.tmp 124) (.tmp 123)) 0 w8 lA.ah ?_ (hy:=fun o' ho ht=>by simp only [execOp,ho];go_simp;first | done | rw [ff] | rfl);simp only [Act.put];refine zE (by kernel_rfl) ?_;have lr:Sl (eX (x :: xs) (mo:Int)=(⟨aN,(o:Int),true,[a,b,c,d],fC [a,b,c,d] 0 (((xs.drop k).drop 4).take n)⟩,en,0)):=⟨by rw [HQ.ah];unfold iH;rw [if_pos rfl,if_neg (by have:=ub.ah;omega),SZ.ah,Ta.ah]<;>rfl⟩;have wk:Sl (TD=aF (fC [a,b,c,d] 0 (((xs.drop k).drop 4).take n))):=⟨by rw [← pB,Tb.ah]<;>rfl⟩;have HI:=aW (cs:=#[.bool aN,.int .i64 (o:Int),.bool true,.int .u8 (a:Int),.int .u8 (b:Int),.int .u8 (c:Int),.int .u8 (d:Int),.string TD]) rfl;obtain ⟨h0,h1,h2,h3,h4,h5,h6,h7⟩:=oZ pl.ah;clear px A6 ff kt jt cT df al dk gP t0 rL pB
          go_wp2_with (refine fG rfl 61 (.tmp 4) (.tmp 125) rfl w.heap.size #[.bool aN,.int .i64 (o:Int),.bool true,.int .u8 (a:Int),.int .u8 (b:Int),.int .u8 (c:Int),.int .u8 (d:Int),.string TD] rfl rfl 61 zZ CM.ah HI rfl (aZ _ _ _ _ _ _ _ _) ?_)
          refine gX (dw rfl _ _ w.heap.size 61 _ (0,0) rfl (gY _ _ _ _ _ _ CM.ah) rfl) rfl ?_;rw [lr.ah,wk.ah];exact ⟨rfl,⟨below_setRow lA.ah (aY _) _⟩⟩
       ·have hqy:((y:Int)≥128)=False:=dR (by omega)
        rw [iQ h128] at HQ;by_cases qk:rl<n
        ·have Mh:((rl:Int)<(n:Int))=True:=eq_true (by omega)
         have qS:=HQ;have HQ:Sl (eX (x :: xs) (mo:Int)=(dn,0,90)):=⟨by rw [qS.ah];unfold iH;rw [if_neg (by decide),if_pos (by omega)]⟩;clear qS h128 qk;go_upto_region 23 with fail
         have HI:=aW (cs:=zZ) rfl;go_wp2_with (refine fG rfl 61 (.tmp 4) (.tmp 117) rfl w.heap.size zZ rfl rfl 61 zZ dg.ah HI rfl (aZ _ _ _ _ _ _ _ _) ?_)
         refine gX (dw rfl _ _ w.heap.size 61 _ (0,0) rfl (gY _ _ _ _ _ _ dg.ah) rfl) rfl ?_;rw [HQ.ah];exact ⟨rfl,⟨below_setRow bv.ah (aY _) _⟩⟩
        ·have Mh:((rl:Int)<(n:Int))=False:=dR (by omega)
         have ub:Sl (n≤RS.size∧n≤(xs.drop k).length):=⟨by omega,by omega⟩;obtain ⟨en,xF⟩:=zX (pk+n);have Ta:=Sl.mk xF;have z4:IntKind.i64.wrap ((s.size:Int)-(rl:Int))=(pk:Int):=by rw [lZ];omega
         have z5:IntKind.i64.wrap ((pk:Int)+(n:Int))=(en:Int):=by rw [lZ];omega
         clear qk h128 wv;obtain ⟨PD,rL⟩:=zX (RS.extract 0 n);have Tb:Sl (bytes PD=(xs.drop k).take n):=⟨by rw [← rL,bC,Af,js.ah.1]⟩;obtain ⟨TD,pB⟩:=zX (aF (fC [0,0,0,0] (kX 0) (bytes PD)));have t0:∀ W,Calls prog 126 #[.agg #[.int .u8 0,.int .u8 0,.int .u8 0,.int .u8 0],.int .i64 0,.string PD] W fun e w'=>e=.returned (.string TD)∧Sl (Below W.heap.size W w'):=fun W=>by rw [← pB];exact lM [0,0,0,0] 0 PD W rfl (fun x hx=>by simp at hx;omega) (by rw [← rL,DJ];omega)
         have Te:IntKind.i64.wrap (n:Int)=(n:Int):=by rw [lZ];omega
         go_upto_region 24 with fail
         obtain ⟨Rw,hR⟩:=zX w3.drew;have al:Below w.heap.size w Rw:=by rw [← hR];exact bv.ah.drew
         have dk:Rw.heap[fb]? = some (.cells #[.bool aN,.int .i64 (o:Int),.bool false,.int .u8 0,.int .u8 0,.int .u8 0,.int .u8 0,.string {data:=#[]}] 61 (0,0)):=by rw [← hR];exact o4.ah
         have gP:Rw.heap[w.heap.size]? = some (.cells zZ 61 (0,0)):=by rw [← hR];exact dg.ah
         refine Ai ?_;refine Ah (S:=fun W=>Below w.heap.size w W) (by kernel_rfl) ?_;change wpAnyH _ _ _ _ _ _ _ _ w3.drew;rw [hR];clear hR bv o4 dg;refine zT 0 (some 118) (.fieldAddr 61 (.tmp 7) 3) _ al ?_;simp only [zA,zB,zS];refine zT 2 (some 120) (.move (.tmp 11)) _ al ?_;simp only [zA,zB,zS];refine zT 3 (some 121) (.move (.tmp 8)) _ al ?_;simp only [zA,zB,zS];refine zT 4 (some 122) (.slice 9 (.tmp 120) none (some (.tmp 121)) none) (.string PD) al ?_ (hy:=fun o' ho W hS=>yh ho (by rfl) (by rfl) (by have:=ub.ah;omega) rL);simp only [zA,zB,zS];refine zR 1 (some 119) (.load 59 (.tmp 118)) 59 (.agg #[.int .u8 0,.int .u8 0,.int .u8 0,.int .u8 0]) Rw al ?_ (hy:=fun o' ho _=>by simp only [execOp,ho];obtain ⟨f0,f1,f2,f3,f4,f5,f6,f7⟩:=oZ dk;go_simp;try rfl);simp only [zA,zB,zS];refine zC 5 (some 123) (.call {callee:=.value (.func 126),args:=#[.tmp 119,.const (.int .i64 0),.tmp 122],argTypes:=#[59,3,9]}) 126 #[.agg #[.int .u8 0,.int .u8 0,.int .u8 0,.int .u8 0],.int .i64 0,.string PD] ?_;refine (t0 Rw).mono ?_;rintro e X ⟨rfl,df⟩;have cT:Below w.heap.size w X:=al.trans (df.ah.mono al.size);have jt:X.heap[fb]? = some (.cells #[.bool aN,.int .i64 (o:Int),.bool false,.int .u8 0,.int .u8 0,.int .u8 0,.int .u8 0,.string {data:=#[]}] 61 (0,0)):=ay dk df.ah;have kt:X.heap[w.heap.size]? = some (.cells zZ 61 (0,0)):=ay gP df.ah;refine ⟨_,rfl,cT,?_⟩;simp only [zA,zB,zS];refine zT 6 (some 124) (.fieldAddr 61 (.tmp 7) 4) _ cT ?_;simp only [zA,zB,zS];obtain ⟨w8,ff⟩:=zX (X.setCell ⟨fb,7,none⟩ (.string TD));have px:X.frozen? ⟨fb,7,none⟩=false:=kT _ _ _ _ _ jt;have A6:X.cell? ⟨fb,7,none⟩=some (.string {data:=#[]}):=(oZ jt).2.2.2.2.2.2.2;have lA:Sl (Below w.heap.size w w8):=⟨by rw [← ff];exact cT.setCell (by show w.heap.size≤fb;have:=ko.ah;omega) _⟩;have pl:Sl (w8.heap[fb]? = some (.cells #[.bool aN,.int .i64 (o:Int),.bool false,.int .u8 0,.int .u8 0,.int .u8 0,.int .u8 0,.string TD] 61 (0,0))):=⟨by rw [← ff,lF _ _ _ _ _ _ jt];rfl⟩;have CM:Sl (w8.heap[w.heap.size]? = some (.cells zZ 61 (0,0))):=⟨by rw [← ff,pI _ _ _ _ (by show w.heap.size≠fb;have:=ko.ah;omega)];exact kt⟩;refine zW 7 none (.store 9 (.tmp 124) (.tmp 123)) 0 w8 lA.ah ?_ (hy:=fun o' ho ht=>by simp only [execOp,ho];go_simp;first | done | rw [ff] | rfl);simp only [Act.put];refine zE (by kernel_rfl) ?_;have lr:Sl (eX (x :: xs) (mo:Int)=(⟨aN,(o:Int),false,[0,0,0,0],(xs.drop k).take n⟩,en,0)):=⟨by rw [HQ.ah];unfold iH;rw [if_neg (by decide),if_neg (by have:=ub.ah;omega),Ta.ah]<;>rfl⟩;have wk:Sl (TD=aF ((xs.drop k).take n)):=⟨by rw [← pB,Tb.ah,Ei (z:=[0,0,0,0]) (by decide)]<;>rfl⟩;have HI:=aW (cs:=#[.bool aN,.int .i64 (o:Int),.bool false,.int .u8 0,.int .u8 0,.int .u8 0,.int .u8 0,.string TD]) rfl;obtain ⟨h0,h1,h2,h3,h4,h5,h6,h7⟩:=oZ pl.ah;clear px A6 ff kt jt cT df al dk gP t0 rL pB;go_wp2_with (refine fG rfl 61 (.tmp 4) (.tmp 125) rfl w.heap.size #[.bool aN,.int .i64 (o:Int),.bool false,.int .u8 0,.int .u8 0,.int .u8 0,.int .u8 0,.string TD] rfl rfl 61 zZ CM.ah HI rfl (aZ _ _ _ _ _ _ _ _) ?_)
         refine gX (dw rfl _ _ w.heap.size 61 _ (0,0) rfl (gY _ _ _ _ _ _ CM.ah) rfl) rfl ?_;rw [lr.ah,wk.ah];exact ⟨rfl,⟨below_setRow lA.ah (aY _) _⟩⟩
    ·subst he
     have HQ:Sl (eX (x :: xs) ae=(dn,0,90)):=⟨by rw [i8.ah,if_neg (by rw [cX];decide),if_neg Fk.ah,cD,if_neg (show ¬ (80:Nat)=81 by decide),if_pos rfl]⟩;clear cD cV i8;go_upto_region 12 with fail
     have HI:=aW (cs:=zZ) rfl;go_wp2_with (refine fG rfl 61 (.tmp 4) (.tmp 78) rfl w.heap.size zZ rfl rfl 61 zZ dg.ah HI rfl (aZ _ _ _ _ _ _ _ _) ?_)
     refine gX (dw rfl _ _ w.heap.size 61 _ (0,0) rfl (gY _ _ _ _ _ _ dg.ah) rfl) rfl ?_;rw [HQ.ah];exact ⟨rfl,⟨below_setRow bv.ah (aY _) _⟩⟩
    ·subst he
     have HQ:Sl (eX (x :: xs) ae=(dn,0,91)):=⟨by rw [i8.ah,if_neg (by rw [cX];decide),if_neg Fk.ah,cD,if_pos rfl]⟩;clear cD cV i8;go_upto_region 10 with fail
     have HI:=aW (cs:=zZ) rfl;go_wp2_with (refine fG rfl 61 (.tmp 4) (.tmp 75) rfl w.heap.size zZ rfl rfl 61 zZ dg.ah HI rfl (aZ _ _ _ _ _ _ _ _) ?_)
     refine gX (dw rfl _ _ w.heap.size 61 _ (0,0) rfl (gY _ _ _ _ _ _ dg.ah) rfl) rfl ?_;rw [HQ.ah];exact ⟨rfl,⟨below_setRow bv.ah (aY _) _⟩⟩
   ·have Ya:((s.size:Int)>1)=False:=dR (by rw [← fe];simp;omega)
    obtain ⟨⟨n,k,e⟩,cD⟩:∃ r,bK xs=r:=⟨_,rfl⟩;have cV:=yF xs;rw [cD] at cV;have eL:=jP xs;rw [cD] at eL;simp only at cV eL;have i8:=Sl.mk (jR x xs ae);have CI:∀ W,Calls prog 125 #[.string (s.extract 1 s.size)] W fun e' w'=>e'=.returned (.tuple #[.int .u64 (n:Int),.int .i64 (k:Int),.int .i64 (e:Int)])∧W=w':=fun W=>by
     have:=l9 (s.extract 1 s.size) W (by rw [DJ];omega);rw [show bytes (s.extract 1 s.size)=xs by rw [bC,cq.ah,nC (by rw [← cq.ah,au];exact aY _)];rfl,cD] at this;exact this
    go_wp2_with fail
    refine (CI _).mono ?_;rintro e' w' ⟨rfl,rfl⟩;clear CI e0 e1 e2 e3 e4 e5 e6 e7;have he:e=80:=by
     cases xs with
     | nil=>have h2:(bK []).2.2=80:=rfl;rw [cD] at h2;exact h2
     | cons y ys=>exact absurd (show 0<(y :: ys).length by simp) nA
    subst he;have HQ:Sl (eX (x :: xs) ae=(dn,0,90)):=⟨by rw [i8.ah,if_neg (by rw [cX];decide),if_neg Fk.ah,cD,if_neg (show ¬ (80:Nat)=81 by decide),if_pos rfl]⟩;clear cD cV i8;go_upto_region 12 with fail
    have HI:=aW (cs:=zZ) rfl;go_wp2_with (refine fG rfl 61 (.tmp 4) (.tmp 78) rfl w.heap.size zZ rfl rfl 61 zZ dg.ah HI rfl (aZ _ _ _ _ _ _ _ _) ?_)
    refine gX (dw rfl _ _ w.heap.size 61 _ (0,0) rfl (gY _ _ _ _ _ _ dg.ah) rfl) rfl ?_;rw [HQ.ah];exact ⟨rfl,⟨below_setRow bv.ah (aY _) _⟩⟩
 ·have hqr:((r0:Int) != 0)=true:=by simp;omega
  have cX:gG x=true:=lk.ah.2 (.inl Ek);have HQ:Sl (eX (x :: xs) ae=(dn,0,91)):=⟨wO ae cX⟩;go_upto_region 5 with fail
  have HI:=aW (cs:=zZ) rfl;go_wp2_with (refine fG rfl 61 (.tmp 4) (.tmp 50) rfl w.heap.size zZ rfl rfl 61 zZ dg.ah HI rfl (aZ _ _ _ _ _ _ _ _) ?_)
  refine gX (dw rfl _ _ w.heap.size 61 _ (0,0) rfl (gY _ _ _ _ _ _ dg.ah) rfl) rfl ?_;rw [HQ.ah];exact ⟨rfl,⟨below_setRow bv.ah (aY _) _⟩⟩
end
end Go.Proofs.YtlahonjmfecikaaGreatDoor.gK
