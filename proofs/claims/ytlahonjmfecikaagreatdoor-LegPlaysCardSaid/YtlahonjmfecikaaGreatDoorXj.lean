/- Texts, joined. -/
import Derived.Test.YtlahonjmfecikaaGreatDoorXi
set_option maxRecDepth 100000
set_option maxHeartbeats 64000000
set_option linter.unusedVariables false
set_option linter.unusedSimpArgs false
open Go.Proofs.Tryz
namespace Go.Proofs.YtlahonjmfecikaaGreatDoor.Gh
open Go.RowKit bg aG oq
theorem qT (n:Int) (w:World):Calls prog 105 #[.int .i64 n] w fun e w'=>e=.returned (.bool (dS n))∧w=w':=by
 by_cases td:n=1000
 ·subst td
  rw [show dS 1000=true from by decide];go_enter func105,ntmps105;go_wp2;go_ret;exact ⟨rfl,rfl⟩
 by_cases te:n=1001
 ·subst te
  rw [show dS 1001=true from by decide];go_enter func105,ntmps105;go_wp2;go_ret;exact ⟨rfl,rfl⟩
 by_cases tf:n=1002
 ·subst tf
  rw [show dS 1002=true from by decide];go_enter func105,ntmps105;go_wp2;go_ret;exact ⟨rfl,rfl⟩
 by_cases tg:n=1003
 ·subst tg
  rw [show dS 1003=true from by decide];go_enter func105,ntmps105;go_wp2;go_ret;exact ⟨rfl,rfl⟩
 by_cases th:n=1007
 ·subst th
  rw [show dS 1007=true from by decide];go_enter func105,ntmps105;go_wp2;go_ret;exact ⟨rfl,rfl⟩
 by_cases tk:n=1008
 ·subst tk
  rw [show dS 1008=true from by decide];go_enter func105,ntmps105;go_wp2;go_ret;exact ⟨rfl,rfl⟩
 by_cases tm:n=1009
 ·subst tm
  rw [show dS 1009=true from by decide];go_enter func105,ntmps105;go_wp2;go_ret;exact ⟨rfl,rfl⟩
 by_cases tp:n=1010
 ·subst tp
  rw [show dS 1010=true from by decide];go_enter func105,ntmps105;go_wp2;go_ret;exact ⟨rfl,rfl⟩
 by_cases tr:n=1011
 ·subst tr
  rw [show dS 1011=true from by decide];go_enter func105,ntmps105;go_wp2;go_ret;exact ⟨rfl,rfl⟩
 have aip:(n==1000)=false:=mJ.2 td;have aiq:(n==1001)=false:=mJ.2 te;have air:(n==1002)=false:=mJ.2 tf;have ais:(n==1003)=false:=mJ.2 tg;have ait:(n==1007)=false:=mJ.2 th;have aiu:(n==1008)=false:=mJ.2 tk;have aiv:(n==1009)=false:=mJ.2 tm;have aiw:(n==1010)=false:=mJ.2 tp;have aix:(n==1011)=false:=mJ.2 tr;by_cases h3:3000≤n
 ·have e3:(n≥3000)=True:=eq_true h3
  by_cases h5:n<5000
  ·have e5:(n<5000)=True:=eq_true h5
   rw [(yG n).2 (by omega)];clear td te tf tg th tk tm tp tr h3 h5;go_enter func105,ntmps105;go_wp2;go_ret;exact ⟨rfl,rfl⟩
  ·have e5:(n<5000)=False:=dR h5
   rw [(Hy n).2 (by omega)];clear td te tf tg th tk tm tp tr h3 h5;go_enter func105,ntmps105;go_wp2;go_ret;exact ⟨rfl,rfl⟩
 ·have e3:(n≥3000)=False:=dR h3
  rw [(Hy n).2 (by omega)];clear td te tf tg th tk tm tp tr h3;go_enter func105,ntmps105;go_wp2;go_ret;exact ⟨rfl,rfl⟩
theorem zQ (s:ByteArray) (w:World) (hL:s.size≤100000):Calls prog 107 #[.string s] w fun e w'=>e=.returned (.bool (aG.jc (bytes s)))∧Sl (Below w.heap.size w w'):=by
 have R:=XN w w s _ _ _ rfl rfl rfl hL (dW _ _);rw [MM];obtain ⟨a,ha⟩:=zX (rt (some s0) (bytes s));obtain ⟨b,hb⟩:=zX (dH s0 (bytes s));obtain ⟨c,hc⟩:=zX (vb (bytes s));rw [ha,hb,hc] at R;rw [hc];clear ha hb hc hL;go_enter func107,ntmps107;go_wp2_with fail
 refine R.mono ?_;rintro e w1 ⟨rfl,_,HB⟩;clear R;go_wp2;go_ret;exact ⟨rfl,HB⟩
theorem Lt (n:Int) (s:ByteArray) (w:World) (hL:s.size≤100000):Calls prog 81 #[.int .i64 n,.string s] w fun e w'=>e=.returned (.tuple #[.string (aF (eY n (bytes s)).1),.int .i64 ((eY n (bytes s)).2:Nat)])∧Sl (Below w.heap.size w w'):=by
 by_cases h0:n=0∧s.size=0
 ·obtain ⟨rfl,h0⟩:=h0
  obtain rfl:=pY h0;clear h0 hL;go_enter func81,ntmps81;go_wp2;go_ret2;exact ⟨rfl,⟨dW _ _⟩⟩
 have Lz:((n==0)=false)∨((n==0)=true∧(s.toList==[])=false):=by
  by_cases hn:n=0
  ·exact .inr ⟨by rw [hn];rfl,wV (fun h=>h0 ⟨hn,h⟩)⟩
  ·exact .inl (mJ.2 hn)
 have V:=qT n w;unfold eY;rw [if_neg (fun h=>h0 ⟨h.1,Ir h.2⟩),au];clear h0;by_cases hv:dS n=false
 ·rw [hv] at V
  rw [if_pos (.inl hv),show aF []={data:=#[]} from rfl];clear hv hL;rcases Lz with hq | ⟨hq,mw⟩
  ·go_enter func81,ntmps81
   go_wp2_with fail
   refine V.mono ?_;rintro e w1 ⟨rfl,rfl⟩;clear V;go_wp2;go_ret2;exact ⟨rfl,⟨dW _ _⟩⟩
  ·go_enter func81,ntmps81
   go_wp2_with fail
   refine V.mono ?_;rintro e w1 ⟨rfl,rfl⟩;clear V;go_wp2;go_ret2;exact ⟨rfl,⟨dW _ _⟩⟩
 have NN:dS n=true:=by simpa using hv
 have hp:=sV NN;have hq:(n==0)=false:=mJ.2 (by omega);clear Lz;rw [NN] at V;by_cases hs:123<s.size
 ·rw [if_pos (.inr hs),show aF []={data:=#[]} from rfl]
  have hg:((s.size:Int)>123)=True:=eq_true (by omega);clear hv NN hp hs hL;go_enter func81,ntmps81;go_wp2_with fail
  refine V.mono ?_;rintro e w1 ⟨rfl,rfl⟩;clear V;go_wp2;go_ret2;exact ⟨rfl,⟨dW _ _⟩⟩
 rw [if_neg (by rintro (h | h);exact hv h;exact hs h)];have hg:((s.size:Int)>123)=False:=dR (by omega);have LE:=zQ s w hL;obtain ⟨d,hd⟩:=zX (aG.jc (bytes s));rw [hd] at LE ⊢;clear hd;cases d with
 | false =>
   rw [if_pos rfl,show aF []={data:=#[]} from rfl];clear hv NN hp hs hL;go_enter func81,ntmps81;go_wp2_with fail
   refine V.mono ?_;rintro e w1 ⟨rfl,rfl⟩;clear V;go_wp2_with fail
   refine LE.mono ?_;rintro e w1 ⟨rfl,HB⟩;clear LE;go_wp2;go_ret2;exact ⟨rfl,HB⟩
 | true =>
   rw [if_neg (by decide)];obtain ⟨N,rfl⟩:=JH (show 0≤n by omega);obtain ⟨hi,zz⟩:=zX (N / 256);obtain ⟨lo,Ax⟩:=zX (N % 256);have e1:(N:Int) / 256=(hi:Int):=by omega
   have e2:IntKind.u8.wrap (hi:Int)=(hi:Int):=by rw [IntKind.wrap_u8'];omega
   have e3:(N:Int) % 256=(lo:Int):=by omega
   have e4:IntKind.u8.wrap (lo:Int)=(lo:Int):=by rw [IntKind.wrap_u8'];omega
   have e8:wrap64 (hi:Int)=(hi:Int):=by unfold wrap64;omega
   have e5:(N:Int).tdiv 256=(hi:Int):=by rw [Int.tdiv_eq_ediv_of_nonneg (by omega)];exact e1
   have e6:(N:Int).tmod 256=(lo:Int):=by rw [Fq (by omega)];exact e3
   have HK:Sl (Hz ((N:Int)).toNat++bytes s=bytes (aF [hi,lo]++s)):=⟨by
    rw [iK,dm _ (fun x hx=>by simp at hx;omega),show ((N:Int)).toNat=N from rfl,Hz,zz,Ax]⟩
   rw [HK.ah,bT];have HZ:Sl ((aF [hi,lo]).size+s.size≤1000):=⟨by rw [cZ];simp;omega⟩;clear hv NN hp hs hL zz Ax;go_enter func81,ntmps81;go_wp2_with fail
   refine V.mono ?_;rintro e w1 ⟨rfl,rfl⟩;clear V;go_wp2_with fail
   refine LE.mono ?_;rintro e w1 ⟨rfl,HB⟩;clear LE;have eQ:=fA.strs (bs:=[hi,lo]) (k:=2) rfl (w1.alloc (.cells #[.int .u8 hi,.int .u8 lo] 5)) (g:=w1.heap.size) (aI _ _ _ rfl);have bk:Sl (Below w.heap.size w (w1.alloc (.cells #[.int .u8 hi,.int .u8 lo] 5))):=⟨HB.ah.alloc HB.ah.size _⟩;go_wp2
   ·exfalso
    have:=HZ.ah;omega
   go_ret2;exact ⟨rfl,bk⟩
theorem Jt (e:Int) (w:World):Calls prog 104 #[.int .i64 e] w fun en w'=>en=.returned (.int .i64 (dI e))∧w=w':=by
 by_cases h0:e=0
 ·subst h0
  rw [show dI 0=1000 from by decide];go_enter func104,ntmps104;go_wp2;go_ret;exact ⟨rfl,rfl⟩
 by_cases h91:e=91
 ·subst h91
  rw [show dI 91=1002 from by decide];go_enter func104,ntmps104;go_wp2;go_ret;exact ⟨rfl,rfl⟩
 by_cases SD:e=100
 ·subst SD
  rw [show dI 100=1002 from by decide];go_enter func104,ntmps104;go_wp2;go_ret;exact ⟨rfl,rfl⟩
 by_cases SF:e=110
 ·subst SF
  rw [show dI 110=1002 from by decide];go_enter func104,ntmps104;go_wp2;go_ret;exact ⟨rfl,rfl⟩
 by_cases SJ:e=120
 ·subst SJ
  rw [show dI 120=1002 from by decide];go_enter func104,ntmps104;go_wp2;go_ret;exact ⟨rfl,rfl⟩
 by_cases SR:e=111
 ·subst SR
  rw [show dI 111=1007 from by decide];go_enter func104,ntmps104;go_wp2;go_ret;exact ⟨rfl,rfl⟩
 by_cases h122:e=122
 ·subst h122
  rw [show dI 122=1007 from by decide];go_enter func104,ntmps104;go_wp2;go_ret;exact ⟨rfl,rfl⟩
 by_cases h92:e=92
 ·subst h92
  rw [show dI 92=1009 from by decide];go_enter func104,ntmps104;go_wp2;go_ret;exact ⟨rfl,rfl⟩
 by_cases SU:e=121
 ·subst SU
  rw [show dI 121=1009 from by decide];go_enter func104,ntmps104;go_wp2;go_ret;exact ⟨rfl,rfl⟩
 have e0:(e==0)=false:=mJ.2 h0;have e91:(e==91)=false:=mJ.2 h91;have akQ:(e==100)=false:=mJ.2 SD;have akR:(e==110)=false:=mJ.2 SF;have akS:(e==120)=false:=mJ.2 SJ;have akT:(e==111)=false:=mJ.2 SR;have akU:(e==122)=false:=mJ.2 h122;have e92:(e==92)=false:=mJ.2 h92;have akV:(e==121)=false:=mJ.2 SU;have hc:dI e=1011:=by
  unfold dI;rw [if_neg h0,if_neg (by omega),if_neg (by omega),if_neg (by omega)]
 rw [hc];clear hc h0 h91 SD SF SJ SR h122 h92 SU;go_enter func104,ntmps104;go_wp2;go_ret;exact ⟨rfl,rfl⟩
theorem D9 (n:Int) (w:World):Calls prog 77 #[.int .i64 n] w fun e w'=>e=.returned (.int .i64 (bI n))∧w=w':=by
 by_cases h0:n=1005
 ·subst h0
  go_enter func77,ntmps77;go_wp2;go_ret;exact ⟨rfl,rfl⟩
 ·have e0:(n==1005)=false:=mJ.2 h0
  have V:=qT n w;unfold bI;rw [if_neg h0];obtain ⟨r,hr⟩:=zX (dS n);rw [hr] at V ⊢;clear hr h0;cases r with
  | true =>
    go_enter func77,ntmps77;go_wp2_with fail
    refine V.mono ?_;rintro e w1 ⟨rfl,rfl⟩;clear V;go_wp2;go_ret;exact ⟨rfl,rfl⟩
  | false =>
    go_enter func77,ntmps77;go_wp2_with fail
    refine V.mono ?_;rintro e w1 ⟨rfl,rfl⟩;clear V;go_wp2;go_ret;exact ⟨rfl,rfl⟩
theorem l9 (s:ByteArray) (w:World) (hm:s.size≤100000):Calls prog 102 #[.string s] w fun e w'=>e=.returned (DX (iy (bytes s)))∧Sl (Below w.heap.size w w'):=by
 by_cases h0:s.size=0
 ·obtain rfl:=pY h0
  clear h0 hm;go_enter func102,ntmps102;go_wp2;go_ret3
  exact ⟨rfl,⟨dW _ _⟩⟩
 have ve:=wV h0;by_cases h1:s.size=1
 ·have hq:((s.size:Int)==1)=true:=by rw [h1];rfl
  have HR:Sl (iy (bytes s)=(0,[],110)):=⟨by
   have:=au s
   match hb:bytes s with
   | []=>rw [hb] at this;simp at this;omega
   | [_]=>rfl
   | _ :: _ :: _=>rw [hb] at this;simp at this;omega⟩
  clear h0 h1 hm;go_enter func102,ntmps102;go_wp2;go_ret3
  exact ⟨by rw [HR.ah];rfl,⟨dW _ _⟩⟩
 have hq:((s.size:Int)==1)=false:=mJ.2 (by omega);obtain ⟨x,y,hb,hx,hy,mU,Hj⟩:=ED (s:=s) (by omega);have Ww:0<s.size:=by omega
 have tS:1<s.size:=by omega
 have kn:(s[0]'Ww).toNat=x:=mU;have hi1:(s[1]'tS).toNat=y:=Hj;clear mU Hj;obtain ⟨t,ht⟩:=zX (s.extract 2 s.size);have R5:t.size=s.size-2:=by rw [← ht,DJ];omega
 have LI:t.size≤100000:=by omega
 rw [ht] at hb;rw [hb,vZ,au];by_cases mK:s.size>125
 ·have mw:((s.size:Int)>125)=True:=eq_true (by omega)
  rw [if_pos (.inl (by omega)),DX,show aF []={data:=#[]} from rfl];clear hb hx hy LI R5 h0 h1 hm mK;go_enter func102,ntmps102;go_wp2;go_ret3
  exact ⟨rfl,⟨dW _ _⟩⟩
 have mw:((s.size:Int)>125)=False:=dR (by omega);obtain ⟨X,hX⟩:=zX (256*x);have e1:256*(x:Int)=(X:Int):=by omega
 obtain ⟨K,hK⟩:=zX (256*x+y);have e2:(X:Int)+(y:Int)=(K:Int):=by omega
 have hKs:K<65536:=by omega
 have z1:IntKind.i64.wrap (x:Int)=(x:Int):=by rw [lZ];omega
 have z2:IntKind.i64.wrap (y:Int)=(y:Int):=by rw [lZ];omega
 have z3:IntKind.i64.wrap (X:Int)=(X:Int):=by rw [lZ];omega
 have z4:IntKind.i64.wrap (K:Int)=(K:Int):=by rw [lZ];omega
 have k1:((1:Int)<(s.size:Int))=True:=eq_true (by omega);have k2:((2:Int)≤(s.size:Int))=True:=eq_true (by omega);have V:=qT (K:Int) w.drew;rw [hK];have hn:¬ 123<t.size:=by omega
 have HD:Sl (Below w.heap.size w w.drew):=⟨(dW _ _).drew⟩;clear hb hX hK hx hy R5 h0 h1 hm mK;obtain ⟨r,hr⟩:=zX (dS (K:Int));rw [hr] at V ⊢;clear hr;cases r with
 | false =>
   rw [if_pos (.inr rfl),DX,show aF []={data:=#[]} from rfl];clear hn LI;go_enter func102,ntmps102;go_upto_region 5 with fail
   go_still (by kernel_rfl)
   go_wp2_with fail
   refine V.mono ?_;rintro e w1 ⟨rfl,rfl⟩;clear V;go_wp2;go_ret3
   exact ⟨rfl,HD⟩
 | true =>
   rw [if_neg (by rintro (h | h);exact hn h;cases h)];have LE:=zQ t w.drew LI;obtain ⟨d,hd⟩:=zX (aG.jc (bytes t));rw [hd] at LE ⊢;clear hd hn LI;cases d with
   | false =>
     rw [if_pos rfl,DX,show aF []={data:=#[]} from rfl];go_enter func102,ntmps102;go_upto_region 5 with fail
     go_still (by kernel_rfl)
     go_wp2_with fail
     refine V.mono ?_;rintro e w1 ⟨rfl,rfl⟩;clear V;go_wp2_with fail
     refine LE.mono ?_;rintro e w1 ⟨rfl,HB⟩;clear LE;go_wp2;go_ret3
     exact ⟨rfl,⟨HD.ah.trans HB.ah⟩⟩
   | true =>
     rw [if_neg (by decide),DX,bT];go_enter func102,ntmps102;go_upto_region 5 with fail
     go_still (by kernel_rfl)
     go_wp2_with fail
     refine V.mono ?_;rintro e w1 ⟨rfl,rfl⟩;clear V;go_wp2_with fail
     refine LE.mono ?_;rintro e w1 ⟨rfl,HB⟩;clear LE;have HF:Sl (Below w.heap.size w w1.drew):=⟨(HD.ah.trans HB.ah).drew⟩;go_upto_region 10 with fail
     go_still (by kernel_rfl)
     go_wp2;go_ret3
     exact ⟨rfl,HF⟩
theorem Qi (w0 W:World) (s t:ByteArray) (n:Int) (k:Nat) (h:iy (bytes s)=(n,bytes t,k)) (hm:s.size≤100000) (hB:Below w0.heap.size w0 W) :
 Calls prog 102 #[.string s] W fun en w'=>en=.returned (.tuple #[.int .i64 n,.string t,.int .i64 (k:Int)])∧Sl (Below w0.heap.size w0 w') :=
 (l9 s W hm).mono fun _ _ ⟨he,h1⟩=>⟨by rw [he,h,DX,bT],⟨hB.trans (h1.ah.mono hB.size)⟩⟩
end Go.Proofs.YtlahonjmfecikaaGreatDoor.Gh
