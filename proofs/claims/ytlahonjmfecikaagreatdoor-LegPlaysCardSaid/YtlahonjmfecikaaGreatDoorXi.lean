/- Texts, joined. -/
import Derived.Test.YtlahonjmfecikaaGreatDoorXh
set_option maxRecDepth 100000
set_option maxHeartbeats 64000000
set_option linter.unusedVariables false
set_option linter.unusedSimpArgs false
open Go.Proofs.Tryz
namespace Go.Proofs.YtlahonjmfecikaaGreatDoor.oq
open Go.RowKit bg
theorem Qh (s:ByteArray) (w:World) (hs:0<s.size) (_hL:s.size≤100000) (h:fZ ((bytes s).headD 0)≤s.size) :
 Calls prog 133 #[.string s] w fun e w'=>e=.returned (.bool false)∧Below w.heap.size w w':=by
 obtain ⟨b,hb⟩:=zX ((s[0]'hs).toNat);have hh:=iU s hs;rw [hb] at hh;rw [hh] at h;obtain ⟨n,hn⟩:=zX (fZ b);rw [hn] at h;have gc:Sl (∀ W,Calls prog 155 #[.int .u8 b] W fun e w'=>e=.returned (.int .i64 n)∧W=w'):=⟨fun W=>by rw [← hn];exact lX b W⟩;have cV:(n:Int)≤(s.size:Int):=by omega
 clear hn hh;go_enter func133,ntmps133;go_wp2_with fail
 refine (gc.ah _).mono ?_;rintro e w' ⟨rfl,rfl⟩;go_wp2;go_ret;exact ⟨rfl,dW _ _⟩
theorem G7 (v:Nat) (s:List Nat) (k:Nat) (h:1≤k):lm v s (k+1)=(64*(lm v s k).1+(if k<s.length then s.getD k 0-128 else 0),64*(lm v s k).2+(if k<s.length then s.getD k 0-128 else 63)):=by
 obtain ⟨j,rfl⟩:∃ j,k=j+1:=⟨k-1,by omega⟩;rfl
theorem Dk (l:List Nat) (h:∀ j,1≤j→j<l.length→128≤l.getD j 0∧l.getD j 0≤191):l.tail.all (fun c=>decide (128≤c∧c≤191))=true:=by
 rw [NR];intro x hx;obtain ⟨i,hi,rfl⟩:=QK hx;have lB:i+1<l.length:=by simp at hi;omega
 have:=h (i+1) (by omega) lB;simp only [List.getElem_tail,Ap];simpa [List.getD,lD lB] using this
theorem xY (l:List Nat) (j:Nat) (h1:1≤j) (h2:j<l.length) (h:¬ (128≤l.getD j 0∧l.getD j 0≤191)):l.tail.all (fun c=>decide (128≤c∧c≤191))=false:=by
 rw [List.all_eq_false];refine ⟨l.getD j 0,?_,by simpa using h⟩;rw [List.getD,lD h2];have:l[j]=l.tail[j-1]'(by simp;omega):=by
  rw [List.getElem_tail];congr 1;omega
 simp only [Option.getD_some];rw [this];exact Hg _
theorem Dl {w W:World} (h:Below w.heap.size w W) (A B:Obj):Below w.heap.size w ((W.alloc A).alloc B).drew :=
 ((h.alloc h.size A).alloc (by have:=h.size;rw [aP];omega) B).drew
def BG (w:World) (r n:Nat) (l:List Nat) (x y i:Value) (wr:World):Prop :=
 ∃ k p q:Nat,1≤k∧k≤n∧i=.int .i64 k∧x=.int .i64 p∧y=.int .i64 q∧Sl ((p,q)=lm r l k)∧Sl (p<256*64 ^ (k-1))∧Sl (q<256*64 ^ (k-1))∧Sl (∀ j,1≤j→j<k→j<l.length→128≤l.getD j 0∧l.getD j 0≤191)∧Below w.heap.size w wr
set_option maxRecDepth 100000 in
theorem Us (s:ByteArray) (w:World) (hs:0<s.size) (mn:fZ ((bytes s).headD 0)=2) (h:s.size<2) :
 Calls prog 133 #[.string s] w fun e w'=>e=.returned (.bool (qy (bytes s)))∧Below w.heap.size w w':=by
 obtain ⟨b,hb⟩:=zX ((s[0]'hs).toNat);have hh:=iU s hs;rw [hb] at hh;have gc:Sl (∀ W,Calls prog 155 #[.int .u8 b] W fun e w'=>e=.returned (.int .i64 2)∧W=w'):=⟨fun W=>by
  have e:=mn;rw [hh] at e;have:=lX b W;rw [e] at this;exact this⟩
 have LB:Sl ((bytes s).length=s.size):=⟨au s⟩;obtain ⟨r,hr⟩:=zX (b % 32);have sY:Sl (qy (bytes s)=if (bytes s).tail.all (fun c=>decide (128≤c∧c≤191)) then uG 2 (lm r (bytes s) 2) else false):=⟨by
  unfold qy;simp only [mn,au];rw [if_neg (by omega),hh,show LY 2=32 from rfl,hr]⟩
 have pQ:b<256:=by rw [← hb];exact NS _
 have eA:r<256:=by omega
 have vl:(b:Int) % 32=(r:Int):=by omega
 have ui:Int.tmod (b:Int) 32=(r:Int):=by rw [← vl,Fq (by omega)]
 have Yk:(s.size:Int)<2:=by omega
 clear hh mn hr;go_enter func133,ntmps133;go_wp2_with fail
 refine (gc.ah _).mono ?_;rintro e w' ⟨rfl,rfl⟩;go_upto_region 4 with fail
 go_cut [4,5] (fun s4 s5 wx=>s4=.int .i64 r∧s5=.int .i64 r∧Below w.heap.size w wx)
 case first =>
  have gT:Below w.heap.size w w.drew:=(dW _ _).drew;have z1:IntKind.i64.wrap (b:Int)=(b:Int):=Ag _ (by omega);have z2:IntKind.i64.wrap (r:Int)=(r:Int):=Ag _ (by omega);have z3:IntKind.i64.wrap 32=32:=Ag _ (by omega);have z4:Int.tdiv 256 8=32:=rfl;go_region_held3 (fun W=>Below w.heap.size w W) (first | exact gT | assumption) (first | (go_at_call 156;refine (vN w _ 2 8 rfl (by decide) (by assumption)).mono ?_;rintro e w4 ⟨rfl,br⟩;have zg:=br.ah))
  all_goals (clear z1 z2 z3 z4;go_wp2_with fail;go_meet;exact ⟨rfl,rfl,by assumption⟩)
 case rest =>
 obtain ⟨rfl,rfl,cM⟩:=hcut;have bi:=Sl.mk cM;clear cM ui;go_wp2;go_loopw [4,5,6] (fun x y i wr=>BG w r 2 (bytes s) x y i wr) (fun _ _ i _=>2-(intOf i).toNat)
 case atStart=>exact ⟨1,r,r,aY _,by omega,rfl,rfl,rfl,⟨rfl⟩,⟨by simpa using eA⟩,⟨by simpa using eA⟩,⟨fun j h1 h2=>by omega⟩,bi.ah⟩
 case round =>
  obtain ⟨k,p,q,dC,hk,rfl,rfl,rfl,zj,ol,si,ri,hrel⟩:=hrel;have HR:=Sl.mk hrel;clear hrel;by_cases bz:k<2
  ·have Yl:=qQ dC (by omega) ol.ah
   have Mw:=qQ dC (by omega) si.ah;have Sq:=Sl.mk (G7 r (bytes s) k dC);by_cases ez:k<s.size
   ·exfalso;omega
   ·have J0:¬ (k:Int)<(s.size:Int):=by omega
    have lw:Sl ((64*p,64*q+63)=lm r (bytes s) (k+1)):=⟨by
     rw [Sq.ah,if_neg (by rw [LB.ah];exact ez),if_neg (by rw [LB.ah];exact ez),← zj.ah];rfl⟩
    go_wp2;go_roundw
    case rel=>exact ⟨k+1,64*p,64*q+63,by omega,by omega,by go_num,by go_num,by go_num,lw,⟨by have:=gW (d:=0) dC (by decide) ol.ah;simpa using this⟩,⟨gW dC (by decide) si.ah⟩,⟨fun j h1 h2 h3=>ri.ah j h1 (by rw [LB.ah] at h3;omega) h3⟩,HR.ah⟩
    case measure=>simp [intOf];omega
  ·have eg:¬ (k:Int)<2:=by omega
   have gf:k=2:=by omega
   subst gf;have Fd:=pq dC (by decide) ol.ah;have Ff:=pq dC (by decide) si.ah;have HF:Sl (qy (bytes s)=uG 2 (p,q)):=⟨by rw [sY.ah,Dk (bytes s) (fun j h1 h2=>ri.ah j h1 (by rw [LB.ah] at h2;omega) h2),if_pos rfl,← zj.ah]⟩;go_upto_region 14 with fail
   go_cut [9,10] (fun s9 Rp wx=>s9=.int .i64 128∧Rp=.int .i64 2047∧Below w.heap.size w wx)
   case first =>
    go_region
    all_goals (go_wp2_with fail;go_meet;exact ⟨rfl,rfl,by first | exact Dl HR.ah _ _ | exact s8 HR.ah _ _⟩)
   case rest =>
   obtain ⟨rfl,rfl,Cz⟩:=hcut;have ch:=Sl.mk Cz;clear Cz;clear zj ol si ri sY;go_wp2;all_goals
    go_ret;refine ⟨?_,ch.ah⟩;rw [HF.ah];refine bF ?_
    symm
    rw [QL,lI];simp only [lH,vV];first
     | (simp;omega)
     | (simp only [Bool.true_eq,Bool.false_eq,iff_true,iff_false,UM,Ap];omega)
     | (simp)
set_option maxRecDepth 100000 in
theorem Ut (s:ByteArray) (w:World) (hs:0<s.size) (mn:fZ ((bytes s).headD 0)=3) (h:s.size<3) :
 Calls prog 133 #[.string s] w fun e w'=>e=.returned (.bool (qy (bytes s)))∧Below w.heap.size w w':=by
 obtain ⟨b,hb⟩:=zX ((s[0]'hs).toNat);have hh:=iU s hs;rw [hb] at hh;have gc:Sl (∀ W,Calls prog 155 #[.int .u8 b] W fun e w'=>e=.returned (.int .i64 3)∧W=w'):=⟨fun W=>by
  have e:=mn;rw [hh] at e;have:=lX b W;rw [e] at this;exact this⟩
 have LB:Sl ((bytes s).length=s.size):=⟨au s⟩;obtain ⟨r,hr⟩:=zX (b % 16);have sY:Sl (qy (bytes s)=if (bytes s).tail.all (fun c=>decide (128≤c∧c≤191)) then uG 3 (lm r (bytes s) 3) else false):=⟨by
  unfold qy;simp only [mn,au];rw [if_neg (by omega),hh,show LY 3=16 from rfl,hr]⟩
 have pQ:b<256:=by rw [← hb];exact NS _
 have eA:r<256:=by omega
 have vl:(b:Int) % 16=(r:Int):=by omega
 have ui:Int.tmod (b:Int) 16=(r:Int):=by rw [← vl,Fq (by omega)]
 have Yk:(s.size:Int)<3:=by omega
 clear hh mn hr;go_enter func133,ntmps133;go_wp2_with fail
 refine (gc.ah _).mono ?_;rintro e w' ⟨rfl,rfl⟩;go_upto_region 4 with fail
 go_cut [4,5] (fun s4 s5 wx=>s4=.int .i64 r∧s5=.int .i64 r∧Below w.heap.size w wx)
 case first =>
  have gT:Below w.heap.size w w.drew:=(dW _ _).drew;have z1:IntKind.i64.wrap (b:Int)=(b:Int):=Ag _ (by omega);have z2:IntKind.i64.wrap (r:Int)=(r:Int):=Ag _ (by omega);have z3:IntKind.i64.wrap 16=16:=Ag _ (by omega);have z4:Int.tdiv 256 16=16:=rfl;go_region_held3 (fun W=>Below w.heap.size w W) (first | exact gT | assumption) (first | (go_at_call 156;refine (vN w _ 3 16 rfl (by decide) (by assumption)).mono ?_;rintro e w4 ⟨rfl,br⟩;have zg:=br.ah))
  all_goals (clear z1 z2 z3 z4;go_wp2_with fail;go_meet;exact ⟨rfl,rfl,by assumption⟩)
 case rest =>
 obtain ⟨rfl,rfl,cM⟩:=hcut;have bi:=Sl.mk cM;clear cM ui;go_wp2;go_loopw [4,5,6] (fun x y i wr=>BG w r 3 (bytes s) x y i wr) (fun _ _ i _=>3-(intOf i).toNat)
 case atStart=>exact ⟨1,r,r,aY _,by omega,rfl,rfl,rfl,⟨rfl⟩,⟨by simpa using eA⟩,⟨by simpa using eA⟩,⟨fun j h1 h2=>by omega⟩,bi.ah⟩
 case round =>
  obtain ⟨k,p,q,dC,hk,rfl,rfl,rfl,zj,ol,si,ri,hrel⟩:=hrel;have HR:=Sl.mk hrel;clear hrel;by_cases bz:k<3
  ·have Yl:=qQ dC (by omega) ol.ah
   have Mw:=qQ dC (by omega) si.ah;have Sq:=Sl.mk (G7 r (bytes s) k dC);by_cases ez:k<s.size
   ·obtain ⟨c,hc⟩:=zX ((s[k]'ez).toNat)
    have ie:c<256:=by rw [← hc];exact NS _
    have i8:Sl ((bytes s).getD k 0=c):=⟨by rw [dL s k ez,← hc];rfl⟩;have J0:(k:Int)<(s.size:Int):=by omega
    by_cases Ax:c<128
    ·have HF:Sl (qy (bytes s)=false):=⟨by rw [sY.ah,xY (bytes s) k dC (by rw [LB.ah];exact ez) (by rw [i8.ah];omega)];rfl⟩
     have Sw:(c:Int)<128:=by omega
     go_wp2;go_ret;exact ⟨by rw [HF.ah];rfl,HR.ah⟩
    ·by_cases zz:191<c
     ·have HF:Sl (qy (bytes s)=false):=⟨by rw [sY.ah,xY (bytes s) k dC (by rw [LB.ah];exact ez) (by rw [i8.ah];omega)];rfl⟩
      have Sx:(191:Int)<(c:Int):=by omega
      go_wp2;go_ret;exact ⟨by rw [HF.ah];rfl,HR.ah⟩
     ·have Sw:¬ (c:Int)<128:=by omega
      have Sx:¬ (191:Int)<(c:Int):=by omega
      obtain ⟨d,hd⟩:=zX (c-128);have Dg:(c:Int)-128=(d:Int):=by omega
      have ow:d<64:=by omega
      have lw:Sl ((64*p+d,64*q+d)=lm r (bytes s) (k+1)):=⟨by
       rw [Sq.ah,if_pos (by rw [LB.ah];exact ez),if_pos (by rw [LB.ah];exact ez),← zj.ah,i8.ah,hd]⟩
      have bk:Sl (64*p+d<256*64 ^ (k+1-1)):=⟨gW dC ow ol.ah⟩;have bv:Sl (64*q+d<256*64 ^ (k+1-1)):=⟨gW dC ow si.ah⟩;have ua:Sl (∀ j,1≤j→j<k+1→j<(bytes s).length→128≤(bytes s).getD j 0∧(bytes s).getD j 0≤191):=⟨fun j h1 h2 h3=>by
       by_cases e:j=k
       ·subst e;rw [i8.ah];omega
       ·exact ri.ah j h1 (by omega) h3⟩
      clear hd;go_wp2;have y1:IntKind.i64.wrap (c:Int)=(c:Int):=Ag _ (by omega);have y2:IntKind.i64.wrap (d:Int)=(d:Int):=Ag _ (by omega);go_region
      all_goals
       clear y1 y2;go_wp2;go_roundw
       case rel=>exact ⟨k+1,64*p+d,64*q+d,by omega,by omega,by go_num,by go_num,by go_num,lw,bk,bv,ua,HR.ah.drew⟩
       case measure=>simp [intOf];omega
   ·have J0:¬ (k:Int)<(s.size:Int):=by omega
    have lw:Sl ((64*p,64*q+63)=lm r (bytes s) (k+1)):=⟨by
     rw [Sq.ah,if_neg (by rw [LB.ah];exact ez),if_neg (by rw [LB.ah];exact ez),← zj.ah];rfl⟩
    go_wp2;go_roundw
    case rel=>exact ⟨k+1,64*p,64*q+63,by omega,by omega,by go_num,by go_num,by go_num,lw,⟨by have:=gW (d:=0) dC (by decide) ol.ah;simpa using this⟩,⟨gW dC (by decide) si.ah⟩,⟨fun j h1 h2 h3=>ri.ah j h1 (by rw [LB.ah] at h3;omega) h3⟩,HR.ah⟩
    case measure=>simp [intOf];omega
  ·have eg:¬ (k:Int)<3:=by omega
   have gf:k=3:=by omega
   subst gf;have Fd:=pq dC (by decide) ol.ah;have Ff:=pq dC (by decide) si.ah;have HF:Sl (qy (bytes s)=uG 3 (p,q)):=⟨by rw [sY.ah,Dk (bytes s) (fun j h1 h2=>ri.ah j h1 (by rw [LB.ah] at h2;omega) h2),if_pos rfl,← zj.ah]⟩;go_upto_region 14 with fail
   go_cut [9,10] (fun s9 Rp wx=>s9=.int .i64 2048∧Rp=.int .i64 65535∧Below w.heap.size w wx)
   case first =>
    go_region
    all_goals (go_wp2_with fail;go_meet;exact ⟨rfl,rfl,by first | exact Dl HR.ah _ _ | exact s8 HR.ah _ _⟩)
   case rest =>
   obtain ⟨rfl,rfl,Cz⟩:=hcut;have ch:=Sl.mk Cz;clear Cz;clear zj ol si ri sY;go_wp2;all_goals
    go_ret;refine ⟨?_,ch.ah⟩;rw [HF.ah];refine bF ?_
    symm
    rw [QL,lI];simp only [lH,vV];first
     | (simp;omega)
     | (simp only [Bool.true_eq,Bool.false_eq,iff_true,iff_false,UM,Ap];omega)
     | (simp)
set_option maxRecDepth 100000 in
theorem Uu (s:ByteArray) (w:World) (hs:0<s.size) (mn:fZ ((bytes s).headD 0)=4) (h:s.size<4) :
 Calls prog 133 #[.string s] w fun e w'=>e=.returned (.bool (qy (bytes s)))∧Below w.heap.size w w':=by
 obtain ⟨b,hb⟩:=zX ((s[0]'hs).toNat);have hh:=iU s hs;rw [hb] at hh;have gc:Sl (∀ W,Calls prog 155 #[.int .u8 b] W fun e w'=>e=.returned (.int .i64 4)∧W=w'):=⟨fun W=>by
  have e:=mn;rw [hh] at e;have:=lX b W;rw [e] at this;exact this⟩
 have LB:Sl ((bytes s).length=s.size):=⟨au s⟩;obtain ⟨r,hr⟩:=zX (b % 8);have sY:Sl (qy (bytes s)=if (bytes s).tail.all (fun c=>decide (128≤c∧c≤191)) then uG 4 (lm r (bytes s) 4) else false):=⟨by
  unfold qy;simp only [mn,au];rw [if_neg (by omega),hh,show LY 4=8 from rfl,hr]⟩
 have pQ:b<256:=by rw [← hb];exact NS _
 have eA:r<256:=by omega
 have vl:(b:Int) % 8=(r:Int):=by omega
 have ui:Int.tmod (b:Int) 8=(r:Int):=by rw [← vl,Fq (by omega)]
 have Yk:(s.size:Int)<4:=by omega
 clear hh mn hr;go_enter func133,ntmps133;go_wp2_with fail
 refine (gc.ah _).mono ?_;rintro e w' ⟨rfl,rfl⟩;go_upto_region 4 with fail
 go_cut [4,5] (fun s4 s5 wx=>s4=.int .i64 r∧s5=.int .i64 r∧Below w.heap.size w wx)
 case first =>
  have gT:Below w.heap.size w w.drew:=(dW _ _).drew;have z1:IntKind.i64.wrap (b:Int)=(b:Int):=Ag _ (by omega);have z2:IntKind.i64.wrap (r:Int)=(r:Int):=Ag _ (by omega);have z3:IntKind.i64.wrap 8=8:=Ag _ (by omega);have z4:Int.tdiv 256 32=8:=rfl;go_region_held3 (fun W=>Below w.heap.size w W) (first | exact gT | assumption) (first | (go_at_call 156;refine (vN w _ 4 32 rfl (by decide) (by assumption)).mono ?_;rintro e w4 ⟨rfl,br⟩;have zg:=br.ah))
  all_goals (clear z1 z2 z3 z4;go_wp2_with fail;go_meet;exact ⟨rfl,rfl,by assumption⟩)
 case rest =>
 obtain ⟨rfl,rfl,cM⟩:=hcut;have bi:=Sl.mk cM;clear cM ui;go_wp2;go_loopw [4,5,6] (fun x y i wr=>BG w r 4 (bytes s) x y i wr) (fun _ _ i _=>4-(intOf i).toNat)
 case atStart=>exact ⟨1,r,r,aY _,by omega,rfl,rfl,rfl,⟨rfl⟩,⟨by simpa using eA⟩,⟨by simpa using eA⟩,⟨fun j h1 h2=>by omega⟩,bi.ah⟩
 case round =>
  obtain ⟨k,p,q,dC,hk,rfl,rfl,rfl,zj,ol,si,ri,hrel⟩:=hrel;have HR:=Sl.mk hrel;clear hrel;by_cases bz:k<4
  ·have Yl:=qQ dC (by omega) ol.ah
   have Mw:=qQ dC (by omega) si.ah;have Sq:=Sl.mk (G7 r (bytes s) k dC);by_cases ez:k<s.size
   ·obtain ⟨c,hc⟩:=zX ((s[k]'ez).toNat)
    have ie:c<256:=by rw [← hc];exact NS _
    have i8:Sl ((bytes s).getD k 0=c):=⟨by rw [dL s k ez,← hc];rfl⟩;have J0:(k:Int)<(s.size:Int):=by omega
    by_cases Ax:c<128
    ·have HF:Sl (qy (bytes s)=false):=⟨by rw [sY.ah,xY (bytes s) k dC (by rw [LB.ah];exact ez) (by rw [i8.ah];omega)];rfl⟩
     have Sw:(c:Int)<128:=by omega
     go_wp2;go_ret;exact ⟨by rw [HF.ah];rfl,HR.ah⟩
    ·by_cases zz:191<c
     ·have HF:Sl (qy (bytes s)=false):=⟨by rw [sY.ah,xY (bytes s) k dC (by rw [LB.ah];exact ez) (by rw [i8.ah];omega)];rfl⟩
      have Sx:(191:Int)<(c:Int):=by omega
      go_wp2;go_ret;exact ⟨by rw [HF.ah];rfl,HR.ah⟩
     ·have Sw:¬ (c:Int)<128:=by omega
      have Sx:¬ (191:Int)<(c:Int):=by omega
      obtain ⟨d,hd⟩:=zX (c-128);have Dg:(c:Int)-128=(d:Int):=by omega
      have ow:d<64:=by omega
      have lw:Sl ((64*p+d,64*q+d)=lm r (bytes s) (k+1)):=⟨by
       rw [Sq.ah,if_pos (by rw [LB.ah];exact ez),if_pos (by rw [LB.ah];exact ez),← zj.ah,i8.ah,hd]⟩
      have bk:Sl (64*p+d<256*64 ^ (k+1-1)):=⟨gW dC ow ol.ah⟩;have bv:Sl (64*q+d<256*64 ^ (k+1-1)):=⟨gW dC ow si.ah⟩;have ua:Sl (∀ j,1≤j→j<k+1→j<(bytes s).length→128≤(bytes s).getD j 0∧(bytes s).getD j 0≤191):=⟨fun j h1 h2 h3=>by
       by_cases e:j=k
       ·subst e;rw [i8.ah];omega
       ·exact ri.ah j h1 (by omega) h3⟩
      clear hd;go_wp2;have y1:IntKind.i64.wrap (c:Int)=(c:Int):=Ag _ (by omega);have y2:IntKind.i64.wrap (d:Int)=(d:Int):=Ag _ (by omega);go_region
      all_goals
       clear y1 y2;go_wp2;go_roundw
       case rel=>exact ⟨k+1,64*p+d,64*q+d,by omega,by omega,by go_num,by go_num,by go_num,lw,bk,bv,ua,HR.ah.drew⟩
       case measure=>simp [intOf];omega
   ·have J0:¬ (k:Int)<(s.size:Int):=by omega
    have lw:Sl ((64*p,64*q+63)=lm r (bytes s) (k+1)):=⟨by
     rw [Sq.ah,if_neg (by rw [LB.ah];exact ez),if_neg (by rw [LB.ah];exact ez),← zj.ah];rfl⟩
    go_wp2;go_roundw
    case rel=>exact ⟨k+1,64*p,64*q+63,by omega,by omega,by go_num,by go_num,by go_num,lw,⟨by have:=gW (d:=0) dC (by decide) ol.ah;simpa using this⟩,⟨gW dC (by decide) si.ah⟩,⟨fun j h1 h2 h3=>ri.ah j h1 (by rw [LB.ah] at h3;omega) h3⟩,HR.ah⟩
    case measure=>simp [intOf];omega
  ·have eg:¬ (k:Int)<4:=by omega
   have gf:k=4:=by omega
   subst gf;have Fd:=pq dC (by decide) ol.ah;have Ff:=pq dC (by decide) si.ah;have HF:Sl (qy (bytes s)=uG 4 (p,q)):=⟨by rw [sY.ah,Dk (bytes s) (fun j h1 h2=>ri.ah j h1 (by rw [LB.ah] at h2;omega) h2),if_pos rfl,← zj.ah]⟩;go_upto_region 14 with fail
   go_cut [9,10] (fun s9 Rp wx=>∃ F T:Nat,s9=.int .i64 F∧Rp=.int .i64 T∧Sl (F=65536∧T=1114111)∧Below w.heap.size w wx)
   case first =>
    go_region
    all_goals (go_wp2_with fail;go_meet;exact ⟨65536,1114111,rfl,rfl,⟨rfl,rfl⟩,by first | exact Dl HR.ah _ _ | exact s8 HR.ah _ _⟩)
   case rest =>
   obtain ⟨F,T,rfl,rfl,HFT,Cz⟩:=hcut;have ch:=Sl.mk Cz;clear Cz;clear zj ol si ri sY;have hF7:F≤100000:=by have:=HFT.ah;omega
   have hT7:T≤2000000:=by have:=HFT.ah;omega
   go_wp2;all_goals
    go_ret;refine ⟨?_,ch.ah⟩;rw [HF.ah];refine bF ?_
    symm
    rw [QL,lI];simp only [lH,vV];obtain ⟨hF,hT⟩:=HFT.ah;first
     | (simp;omega)
     | (simp only [Bool.true_eq,Bool.false_eq,iff_true,iff_false,UM,Ap];omega)
     | (simp)
theorem D8 (s:ByteArray) (w:World) (hs:0<s.size) (hL:s.size≤100000) :
 Calls prog 133 #[.string s] w fun e w'=>e=.returned (.bool (qy (bytes s)))∧Below w.heap.size w w':=by
 by_cases h:fZ ((bytes s).headD 0)≤s.size
 ·have e:qy (bytes s)=false:=by
   unfold qy;simp only [au];rw [if_pos h]
  rw [e];exact Qh s w hs hL h
 ·have h5:=G5 ((bytes s).headD 0)
  obtain ⟨n,hn⟩:=zX (fZ ((bytes s).headD 0));rw [hn] at h h5
  match n,h5 with
  | 0,_=>omega
  | 1,_=>omega
  | 2,_=>exact Us s w hs hn (by omega)
  | 3,_=>exact Ut s w hs hn (by omega)
  | 4,_=>exact Uu s w hs hn (by omega)
theorem ND (w0 W:World) (s:ByteArray) (n:Nat) (hn:fD (bytes s)=n) (hs:0<s.size) (hL:s.size≤100000) (hB:Below w0.heap.size w0 W) :
 Calls prog 132 #[.string s] W fun e w'=>e=.returned (.int .i64 n)∧Sl (Below w0.heap.size w0 w') :=
 (G6 s W hs hL).mono fun _ _ ⟨he,hb⟩=>⟨by rw [he,hn],⟨hB.trans (hb.mono hB.size)⟩⟩
theorem Jr (w0 W:World) (s:ByteArray) (r:Bool) (hr:qy (bytes s)=r) (hs:0<s.size) (hL:s.size≤100000) (hB:Below w0.heap.size w0 W) :
 Calls prog 133 #[.string s] W fun e w'=>e=.returned (.bool r)∧Sl (Below w0.heap.size w0 w') :=
 (D8 s W hs hL).mono fun _ _ ⟨he,hb⟩=>⟨by rw [he,hr],⟨hB.trans (hb.mono hB.size)⟩⟩
def RD1 (w:World) (s:ByteArray) (fx le:Value) (wr:World):Prop :=
 ∃ k c:Nat,k≤s.size∧c≤k∧fx=.int .i64 k∧le=.int .i64 c∧Sl (dK s0 ((bytes s).take k)=some s0)∧Sl (dH s0 ((bytes s).take k)=c)∧Below w.heap.size w wr
def RD2 (w:World) (s:ByteArray) (k:Nat) (en':Value) (wr:World):Prop :=
 ∃ j:Nat,k+j≤s.size∧en'=.int .i64 ((k+j:Nat):Int)∧Sl (j≤dP s0 ((bytes s).drop k))∧Below w.heap.size w wr
theorem Wv (s:ByteArray) (k:Nat):bytes (s.extract k s.size)=(bytes s).drop k:=by
 rw [bC,nC (by rw [au];exact aY _)]
theorem Wx (s:ByteArray) (k j:Nat):bytes (s.extract k (k+j))=((bytes s).drop k).take j:=by
 rw [bC,List.drop_take,Nat.add_sub_cancel_left]
theorem Js (s:ByteArray) (k c n:Nat) (hk:k≤s.size) (h1:dK s0 ((bytes s).take k)=some s0) (h2:dH s0 ((bytes s).take k)=c) (hw:fD ((bytes s).drop k)=n) (hn:1≤n) :
 k+n≤s.size∧dK s0 ((bytes s).take (k+n))=some s0∧dH s0 ((bytes s).take (k+n))=c+1:=by
 obtain ⟨m,rfl⟩:∃ m,n=m+1:=⟨n-1,by omega⟩;obtain ⟨a,b,d⟩:=NV _ m hw;rw [iP,au] at a;refine ⟨by omega,?_,?_⟩
 ·rw [List.take_add,mX,h1];exact b
 ·rw [List.take_add,uN,h1,h2];simp only;rw [d]
theorem Dn (s:ByteArray) (k c j:Nat) (hk:k≤s.size) (h1:dK s0 ((bytes s).take k)=some s0) (h2:dH s0 ((bytes s).take k)=c) (hw:k<s.size→fD ((bytes s).drop k)=0) (hj:j=dP s0 ((bytes s).drop k)) :
 dP s0 (bytes s)=k+j∧dH s0 (bytes s)=c∧vb (bytes s)=decide (k=s.size):=by
 obtain ⟨a,b,d⟩:=NZ (bytes s) k (by rw [au];exact hk) h1 (by rw [au];exact hw);rw [au] at d;exact ⟨by rw [a,hj],by rw [b,h2],decide_eq_decide.2 d⟩
theorem XM {s:ByteArray} {k c j:Nat} (h:dP s0 (bytes s)=k+j∧dH s0 (bytes s)=c∧vb (bytes s)=decide (k=s.size)) :
 Ending.returned (.tuple #[.int .i64 ((k+j:Nat):Int),.int .i64 (c:Int),.bool ((k:Int)==(s.size:Int))])=.returned (.tuple #[.int .i64 (dP s0 (bytes s):Nat),.int .i64 (dH s0 (bytes s):Nat),.bool (vb (bytes s))]):=by
 have e:((k:Int)==(s.size:Int))=decide (k=s.size):=by
  rw [QL];simp;omega
 rw [h.1,h.2.1,h.2.2,e]
theorem rU (s:ByteArray) (w:World) (hL:s.size≤100000) :
 Calls prog 103 #[.string s] w fun e w'=>e=.returned (.tuple #[.int .i64 (dP s0 (bytes s):Nat),.int .i64 (dH s0 (bytes s):Nat),.bool (vb (bytes s))])∧Below w.heap.size w w':=by
 have LB:Sl ((bytes s).length=s.size):=⟨au s⟩;go_enter func103,ntmps103;go_wp2;go_loopw [5,6] (fun a l wr=>RD1 w s a l wr) (fun a _ _=>s.size-(intOf a).toNat)
 case atStart=>exact ⟨0,0,ku _,aY _,rfl,rfl,⟨rfl⟩,⟨rfl⟩,dW _ _⟩
 case round =>
  obtain ⟨k,c,hk,Sy,rfl,rfl,HU,HC,hrel⟩:=hrel;have HR:=Sl.mk hrel;clear hrel;by_cases bz:k<s.size
  ·have afw:(k:Int)<(s.size:Int):=by omega
   have HEX:Sl (bytes (s.extract k s.size)=(bytes s).drop k):=⟨Wv s k⟩;have ES:(s.extract k s.size).size=s.size-k:=by rw [DJ];omega
   obtain ⟨n,hn⟩:=zX (fD ((bytes s).drop k));have HN:=Sl.mk hn;by_cases h0:n=0
   ·subst h0
    clear hn;go_wp2_with fail
    refine (ND w _ (s.extract k s.size) 0 (by rw [HEX.ah];exact HN.ah) (by omega) (by omega) HR.ah).mono ?_;rintro e w2 ⟨rfl,bk⟩;go_wp2;have HWK:Sl (k<s.size→fD ((bytes s).drop k)=0):=⟨by exact fun _=>HN.ah⟩;have X7:Sl (((bytes s).drop k).length=s.size-k):=⟨by rw [iP,LB.ah]⟩;go_loopw [8] (fun e wr=>RD2 w s k e wr) (fun e _=>s.size-(intOf e).toNat)
    case atStart=>exact ⟨0,by omega,rfl,⟨ku _⟩,bk.ah⟩
    case round =>
     obtain ⟨j,hj,rfl,HJ,hrel⟩:=hrel;have ew:=Sl.mk hrel;have afx:k+j≤100000:=by omega
     clear hrel;by_cases hjs:k+j<s.size
     ·have hjI:((k+j:Nat):Int)<(s.size:Int):=by omega
      have hk':k<s.size:=by omega
      have EB:Sl (bytes (s.extract k (k+j+1))=((bytes s).drop k).take (j+1)):=⟨Wx s k (j+1)⟩;have ES2:(s.extract k (k+j+1)).size=j+1:=by rw [DJ];omega
      have HBI:Sl (qy (((bytes s).drop k).take (j+1))=true↔j<dP s0 ((bytes s).drop k)):=⟨UY _ j (by rw [X7.ah];omega) (HWK.ah hk')⟩;have akN:(0:Int)≤(k:Int):=by omega
      have abU:(k:Int)≤((k+j:Nat):Int)+1:=by omega
      have akO:((k+j:Nat):Int)+1≤(s.size:Int):=by omega
      by_cases hju:j<dP s0 ((bytes s).drop k)
      ·have HBT:Sl (qy (bytes (s.extract k (k+j+1)))=true):=⟨by rw [EB.ah];exact HBI.ah.2 hju⟩
       have HJU:=Sl.mk hju;clear hju;go_wp2_with fail
       refine (Jr w _ (s.extract k (k+j+1)) true HBT.ah (by omega) (by omega) ew.ah).mono ?_;rintro e w3 ⟨rfl,bv⟩;go_wp2;go_roundw
       case rel=>exact ⟨j+1,by omega,by go_num,⟨HJU.ah⟩,bv.ah⟩
       case measure=>simp [intOf];omega
      ·have HBT:Sl (qy (bytes (s.extract k (k+j+1)))=false):=⟨by
        rw [EB.ah];cases hb:qy (((bytes s).drop k).take (j+1)) with
        | false=>rfl
        | true=>exact absurd (HBI.ah.1 hb) hju⟩
       have lj:=Sl.mk (Dn s k c j hk HU.ah HC.ah HWK.ah (by have:=HJ.ah;omega));clear hju;go_wp2_with fail
       refine (Jr w _ (s.extract k (k+j+1)) false HBT.ah (by omega) (by omega) ew.ah).mono ?_;rintro e w3 ⟨rfl,bv⟩;go_wp2;go_ret3
       exact ⟨XM lj.ah,bv.ah⟩
     ·have hjI:¬ ((k+j:Nat):Int)<(s.size:Int):=by omega
      have lj:=Sl.mk (Dn s k c j hk HU.ah HC.ah HWK.ah (by have h1:=HJ.ah;have h2:=pK ((bytes s).drop k) s0;rw [X7.ah] at h2;omega));go_wp2;go_ret3
      exact ⟨XM lj.ah,ew.ah⟩
   ·obtain ⟨m1,m2,m3⟩:=Js s k c n hk HU.ah HC.ah hn (by omega)
    have M2:=Sl.mk m2;have M3:=Sl.mk m3;have As:((n:Int)==0)=false:=by simp;omega
    have sC:1≤n:=by omega
    clear hn m2 m3 h0;go_wp2_with fail
    refine (ND w _ (s.extract k s.size) n (by rw [HEX.ah];exact HN.ah) (by omega) (by omega) HR.ah).mono ?_;rintro e w2 ⟨rfl,bk⟩;go_wp2;go_roundw
    case rel=>exact ⟨k+n,c+1,m1,by omega,by go_num,by go_num,M2,M3,bk.ah⟩
    case measure=>simp [intOf];omega
  ·have afw:¬ (k:Int)<(s.size:Int):=by omega
   go_wp2;have HWK:Sl (k<s.size→fD ((bytes s).drop k)=0):=⟨by exact fun h=>absurd h bz⟩;have X7:Sl (((bytes s).drop k).length=s.size-k):=⟨by rw [iP,LB.ah]⟩;go_loopw [8] (fun e wr=>RD2 w s k e wr) (fun e _=>s.size-(intOf e).toNat)
   case atStart=>exact ⟨0,by omega,rfl,⟨ku _⟩,HR.ah⟩
   case round =>
    obtain ⟨j,hj,rfl,HJ,hrel⟩:=hrel;have ew:=Sl.mk hrel;have afx:k+j≤100000:=by omega
    clear hrel;by_cases hjs:k+j<s.size
    ·exfalso;omega
    ·have hjI:¬ ((k+j:Nat):Int)<(s.size:Int):=by omega
     have lj:=Sl.mk (Dn s k c j hk HU.ah HC.ah HWK.ah (by have h1:=HJ.ah;have h2:=pK ((bytes s).drop k) s0;rw [X7.ah] at h2;omega));go_wp2;go_ret3
     exact ⟨XM lj.ah,ew.ah⟩
theorem XN (w0 W:World) (s:ByteArray) (R L:Nat) (v:Bool) (h1:rt (some s0) (bytes s)=R) (h2:dH s0 (bytes s)=L) (h3:vb (bytes s)=v) (hL:s.size≤100000) (hB:Below w0.heap.size w0 W) :
 Calls prog 103 #[.string s] W fun e w'=>e=.returned (.tuple #[.int .i64 R,.int .i64 L,.bool v])∧Sl (Below W.heap.size W w')∧Sl (Below w0.heap.size w0 w') :=
 (rU s W hL).mono fun _ _ ⟨he,hb⟩=>⟨by rw [he,h2,h3,show dP s0 (bytes s)=R from h1],⟨hb⟩,⟨hB.trans (hb.mono hB.size)⟩⟩
end Go.Proofs.YtlahonjmfecikaaGreatDoor.oq
