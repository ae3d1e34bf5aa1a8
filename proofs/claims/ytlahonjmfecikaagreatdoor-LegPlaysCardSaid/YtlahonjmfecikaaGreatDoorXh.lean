/- Texts, joined. -/
import Derived.Test.YtlahonjmfecikaaGreatDoorXc
set_option maxRecDepth 100000
set_option maxHeartbeats 64000000
set_option linter.unusedVariables false
set_option linter.unusedSimpArgs false
open Go.Proofs.Tryz
namespace Go.Proofs.YtlahonjmfecikaaGreatDoor.oq
open Go.RowKit bg
section
variable {l:List Nat} {k x:Nat}
theorem xU (W:World) (l:List Nat) (vs:Array Value) (hv:vs=(dZ l).toArray) (n:Nat) (hn:l.length=n) :
 (convert 49 9 (.slice (some ⟨W.heap.size,0,none⟩) n n)).run prog (W.alloc (.cells vs 5))=.ok (.string (aF l)) (W.alloc (.cells vs 5)):=by
 subst hn;refine run_convert_bytes_arg _ 49 5 underlying49 underlying5 W.heap.size 0 l.length l.length (l.map fun (n:Nat)=>(n:Int)) (by simp) (fun i hi=>?_) 9 underlying9;have lB:i<l.length:=by simpa using hi
 rw [vT,jg _ _ _ _ _ _ (aI _ _ _ rfl),hv,Ed,jl l i lB];simp [List.getD,lD lB]
theorem XL (n:Int) (w:World) (h:eP n=none) :
 Calls prog 157 #[.int .i64 n] w fun e w'=>e=.returned (.tuple #[.string ByteArray.empty,.bool false])∧Below w.heap.size w w':=by
 have hn:n<0∨n>1114111∨(55296≤n∧n≤57343):=by
  by_cases q:n<0∨n>1114111∨(55296≤n∧n≤57343)
  ·exact q
  ·unfold eP at h
   rw [if_neg q] at h
   repeat' split at h
   all_goals cases h
 clear h;rcases hn with h | h | h
 ·go_enter func157,ntmps157
  go_wp2;go_ret2;exact ⟨rfl,dW _ _⟩
 ·have h0:¬ n<0:=by omega
  go_enter func157,ntmps157;go_wp2;go_ret2;exact ⟨rfl,dW _ _⟩
 ·have h0:¬ n<0:=by omega
  have h1:¬ 1114111<n:=by omega
  obtain ⟨h2,h3⟩:=h;go_enter func157,ntmps157;go_wp2;go_ret2;exact ⟨rfl,dW _ _⟩
set_option maxRecDepth 1000000 in
theorem Z7 (m:Nat) (w:World) (h:m<128) :
 Calls prog 157 #[.int .i64 (m:Int)] w fun e w'=>e=.returned (.tuple #[.string (aF [m]),.bool true])∧Below w.heap.size w w':=by
 have eh:=fun W=>xU W [m] #[.int .u8 m] rfl 1 rfl
 go_enter func157,ntmps157;go_wp2;go_ret2;exact ⟨rfl,(dW _ _).alloc (aY _) _⟩
set_option maxRecDepth 1000000 in
theorem Z8 (m q r:Nat) (w:World) (h1:128≤m) (h2:m<2048) (hq:(m:Int) / 64=q) (hr:(m:Int) % 64=r) (bq:q<32) (_br:r<64) :
 Calls prog 157 #[.int .i64 (m:Int)] w fun e w'=>e=.returned (.tuple #[.string (aF [192+q,128+r]),.bool true])∧Below w.heap.size w w':=by
 have eh:=fun W=>xU W [192+q,128+r] #[.int .u8 (192+(q:Int)),.int .u8 (128+(r:Int))] (by simp [dZ,v8]) 2 rfl
 go_enter func157,ntmps157;go_wp2;go_ret2;exact ⟨rfl,(dW _ _).alloc (aY _) _⟩
set_option maxRecDepth 1000000 in
theorem Z9 (m p q q2 r:Nat) (w:World) (h1:2048≤m) (h2:m<65536) (h3:m<55296∨57343<m) (hp:(m:Int) / 4096=p) (hq:(m:Int) / 64=q) (mw:(q:Int) % 64=q2) (hr:(m:Int) % 64=r) (bp:p<16) (_bq:q2<64) (_br:r<64) :
 Calls prog 157 #[.int .i64 (m:Int)] w fun e w'=>e=.returned (.tuple #[.string (aF [224+p,128+q2,128+r]),.bool true])∧Below w.heap.size w w':=by
 have eh:=fun W=>xU W [224+p,128+q2,128+r] #[.int .u8 (224+(p:Int)),.int .u8 (128+(q2:Int)),.int .u8 (128+(r:Int))] (by simp [dZ,v8]) 3 rfl
 rcases h3 with h3 | h3
 ·go_enter func157,ntmps157
  go_wp2;go_ret2;exact ⟨rfl,(dW _ _).alloc (aY _) _⟩
 ·go_enter func157,ntmps157
  go_wp2;go_ret2;exact ⟨rfl,(dW _ _).alloc (aY _) _⟩
set_option maxRecDepth 1000000 in
theorem abQ (m o p p2 q q2 r:Nat) (w:World) (h1:65536≤m) (h2:m≤1114111) (ho:(m:Int) / 262144=o) (hp:(m:Int) / 4096=p) (Bp:(p:Int) % 64=p2) (hq:(m:Int) / 64=q) (mw:(q:Int) % 64=q2) (hr:(m:Int) % 64=r) (bo:o<8) (_bp:p2<64) (_bq:q2<64) (_br:r<64) :
 Calls prog 157 #[.int .i64 (m:Int)] w fun e w'=>e=.returned (.tuple #[.string (aF [240+o,128+p2,128+q2,128+r]),.bool true])∧Below w.heap.size w w':=by
 have eh:=fun W=>xU W [240+o,128+p2,128+q2,128+r] #[.int .u8 (240+(o:Int)),.int .u8 (128+(p2:Int)),.int .u8 (128+(q2:Int)),.int .u8 (128+(r:Int))] (by simp [dZ,v8]) 4 rfl
 go_enter func157,ntmps157;go_wp2;go_ret2;exact ⟨rfl,(dW _ _).alloc (aY _) _⟩
theorem wo (n:Int) (l:List Nat) (w:World) (h:eP n=some l) :
 Calls prog 157 #[.int .i64 n] w fun e w'=>e=.returned (.tuple #[.string (aF l),.bool true])∧Below w.heap.size w w':=by
 by_cases hn:n<0
 ·unfold eP at h;rw [if_pos (.inl hn)] at h;cases h
 ·obtain ⟨m,rfl⟩:=JH (show 0≤n by omega)
  by_cases k0:1114111<m∨(55296≤m∧m≤57343)
  ·rw [nT m k0] at h;cases h
  ·by_cases k1:m<128
   ·rw [NU m k1] at h;injection h with h;subst h
    exact Z7 m w k1
   ·by_cases k2:m<2048
    ·rw [QT m (by omega) k2] at h;injection h with h;subst h
     exact Z8 m (m / 64) (m % 64) w (by omega) k2 (by omega) (by omega) (by omega) (by omega)
    ·by_cases k3:m<65536
     ·rw [UX m (by omega) k3 (by omega)] at h;injection h with h;subst h
      exact Z9 m (m / 4096) (m / 64) (m / 64 % 64) (m % 64) w (by omega) k3 (by omega) (by omega) (by omega) (by omega) (by omega) (by omega) (by omega) (by omega)
     ·rw [Xl m (by omega) (by omega)] at h;injection h with h;subst h
      exact abQ m (m / 262144) (m / 4096) (m / 4096 % 64) (m / 64) (m / 64 % 64) (m % 64) w (by omega) (by omega) (by omega) (by omega) (by omega) (by omega) (by omega) (by omega) (by omega) (by omega) (by omega) (by omega)
open Go.RowKit bg
theorem je {n:Int} (h:eP n=some l):aU 256 l:=by
 by_cases hn:n<0
 ·unfold eP at h;rw [if_pos (.inl hn)] at h;cases h
 ·obtain ⟨m,rfl⟩:=JH (show 0≤n by omega)
  by_cases k0:1114111<m∨(55296≤m∧m≤57343)
  ·rw [nT m k0] at h;cases h
  ·by_cases k1:m<128
   ·rw [NU m k1] at h;injection h with h;subst h
    intro x hx;simp at hx;omega
   ·by_cases k2:m<2048
    ·rw [QT m (by omega) k2] at h;injection h with h;subst h
     intro x hx;simp at hx;omega
    ·by_cases k3:m<65536
     ·rw [UX m (by omega) k3 (by omega)] at h;injection h with h;subst h
      intro x hx;simp at hx;omega
     ·rw [Xl m (by omega) (by omega)] at h;injection h with h;subst h
      intro x hx;simp at hx;omega
theorem nD (w0 W:World) (n:Int) (l:List Nat) (hB:Below w0.heap.size w0 W) (h:eP n=some l) :
 Calls prog 157 #[.int .i64 n] W fun e w'=>e=.returned (.tuple #[.string (aF l),.bool true])∧Sl (Below w0.heap.size w0 w') :=
 (wo n l W h).mono fun _ _ ⟨he,hb⟩=>⟨he,⟨hB.trans (hb.mono hB.size)⟩⟩
theorem xW (w0 W:World) (n:Int) (hB:Below w0.heap.size w0 W) (h:eP n=none) :
 Calls prog 157 #[.int .i64 n] W fun e w'=>e=.returned (.tuple #[.string ByteArray.empty,.bool false])∧Sl (Below w0.heap.size w0 w') :=
 (XL n W h).mono fun _ _ ⟨he,hb⟩=>⟨he,⟨hB.trans (hb.mono hB.size)⟩⟩
theorem Qg (h:k<l.length):l.take (k+1)=l.take k++[l.getD k 0]:=by
 rw [List.take_succ_eq_append_getElem h];simp [List.getD,lD h]
open Go.RowKit bg
set_option maxRecDepth 1000000 in
theorem lX (b:Nat) (w:World):Calls prog 155 #[.int .u8 b] w fun e w'=>e=.returned (.int .i64 (fZ b:Nat))∧w=w':=by
 by_cases a1:b<128
 ·have e:fZ b=1:=by unfold fZ;rw [if_pos a1]
  rw [e];clear e;go_enter func155,ntmps155;go_wp2;go_ret;exact ⟨rfl,rfl⟩
 ·by_cases a2:b<192
  ·have e:fZ b=0:=by unfold fZ;rw [if_neg a1,if_neg (by omega),if_neg (by omega),if_neg (by omega)]
   rw [e];clear e;have c1:¬ (b:Int)<128:=by omega
   have c2:¬ (192:Int)≤(b:Int):=by omega
   have c3:¬ (224:Int)≤(b:Int):=by omega
   have c4:¬ (240:Int)≤(b:Int):=by omega
   go_enter func155,ntmps155;go_wp2;go_ret;exact ⟨rfl,rfl⟩
  ·by_cases a3:b<224
   ·rw [LZ (by omega) a3]
    go_enter func155,ntmps155;go_wp2;go_ret;exact ⟨rfl,rfl⟩
   ·by_cases a4:b<240
    ·rw [Hq (by omega) a4]
     go_enter func155,ntmps155;go_wp2;go_ret;exact ⟨rfl,rfl⟩
    ·by_cases a5:b<248
     ·rw [Eh (by omega) a5]
      go_enter func155,ntmps155;go_wp2;go_ret;exact ⟨rfl,rfl⟩
     ·have e:fZ b=0:=by unfold fZ;rw [if_neg a1,if_neg (by omega),if_neg (by omega),if_neg (by omega)]
      rw [e];clear e;go_enter func155,ntmps155;go_wp2;go_ret;exact ⟨rfl,rfl⟩
def Xf (n:Nat):Nat:=[0,1,8,16,32].getD n 0
theorem Wn (n:Nat) (w:World) (h:n<5):Calls prog 156 #[.int .i64 n] w fun e w'=>e=.returned (.int .i64 (Xf n:Nat))∧Below w.heap.size w w':=by
 match n,h with
 | 0,_ =>
   go_enter func156,ntmps156;go_wp2;go_ret;exact ⟨rfl,(dW _ _).alloc (aY _) _⟩
 | 1,_ =>
   go_enter func156,ntmps156;go_wp2;go_ret;exact ⟨rfl,(dW _ _).alloc (aY _) _⟩
 | 2,_ =>
   go_enter func156,ntmps156;go_wp2;go_ret;exact ⟨rfl,(dW _ _).alloc (aY _) _⟩
 | 3,_ =>
   go_enter func156,ntmps156;go_wp2;go_ret;exact ⟨rfl,(dW _ _).alloc (aY _) _⟩
 | 4,_ =>
   go_enter func156,ntmps156;go_wp2;go_ret;exact ⟨rfl,(dW _ _).alloc (aY _) _⟩
theorem G5 (b:Nat):fZ b<5:=by unfold fZ;repeat' split
                              all_goals decide
open Go.RowKit bg
theorem vN (w0 W:World) (n p:Nat) (hp:Xf n=p) (hn:n<5) (hB:Below w0.heap.size w0 W):Calls prog 156 #[.int .i64 n] W fun e w'=>e=.returned (.int .i64 p)∧Sl (Below w0.heap.size w0 w') :=
 (Wn n W hn).mono fun _ _ ⟨he,hb⟩=>⟨by rw [he,hp],⟨hB.trans (hb.mono hB.size)⟩⟩
theorem iU (s:ByteArray) (h:0<s.size):(bytes s).headD 0=(s[0]'h).toNat:=by
 have h1:=dL s 0 h;have h2:(bytes s).headD 0=(bytes s).getD 0 0:=by cases bytes s<;>rfl
 rw [h2,h1];rfl
theorem yZ (m:Nat) (l:List Nat) (k:Nat) (h1:1≤k) (h:k<l.length):oJ m (l.take (k+1))=64*oJ m (l.take k)+l.getD k 0 % 64:=by
 rw [Qg h];cases l with
 | nil=>simp at h
 | cons b r =>
   obtain ⟨j,rfl⟩:∃ j,k=j+1:=⟨k-1,by omega⟩;rw [yB,DK];simp only [oJ,List.foldl_append,QG,List.foldl_nil]
theorem xX (m:Nat) (l:List Nat) (h:0<l.length):oJ m (l.take 1)=l.headD 0 % m:=by
 cases l with
 | nil=>simp at h
 | cons b r=>rfl
theorem Ls (s:ByteArray) (w:World) (hs:0<s.size) (_hL:s.size≤100000) (h:fZ ((bytes s).headD 0)=0∨s.size<fZ ((bytes s).headD 0)) :
 Calls prog 132 #[.string s] w fun e w'=>e=.returned (.int .i64 0)∧Below w.heap.size w w':=by
 obtain ⟨b,hb⟩:=zX ((s[0]'hs).toNat);have hh:=iU s hs;rw [hb] at hh;rw [hh] at h;obtain ⟨n,hn⟩:=zX (fZ b);have HN:=Sl.mk hn;rw [hn] at h;have hn5:n<5:=by rw [← hn];exact G5 b
 have gc:Sl (∀ W,Calls prog 155 #[.int .u8 b] W fun e w'=>e=.returned (.int .i64 n)∧W=w'):=⟨fun W=>by rw [← hn];exact lX b W⟩;clear hn hh;by_cases h0:n=0
 ·subst h0
  clear h;go_enter func132,ntmps132;go_wp2_with fail
  refine (gc.ah _).mono ?_;rintro e w' ⟨rfl,rfl⟩;go_wp2;go_ret;exact ⟨rfl,dW _ _⟩
 ·have h1:(s.size:Int)<(n:Int):=by omega
  have h2:((n:Int)==0)=false:=by simp;omega
  clear h h0;go_enter func132,ntmps132;go_wp2_with fail
  refine (gc.ah _).mono ?_;rintro e w' ⟨rfl,rfl⟩;go_wp2;go_ret;exact ⟨rfl,dW _ _⟩
def WH (w:World) (m n:Nat) (l:List Nat) (v i:Value) (wr:World):Prop :=
 ∃ k x:Nat,1≤k∧k≤n∧i=.int .i64 k∧v=.int .i64 x∧Sl (x=oJ m (l.take k))∧Sl (x<256*64 ^ (k-1))∧Below w.heap.size w wr
theorem qQ (h1:1≤k) (h:k≤3) (hx:x<256*64 ^ (k-1)):x<2000000:=by
 match k,h1,h with
 | 1,_,_=>simp at hx;omega
 | 2,_,_=>simp at hx;omega
 | 3,_,_=>simp at hx;omega
theorem pq (h1:1≤k) (h:k≤4) (hx:x<256*64 ^ (k-1)):x<100000000:=by
 match k,h1,h with
 | 1,_,_=>simp at hx;omega
 | 2,_,_=>simp at hx;omega
 | 3,_,_=>simp at hx;omega
 | 4,_,_=>simp at hx;omega
theorem gW {d:Nat} (h1:1≤k) (hd:d<64) (hx:x<256*64 ^ (k-1)):64*x+d<256*64 ^ (k+1-1):=by
 obtain ⟨j,rfl⟩:∃ j,k=j+1:=⟨k-1,by omega⟩;simp only [Nat.add_sub_cancel] at hx ⊢;rw [Nat.pow_succ];omega
theorem mQ {t:List Nat} (ht:aU 256 t) (s:ByteArray) (n:Nat):((aF t).toList==(s.extract 0 n).toList)=decide (t=(bytes s).take n):=by
 rw [JU,dm _ ht,bC,Af]
set_option maxRecDepth 100000 in
theorem Wp (s:ByteArray) (w:World) (hs:0<s.size) (hL:s.size≤100000) (mn:fZ ((bytes s).headD 0)=1) (_h:1≤s.size) :
 Calls prog 132 #[.string s] w fun e w'=>e=.returned (.int .i64 (iZ (bytes s):Nat))∧Below w.heap.size w w':=by
 obtain ⟨b,hb⟩:=zX ((s[0]'hs).toNat);have hh:=iU s hs;rw [hb] at hh;have gc:Sl (∀ W,Calls prog 155 #[.int .u8 b] W fun e w'=>e=.returned (.int .i64 1)∧W=w'):=⟨fun W=>by
  have e:=mn;rw [hh] at e;have:=lX b W;rw [e] at this;exact this⟩
 have LB:Sl ((bytes s).length=s.size):=⟨au s⟩;have HW:Sl (iZ (bytes s)=if eP (oJ 256 ((bytes s).take 1))=some ((bytes s).take 1) then 1 else 0):=⟨by
  unfold iZ;simp only [mn,au];rw [if_neg (by omega)]⟩
 obtain ⟨r,hr⟩:=zX (b % 256);have pQ:b<256:=by rw [← hb];exact NS _
 have eA:r<256:=by omega
 have gp:Sl (r=oJ 256 ((bytes s).take 1)):=⟨by rw [xX _ _ (by rw [au];exact hs),hh,hr]⟩;have vl:(b:Int) % 256=(r:Int):=by omega
 have ui:Int.tmod (b:Int) 256=(r:Int):=by rw [← vl,Fq (by omega)]
 have Yk:¬ (s.size:Int)<1:=by omega
 clear hh mn hr;go_enter func132,ntmps132;go_wp2_with fail
 refine (gc.ah _).mono ?_;rintro e w' ⟨rfl,rfl⟩;go_wp2_with fail
 have gT:Below w.heap.size w w.drew:=(dW _ _).drew;have z1:IntKind.i64.wrap (b:Int)=(b:Int):=Ag _ (by omega);have z2:IntKind.i64.wrap (r:Int)=(r:Int):=Ag _ (by omega);have z3:IntKind.i64.wrap 256=256:=Ag _ (by omega);have z4:Int.tdiv 256 1=256:=rfl;go_region_held3 (fun W=>Below w.heap.size w W) (first | exact gT | assumption) (first | (go_at_call 156;refine (vN w _ 1 1 rfl (by decide) (by assumption)).mono ?_;rintro e w4 ⟨rfl,br⟩;have zg:=br.ah))
 all_goals
  clear gT zg ui z1 z2 z3 z4
  rename Sl (Below w.heap.size w w4)=>br
  go_wp2;go_loopw [4,5] (fun v i wr=>WH w 256 1 (bytes s) v i wr) (fun _ i _=>1-(intOf i).toNat)
  case atStart=>exact ⟨1,r,aY _,by omega,rfl,rfl,gp,⟨by simpa using eA⟩,br.ah⟩
  case round =>
   obtain ⟨k,x,dC,hk,rfl,rfl,HX,cq,hrel⟩:=hrel;have HR:=Sl.mk hrel;clear hrel;by_cases bz:k<1
   ·exfalso;omega
   ·have eg:¬ (k:Int)<1:=by omega
    have gf:k=1:=by omega
    subst gf;have hx4:=pq dC (by decide) cq.ah;cases hp:eP (x:Int) with
    | none =>
      have Cv:=Sl.mk hp;have HZ:Sl (iZ (bytes s)=0):=⟨by rw [HW.ah,← HX.ah,hp,if_neg (by simp)]⟩;clear hp;go_wp2_with fail
      refine (xW w _ (x:Int) HR.ah Cv.ah).mono ?_;rintro e w5 ⟨rfl,ch⟩;go_wp2;go_ret;exact ⟨by rw [HZ.ah];rfl,ch.ah⟩
    | some t =>
      have Cy:=Sl.mk hp;have hq:=mQ (je hp) s 1;by_cases ht:t=(bytes s).take 1
      ·have HZ:Sl (iZ (bytes s)=1):=⟨by rw [HW.ah,← HX.ah,hp,if_pos (by rw [ht])]⟩
       rw [iG ht] at hq;clear hp ht;go_wp2_with fail
       refine (nD w _ (x:Int) t HR.ah Cy.ah).mono ?_;rintro e w5 ⟨rfl,ch⟩;go_wp2;go_ret;exact ⟨by rw [HZ.ah];rfl,ch.ah⟩
      ·have HZ:Sl (iZ (bytes s)=0):=⟨by rw [HW.ah,← HX.ah,hp,if_neg (fun e=>ht (by injection e))]⟩
       rw [iQ ht] at hq;clear hp ht;go_wp2_with fail
       refine (nD w _ (x:Int) t HR.ah Cy.ah).mono ?_;rintro e w5 ⟨rfl,ch⟩;go_wp2;go_ret;exact ⟨by rw [HZ.ah];rfl,ch.ah⟩
set_option maxRecDepth 100000 in
theorem Wq (s:ByteArray) (w:World) (hs:0<s.size) (hL:s.size≤100000) (mn:fZ ((bytes s).headD 0)=2) (h:2≤s.size) :
 Calls prog 132 #[.string s] w fun e w'=>e=.returned (.int .i64 (iZ (bytes s):Nat))∧Below w.heap.size w w':=by
 obtain ⟨b,hb⟩:=zX ((s[0]'hs).toNat);have hh:=iU s hs;rw [hb] at hh;have gc:Sl (∀ W,Calls prog 155 #[.int .u8 b] W fun e w'=>e=.returned (.int .i64 2)∧W=w'):=⟨fun W=>by
  have e:=mn;rw [hh] at e;have:=lX b W;rw [e] at this;exact this⟩
 have LB:Sl ((bytes s).length=s.size):=⟨au s⟩;have HW:Sl (iZ (bytes s)=if eP (oJ 32 ((bytes s).take 2))=some ((bytes s).take 2) then 2 else 0):=⟨by
  unfold iZ;simp only [mn,au];rw [if_neg (by omega)]⟩
 obtain ⟨r,hr⟩:=zX (b % 32);have pQ:b<256:=by rw [← hb];exact NS _
 have eA:r<256:=by omega
 have gp:Sl (r=oJ 32 ((bytes s).take 1)):=⟨by rw [xX _ _ (by rw [au];exact hs),hh,hr]⟩;have vl:(b:Int) % 32=(r:Int):=by omega
 have ui:Int.tmod (b:Int) 32=(r:Int):=by rw [← vl,Fq (by omega)]
 have Yk:¬ (s.size:Int)<2:=by omega
 clear hh mn hr;go_enter func132,ntmps132;go_wp2_with fail
 refine (gc.ah _).mono ?_;rintro e w' ⟨rfl,rfl⟩;go_wp2_with fail
 have gT:Below w.heap.size w w.drew:=(dW _ _).drew;have z1:IntKind.i64.wrap (b:Int)=(b:Int):=Ag _ (by omega);have z2:IntKind.i64.wrap (r:Int)=(r:Int):=Ag _ (by omega);have z3:IntKind.i64.wrap 32=32:=Ag _ (by omega);have z4:Int.tdiv 256 8=32:=rfl;go_region_held3 (fun W=>Below w.heap.size w W) (first | exact gT | assumption) (first | (go_at_call 156;refine (vN w _ 2 8 rfl (by decide) (by assumption)).mono ?_;rintro e w4 ⟨rfl,br⟩;have zg:=br.ah))
 all_goals
  clear gT zg ui z1 z2 z3 z4
  rename Sl (Below w.heap.size w w4)=>br
  go_wp2;go_loopw [4,5] (fun v i wr=>WH w 32 2 (bytes s) v i wr) (fun _ i _=>2-(intOf i).toNat)
  case atStart=>exact ⟨1,r,aY _,by omega,rfl,rfl,gp,⟨by simpa using eA⟩,br.ah⟩
  case round =>
   obtain ⟨k,x,dC,hk,rfl,rfl,HX,cq,hrel⟩:=hrel;have HR:=Sl.mk hrel;clear hrel;by_cases bz:k<2
   ·have ez:k<s.size:=by omega
    obtain ⟨c,hc⟩:=zX ((s[k]'ez).toNat);obtain ⟨d,hd⟩:=zX (c % 64);have Dg:(c:Int) % 64=(d:Int):=by omega
    have ow:d<64:=by omega
    have ie:c<256:=by rw [← hc];exact NS _
    have hxb:=qQ dC (by omega) cq.ah;have HXN:Sl (64*x+d=oJ 32 ((bytes s).take (k+1))):=⟨by
     rw [yZ 32 (bytes s) k dC (by rw [LB.ah];exact ez),← HX.ah,dL s k ez,← hd,← hc];rfl⟩
    have HBN:Sl (64*x+d<256*64 ^ (k+1-1)):=⟨gW dC ow cq.ah⟩;clear hd;go_wp2;go_roundw
    case rel=>exact ⟨k+1,64*x+d,by omega,by omega,by go_num,by go_num,HXN,HBN,HR.ah⟩
    case measure=>simp [intOf];omega
   ·have eg:¬ (k:Int)<2:=by omega
    have gf:k=2:=by omega
    subst gf;have hx4:=pq dC (by decide) cq.ah;cases hp:eP (x:Int) with
    | none =>
      have Cv:=Sl.mk hp;have HZ:Sl (iZ (bytes s)=0):=⟨by rw [HW.ah,← HX.ah,hp,if_neg (by simp)]⟩;clear hp;go_wp2_with fail
      refine (xW w _ (x:Int) HR.ah Cv.ah).mono ?_;rintro e w5 ⟨rfl,ch⟩;go_wp2;go_ret;exact ⟨by rw [HZ.ah];rfl,ch.ah⟩
    | some t =>
      have Cy:=Sl.mk hp;have hq:=mQ (je hp) s 2;by_cases ht:t=(bytes s).take 2
      ·have HZ:Sl (iZ (bytes s)=2):=⟨by rw [HW.ah,← HX.ah,hp,if_pos (by rw [ht])]⟩
       rw [iG ht] at hq;clear hp ht;go_wp2_with fail
       refine (nD w _ (x:Int) t HR.ah Cy.ah).mono ?_;rintro e w5 ⟨rfl,ch⟩;go_wp2;go_ret;exact ⟨by rw [HZ.ah];rfl,ch.ah⟩
      ·have HZ:Sl (iZ (bytes s)=0):=⟨by rw [HW.ah,← HX.ah,hp,if_neg (fun e=>ht (by injection e))]⟩
       rw [iQ ht] at hq;clear hp ht;go_wp2_with fail
       refine (nD w _ (x:Int) t HR.ah Cy.ah).mono ?_;rintro e w5 ⟨rfl,ch⟩;go_wp2;go_ret;exact ⟨by rw [HZ.ah];rfl,ch.ah⟩
set_option maxRecDepth 100000 in
theorem Ws (s:ByteArray) (w:World) (hs:0<s.size) (hL:s.size≤100000) (mn:fZ ((bytes s).headD 0)=3) (h:3≤s.size) :
 Calls prog 132 #[.string s] w fun e w'=>e=.returned (.int .i64 (iZ (bytes s):Nat))∧Below w.heap.size w w':=by
 obtain ⟨b,hb⟩:=zX ((s[0]'hs).toNat);have hh:=iU s hs;rw [hb] at hh;have gc:Sl (∀ W,Calls prog 155 #[.int .u8 b] W fun e w'=>e=.returned (.int .i64 3)∧W=w'):=⟨fun W=>by
  have e:=mn;rw [hh] at e;have:=lX b W;rw [e] at this;exact this⟩
 have LB:Sl ((bytes s).length=s.size):=⟨au s⟩;have HW:Sl (iZ (bytes s)=if eP (oJ 16 ((bytes s).take 3))=some ((bytes s).take 3) then 3 else 0):=⟨by
  unfold iZ;simp only [mn,au];rw [if_neg (by omega)]⟩
 obtain ⟨r,hr⟩:=zX (b % 16);have pQ:b<256:=by rw [← hb];exact NS _
 have eA:r<256:=by omega
 have gp:Sl (r=oJ 16 ((bytes s).take 1)):=⟨by rw [xX _ _ (by rw [au];exact hs),hh,hr]⟩;have vl:(b:Int) % 16=(r:Int):=by omega
 have ui:Int.tmod (b:Int) 16=(r:Int):=by rw [← vl,Fq (by omega)]
 have Yk:¬ (s.size:Int)<3:=by omega
 clear hh mn hr;go_enter func132,ntmps132;go_wp2_with fail
 refine (gc.ah _).mono ?_;rintro e w' ⟨rfl,rfl⟩;go_wp2_with fail
 have gT:Below w.heap.size w w.drew:=(dW _ _).drew;have z1:IntKind.i64.wrap (b:Int)=(b:Int):=Ag _ (by omega);have z2:IntKind.i64.wrap (r:Int)=(r:Int):=Ag _ (by omega);have z3:IntKind.i64.wrap 16=16:=Ag _ (by omega);have z4:Int.tdiv 256 16=16:=rfl;go_region_held3 (fun W=>Below w.heap.size w W) (first | exact gT | assumption) (first | (go_at_call 156;refine (vN w _ 3 16 rfl (by decide) (by assumption)).mono ?_;rintro e w4 ⟨rfl,br⟩;have zg:=br.ah))
 all_goals
  clear gT zg ui z1 z2 z3 z4
  rename Sl (Below w.heap.size w w4)=>br
  go_wp2;go_loopw [4,5] (fun v i wr=>WH w 16 3 (bytes s) v i wr) (fun _ i _=>3-(intOf i).toNat)
  case atStart=>exact ⟨1,r,aY _,by omega,rfl,rfl,gp,⟨by simpa using eA⟩,br.ah⟩
  case round =>
   obtain ⟨k,x,dC,hk,rfl,rfl,HX,cq,hrel⟩:=hrel;have HR:=Sl.mk hrel;clear hrel;by_cases bz:k<3
   ·have ez:k<s.size:=by omega
    obtain ⟨c,hc⟩:=zX ((s[k]'ez).toNat);obtain ⟨d,hd⟩:=zX (c % 64);have Dg:(c:Int) % 64=(d:Int):=by omega
    have ow:d<64:=by omega
    have ie:c<256:=by rw [← hc];exact NS _
    have hxb:=qQ dC (by omega) cq.ah;have HXN:Sl (64*x+d=oJ 16 ((bytes s).take (k+1))):=⟨by
     rw [yZ 16 (bytes s) k dC (by rw [LB.ah];exact ez),← HX.ah,dL s k ez,← hd,← hc];rfl⟩
    have HBN:Sl (64*x+d<256*64 ^ (k+1-1)):=⟨gW dC ow cq.ah⟩;clear hd;go_wp2;go_roundw
    case rel=>exact ⟨k+1,64*x+d,by omega,by omega,by go_num,by go_num,HXN,HBN,HR.ah⟩
    case measure=>simp [intOf];omega
   ·have eg:¬ (k:Int)<3:=by omega
    have gf:k=3:=by omega
    subst gf;have hx4:=pq dC (by decide) cq.ah;cases hp:eP (x:Int) with
    | none =>
      have Cv:=Sl.mk hp;have HZ:Sl (iZ (bytes s)=0):=⟨by rw [HW.ah,← HX.ah,hp,if_neg (by simp)]⟩;clear hp;go_wp2_with fail
      refine (xW w _ (x:Int) HR.ah Cv.ah).mono ?_;rintro e w5 ⟨rfl,ch⟩;go_wp2;go_ret;exact ⟨by rw [HZ.ah];rfl,ch.ah⟩
    | some t =>
      have Cy:=Sl.mk hp;have hq:=mQ (je hp) s 3;by_cases ht:t=(bytes s).take 3
      ·have HZ:Sl (iZ (bytes s)=3):=⟨by rw [HW.ah,← HX.ah,hp,if_pos (by rw [ht])]⟩
       rw [iG ht] at hq;clear hp ht;go_wp2_with fail
       refine (nD w _ (x:Int) t HR.ah Cy.ah).mono ?_;rintro e w5 ⟨rfl,ch⟩;go_wp2;go_ret;exact ⟨by rw [HZ.ah];rfl,ch.ah⟩
      ·have HZ:Sl (iZ (bytes s)=0):=⟨by rw [HW.ah,← HX.ah,hp,if_neg (fun e=>ht (by injection e))]⟩
       rw [iQ ht] at hq;clear hp ht;go_wp2_with fail
       refine (nD w _ (x:Int) t HR.ah Cy.ah).mono ?_;rintro e w5 ⟨rfl,ch⟩;go_wp2;go_ret;exact ⟨by rw [HZ.ah];rfl,ch.ah⟩
set_option maxRecDepth 100000 in
theorem Wu (s:ByteArray) (w:World) (hs:0<s.size) (hL:s.size≤100000) (mn:fZ ((bytes s).headD 0)=4) (h:4≤s.size) :
 Calls prog 132 #[.string s] w fun e w'=>e=.returned (.int .i64 (iZ (bytes s):Nat))∧Below w.heap.size w w':=by
 obtain ⟨b,hb⟩:=zX ((s[0]'hs).toNat);have hh:=iU s hs;rw [hb] at hh;have gc:Sl (∀ W,Calls prog 155 #[.int .u8 b] W fun e w'=>e=.returned (.int .i64 4)∧W=w'):=⟨fun W=>by
  have e:=mn;rw [hh] at e;have:=lX b W;rw [e] at this;exact this⟩
 have LB:Sl ((bytes s).length=s.size):=⟨au s⟩;have HW:Sl (iZ (bytes s)=if eP (oJ 8 ((bytes s).take 4))=some ((bytes s).take 4) then 4 else 0):=⟨by
  unfold iZ;simp only [mn,au];rw [if_neg (by omega)]⟩
 obtain ⟨r,hr⟩:=zX (b % 8);have pQ:b<256:=by rw [← hb];exact NS _
 have eA:r<256:=by omega
 have gp:Sl (r=oJ 8 ((bytes s).take 1)):=⟨by rw [xX _ _ (by rw [au];exact hs),hh,hr]⟩;have vl:(b:Int) % 8=(r:Int):=by omega
 have ui:Int.tmod (b:Int) 8=(r:Int):=by rw [← vl,Fq (by omega)]
 have Yk:¬ (s.size:Int)<4:=by omega
 clear hh mn hr;go_enter func132,ntmps132;go_wp2_with fail
 refine (gc.ah _).mono ?_;rintro e w' ⟨rfl,rfl⟩;go_wp2_with fail
 have gT:Below w.heap.size w w.drew:=(dW _ _).drew;have z1:IntKind.i64.wrap (b:Int)=(b:Int):=Ag _ (by omega);have z2:IntKind.i64.wrap (r:Int)=(r:Int):=Ag _ (by omega);have z3:IntKind.i64.wrap 8=8:=Ag _ (by omega);have z4:Int.tdiv 256 32=8:=rfl;go_region_held3 (fun W=>Below w.heap.size w W) (first | exact gT | assumption) (first | (go_at_call 156;refine (vN w _ 4 32 rfl (by decide) (by assumption)).mono ?_;rintro e w4 ⟨rfl,br⟩;have zg:=br.ah))
 all_goals
  clear gT zg ui z1 z2 z3 z4
  rename Sl (Below w.heap.size w w4)=>br
  go_wp2;go_loopw [4,5] (fun v i wr=>WH w 8 4 (bytes s) v i wr) (fun _ i _=>4-(intOf i).toNat)
  case atStart=>exact ⟨1,r,aY _,by omega,rfl,rfl,gp,⟨by simpa using eA⟩,br.ah⟩
  case round =>
   obtain ⟨k,x,dC,hk,rfl,rfl,HX,cq,hrel⟩:=hrel;have HR:=Sl.mk hrel;clear hrel;by_cases bz:k<4
   ·have ez:k<s.size:=by omega
    obtain ⟨c,hc⟩:=zX ((s[k]'ez).toNat);obtain ⟨d,hd⟩:=zX (c % 64);have Dg:(c:Int) % 64=(d:Int):=by omega
    have ow:d<64:=by omega
    have ie:c<256:=by rw [← hc];exact NS _
    have hxb:=qQ dC (by omega) cq.ah;have HXN:Sl (64*x+d=oJ 8 ((bytes s).take (k+1))):=⟨by
     rw [yZ 8 (bytes s) k dC (by rw [LB.ah];exact ez),← HX.ah,dL s k ez,← hd,← hc];rfl⟩
    have HBN:Sl (64*x+d<256*64 ^ (k+1-1)):=⟨gW dC ow cq.ah⟩;clear hd;go_wp2;go_roundw
    case rel=>exact ⟨k+1,64*x+d,by omega,by omega,by go_num,by go_num,HXN,HBN,HR.ah⟩
    case measure=>simp [intOf];omega
   ·have eg:¬ (k:Int)<4:=by omega
    have gf:k=4:=by omega
    subst gf;have hx4:=pq dC (by decide) cq.ah;cases hp:eP (x:Int) with
    | none =>
      have Cv:=Sl.mk hp;have HZ:Sl (iZ (bytes s)=0):=⟨by rw [HW.ah,← HX.ah,hp,if_neg (by simp)]⟩;clear hp;go_wp2_with fail
      refine (xW w _ (x:Int) HR.ah Cv.ah).mono ?_;rintro e w5 ⟨rfl,ch⟩;go_wp2;go_ret;exact ⟨by rw [HZ.ah];rfl,ch.ah⟩
    | some t =>
      have Cy:=Sl.mk hp;have hq:=mQ (je hp) s 4;by_cases ht:t=(bytes s).take 4
      ·have HZ:Sl (iZ (bytes s)=4):=⟨by rw [HW.ah,← HX.ah,hp,if_pos (by rw [ht])]⟩
       rw [iG ht] at hq;clear hp ht;go_wp2_with fail
       refine (nD w _ (x:Int) t HR.ah Cy.ah).mono ?_;rintro e w5 ⟨rfl,ch⟩;go_wp2;go_ret;exact ⟨by rw [HZ.ah];rfl,ch.ah⟩
      ·have HZ:Sl (iZ (bytes s)=0):=⟨by rw [HW.ah,← HX.ah,hp,if_neg (fun e=>ht (by injection e))]⟩
       rw [iQ ht] at hq;clear hp ht;go_wp2_with fail
       refine (nD w _ (x:Int) t HR.ah Cy.ah).mono ?_;rintro e w5 ⟨rfl,ch⟩;go_wp2;go_ret;exact ⟨by rw [HZ.ah];rfl,ch.ah⟩
theorem G6 (s:ByteArray) (w:World) (hs:0<s.size) (hL:s.size≤100000) :
 Calls prog 132 #[.string s] w fun e w'=>e=.returned (.int .i64 (fD (bytes s):Nat))∧Below w.heap.size w w':=by
 rw [← QU];by_cases h:fZ ((bytes s).headD 0)=0∨s.size<fZ ((bytes s).headD 0)
 ·have e:iZ (bytes s)=0:=by
   unfold iZ;simp only [au];rw [if_pos h]
  rw [e];exact Ls s w hs hL h
 ·have h5:=G5 ((bytes s).headD 0)
  obtain ⟨n,hn⟩:=zX (fZ ((bytes s).headD 0));rw [hn] at h h5
  match n,h5 with
  | 0,_=>exact absurd (.inl rfl) h
  | 1,_=>exact Wp s w hs hL hn (by omega)
  | 2,_=>exact Wq s w hs hL hn (by omega)
  | 3,_=>exact Ws s w hs hL hn (by omega)
  | 4,_=>exact Wu s w hs hL hn (by omega)
end
end Go.Proofs.YtlahonjmfecikaaGreatDoor.oq
