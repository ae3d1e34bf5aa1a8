/- Texts, joined. -/
import Derived.Test.YtlahonjmfecikaaGreatDoorXd
import Derived.Lib.Split
import Derived.Lib.SlTrimSet
import Derived.Lib.TrimByte
import Derived.Test.YtlahonjmfecikaaGreatDoorProg
import Derived.Shelf.Small.Strs
import Derived.Shelf.Small.Wraps
import Derived.Shelf.Strings.Search1
import Derived.Shelf.Strings.Search2
import Derived.Shelf.Strings.Search3
import Derived.Shelf.Strings.Prefix
import Derived.Shelf.Strings.Shaped
import Derived.Shelf.LaysM
import Derived.WalkMore
import Derived.WalkSmall
import Derived.OwnWalk
import Derived.Deep.Strs
import Derived.Maps.OwnSet
import Derived.Carry
set_option maxRecDepth 100000
set_option maxHeartbeats 64000000
set_option linter.unusedVariables false
set_option linter.unusedSimpArgs false
open Go.Proofs.Tryz
namespace fM
def marks:List Nat:=[33,35,36,37,38,39,42,43,45,46,94,95,96,124,126]
def vK (x:Nat):Bool:=(97≤x&&x≤122)||(65≤x&&x≤90)||(48≤x&&x≤57)||marks.contains x
def token (l:List Nat):Bool:=!l.isEmpty&&l.all vK
end fM
namespace fM
open Go
def toN (l:List UInt8):List Nat:=l.map (·.toNat)
theorem D7 (c:UInt8) (l:List UInt8):decide (Lib.indexByte l c<0)=!(toN l).contains c.toNat:=by
 induction l with
 | nil=>rfl
 | cons x r ih =>
   unfold Lib.indexByte;have eg:=Lib.indexByte_ge r c;rw [show toN (x :: r)=x.toNat :: toN r from rfl,List.contains_cons];by_cases h:x=c
   ·subst h;simp
   ·have h2:(x==c)=false:=by rw [mJ];exact h
    have h3:(c.toNat==x.toNat)=false:=by rw [mJ];exact fun e=>h (UInt8.toNat_inj.1 e.symm)
    rw [h2,if_neg (by simp),h3,Bool.false_or,← ih];by_cases h4:Lib.indexByte r c = -1
    ·rw [h4];rfl
    ·have h5:(Lib.indexByte r c == -1)=false:=by rw [mJ];exact h4
     rw [h5,if_neg (by simp)];congr 1;rw [eq_iff_iff];omega
end fM
namespace Go.Proofs.YtlahonjmfecikaaGreatDoor
open Go.RowKit fM
def Je:List Value:=[.int .u8 97,.int .u8 122,.int .u8 65,.int .u8 90,.int .u8 48,.int .u8 57]
structure bD (w:World):Prop where
 t:w.rangeAt 0 0 Je
 m:∃ m:Int,w.cell? ⟨2,0,none⟩=some (.int .i64 m)
theorem bD.size {w:World} (h:bD w):3≤w.heap.size:=by
 obtain ⟨m,hm⟩:=h.m;have h1:(2:Nat)<w.heap.size:=zk hm;have h2:(0:Nat)<w.heap.size:=zk (show w.cell? ⟨0,0+0,none⟩=_ from h.t 0 _ rfl);omega
theorem bD.below {w w':World} {B:Nat} (h:bD w) (hb:Below B w w') (hB:3≤B):bD w' :=
 ⟨fun j v hv=>by rw [hb.cell (p:=⟨0,0+j,none⟩) (show 0<B by omega)];exact h.t j v hv,by
  obtain ⟨m,hm⟩:=h.m;exact ⟨m,by rw [hb.cell (p:=⟨2,0,none⟩) (show 2<B by omega)];exact hm⟩⟩
theorem bD.of {w0 w:World} (h:bD w0) (hb:Below w0.heap.size w0 w):bD w:=h.below hb h.size
def jf (w w':World):Prop:=∃ m,w'=w.drewN m
theorem jf.below {w w':World} (h:jf w w'):Below w.heap.size w w':=by obtain ⟨m,rfl⟩:=h;exact ⟨rfl,rfl,rfl,aY _,fun _ _=>rfl⟩
open Go.RowKit fM
def jb (c:Nat):Bool:=(97≤c&&c≤122)||(65≤c&&c≤90)||(48≤c&&c≤57)
theorem V6 (c:Nat):vK c=(jb c||(marks.take 15).contains c):=by
 unfold vK jb;rw [show marks.take 15=marks from rfl]
theorem PZ (c k:Nat) (hk:k<15):(marks.take (k+1)).contains c=((marks.take k).contains c||marks.getD k 0==c):=by
 have hl:k<marks.length:=hk;rw [List.take_succ_eq_append_getElem hl];rw [QL];simp only [List.contains_iff_mem,sN,uF,Bool.or_eq_true,beq_iff_eq];rw [iw,lD hl];simp [eq_comm]
theorem KZ (k:Nat) (hk:k<15) (W:World):(Instr.index 9 (.string {data:=#[33,35,36,37,38,39,42,43,45,46,94,95,96,124,126]}) (.int .i64 (k:Int))).run prog W=.ok (.int .u8 ((marks.getD k 0:Nat):Int)) W:=by
 match k,hk with
 | 0,_=>show _=_;kernel_rfl
 | 1,_=>show _=_;kernel_rfl
 | 2,_=>show _=_;kernel_rfl
 | 3,_=>show _=_;kernel_rfl
 | 4,_=>show _=_;kernel_rfl
 | 5,_=>show _=_;kernel_rfl
 | 6,_=>show _=_;kernel_rfl
 | 7,_=>show _=_;kernel_rfl
 | 8,_=>show _=_;kernel_rfl
 | 9,_=>show _=_;kernel_rfl
 | 10,_=>show _=_;kernel_rfl
 | 11,_=>show _=_;kernel_rfl
 | 12,_=>show _=_;kernel_rfl
 | 13,_=>show _=_;kernel_rfl
 | 14,_=>show _=_;kernel_rfl
theorem EW (s:ByteArray):(bytes s).all vK=true↔∀ j,j<s.size→vK ((bytes s).getD j 0)=true:=by
 rw [NR];constructor
 ·intro h j hj
  rw [← au] at hj;have:=h _ (Hg hj);simpa [iw,lD hj] using this
 ·intro h x hx
  obtain ⟨j,hj,rfl⟩:=QK hx;have:=h j (by rw [← au];exact hj);simpa [iw,lD hj] using this
theorem Jf {s:ByteArray} (k:Nat) (hk:k<s.size) (h:vK ((bytes s).getD k 0)=false):token (bytes s)=false:=by
 rw [Bool.eq_false_iff];intro e;unfold token at e;rw [JG,EW] at e;have:=e.2 k hk;rw [h] at this;cases this
theorem EY {s:ByteArray} (h:∀ j,j<s.size→vK ((bytes s).getD j 0)=true):token (bytes s)=decide (0<s.size):=by
 unfold token;rw [(EW s).2 h,Bool.and_true,← au];cases bytes s<;>simp
set_option maxRecDepth 100000 in
theorem Ld (s:ByteArray) (W:World) (hs:s.size≤maxLen):Calls prog 42 #[.string s] W fun e w'=>e=.returned (.bool (token (bytes s)))∧w'=W:=by
 unfold maxLen at hs;go_enter func42,ntmps42;go_wp2;go_loopw [3] (fun i wr=>∃ k:Nat,k≤s.size∧i=.int .i64 k∧wr=W∧Sl (∀ j,j<k→vK ((bytes s).getD j 0)=true)) (fun i _=>s.size-(intOf i).toNat)
 case atStart=>exact ⟨0,by omega,rfl,rfl,⟨fun j hj=>by omega⟩⟩
 case round =>
  rename World=>W0
  obtain ⟨k,hk,rfl,rfl,HA⟩:=hrel;by_cases bz:k<s.size
  ·obtain ⟨c,hc⟩:=zX ((s[k]'bz).toNat)
   have HC:Sl ((bytes s).getD k 0=c):=⟨by rw [dL s k bz,← hc];rfl⟩;go_upto_region 5 with fail
   go_cut [5] (fun s5 wx=>s5=.bool (jb c)∧W0=wx)
   case first =>
    by_cases a1:97≤c
    ·have a1':(c:Int)≥97:=by omega
     by_cases a2:c≤122
     ·have a2':(c:Int)≤122:=by omega
      have e:jb c=true:=by unfold jb;simp [a1,a2]
      go_wp2_with fail;go_meet;exact ⟨by rw [e],rfl⟩
     ·have a2':((c:Int)≤122)=False:=by simp;omega
      have a3':(c:Int)≥65:=by omega
      have a4':((c:Int)≤90)=False:=by simp;omega
      have a5':(c:Int)≥48:=by omega
      have a6':((c:Int)≤57)=False:=by simp;omega
      have e:jb c=false:=by unfold jb;simp;omega
      go_wp2_with fail;go_meet;exact ⟨by rw [e],rfl⟩
    ·have a1':((c:Int)≥97)=False:=by simp;omega
     by_cases a3:65≤c
     ·have a3':(c:Int)≥65:=by omega
      by_cases a4:c≤90
      ·have a4':(c:Int)≤90:=by omega
       have e:jb c=true:=by unfold jb;simp [a3,a4]
       go_wp2_with fail;go_meet;exact ⟨by rw [e],rfl⟩
      ·have a4':((c:Int)≤90)=False:=by simp;omega
       have a5':(c:Int)≥48:=by omega
       have a6':((c:Int)≤57)=False:=by simp;omega
       have e:jb c=false:=by unfold jb;simp;omega
       go_wp2_with fail;go_meet;exact ⟨by rw [e],rfl⟩
     ·have a3':((c:Int)≥65)=False:=by simp;omega
      by_cases a5:48≤c
      ·have a5':(c:Int)≥48:=by omega
       by_cases a6:c≤57
       ·have a6':(c:Int)≤57:=by omega
        have e:jb c=true:=by unfold jb;simp [a5,a6]
        go_wp2_with fail;go_meet;exact ⟨by rw [e],rfl⟩
       ·have a6':((c:Int)≤57)=False:=by simp;omega
        have e:jb c=false:=by unfold jb;simp;omega
        go_wp2_with fail;go_meet;exact ⟨by rw [e],rfl⟩
      ·have a5':((c:Int)≥48)=False:=by simp;omega
       have e:jb c=false:=by unfold jb;simp;omega
       go_wp2_with fail;go_meet;exact ⟨by rw [e],rfl⟩
   case rest =>
    obtain ⟨rfl,rfl⟩:=hcut;go_wp2;go_loopw [6,5] (fun i o wr=>∃ m:Nat,m≤15∧i=.int .i64 m∧o=.bool (jb c||(marks.take m).contains c)∧wr=W0) (fun i _ _=>15-(intOf i).toNat)
    case atStart=>exact ⟨0,by omega,rfl,by simp,rfl⟩
    case round =>
     obtain ⟨m,hm,rfl,rfl,rfl⟩:=hrel;by_cases hlm:m<15
     ·have mR:=KZ m hlm
      have ht:=PZ c m hlm;obtain ⟨x,hx⟩:=zX (marks.getD m 0);rw [hx] at mR ht;obtain ⟨b,hb⟩:=zX (jb c||(marks.take m).contains c);have HT:Sl ((jb c||(marks.take (m+1)).contains c)=(b||x==c)):=⟨by rw [ht,← Bool.or_assoc,hb]⟩;rw [hb];clear ht hx;cases Pk:b with
      | true =>
        rw [Pk] at HT;go_wp2;refine ⟨⟨m+1,by omega,by go_num,by rw [HT.ah];rfl,trivial⟩,by simp [intOf];omega⟩
      | false =>
        rw [Pk] at HT;by_cases Pw:x=c
        ·have afa:((x:Int)==(c:Int))=true:=by simp [Pw]
         go_wp2;refine ⟨⟨m+1,by omega,by go_num,by rw [HT.ah];simp [Pw],trivial⟩,by simp [intOf];omega⟩
        ·have afa:((x:Int)==(c:Int))=false:=by simp;omega
         go_wp2;refine ⟨⟨m+1,by omega,by go_num,by rw [HT.ah];simp [Pw],trivial⟩,by simp [intOf];omega⟩
     ·have eg:((m:Int)<15)=False:=by simp;omega
      obtain rfl:m=15:=by omega
      obtain ⟨b,hb⟩:=zX (jb c||(marks.take 15).contains c);have HT:Sl (vK c=b):=⟨by rw [V6,hb]⟩;rw [hb];cases Pk:b with
      | true =>
        rw [Pk] at HT;go_wp2;refine ⟨⟨k+1,by omega,by go_num,trivial,⟨fun j hj=>?_⟩⟩,by simp [intOf];omega⟩;by_cases e:j=k
        ·subst e;rw [HC.ah];exact HT.ah
        ·exact HA.ah j (by omega)
      | false =>
        rw [Pk] at HT;go_wp2;go_ret;exact ⟨bF (Jf k bz (by rw [HC.ah];exact HT.ah)).symm,rfl⟩
  ·have eg:((k:Int)<(s.size:Int))=False:=by simp;omega
   have HT:Sl (token (bytes s)=decide (0<s.size)):=⟨EY (fun j hj=>HA.ah j (by omega))⟩;by_cases h0:0<s.size
   ·have YB:(s.size:Int)>0:=by omega
    go_wp2;go_ret;exact ⟨bF (by rw [HT.ah];simp [h0]),rfl⟩
   ·have YB:((s.size:Int)>0)=False:=dR (by omega)
    go_wp2;go_ret;exact ⟨bF (by rw [HT.ah];simp [h0]),rfl⟩
end Go.Proofs.YtlahonjmfecikaaGreatDoor
namespace iY
def qo (p:List Nat):List Nat:=p.takeWhile (fun x=>x != 63)
theorem lq (x:Nat) (l:List Nat):qo (x :: l)=if x=63 then [] else x :: qo l:=by
 unfold qo;rw [List.takeWhile_cons];by_cases h:x=63<;>simp [h]
theorem qp (p:List Nat):qo p=p.take (qo p).length:=by
 induction p with
 | nil=>rfl
 | cons x l ih =>
   rw [lq];split
   ·rfl
   ·rw [jE,yB,← ih]
theorem GU (p:List Nat):∀ x∈qo p,x≠63:=by
 induction p with
 | nil=>exact fun x hx=>absurd hx pJ
 | cons y l ih =>
   intro x hx;rw [lq] at hx;by_cases h:y=63
   ·rw [if_pos h] at hx;exact absurd hx pJ
   ·rw [if_neg h] at hx
    rcases DN.1 hx with rfl | hx
    ·exact h
    ·exact ih x hx
theorem xO (p:List Nat) (h:(qo p).length<p.length):p.getD (qo p).length 0=63:=by
 induction p with
 | nil=>simp at h
 | cons x l ih =>
   rw [lq] at h ⊢;by_cases hx:x=63
   ·rw [if_pos hx] at h ⊢;simpa using hx
   ·rw [if_neg hx] at h ⊢
    rw [jE] at h ⊢;have:=ih (by simpa using h);simpa using this
end iY
namespace Go.Proofs.YtlahonjmfecikaaGreatDoor.bP
open Go.RowKit Go.WideShapes Go.ChangeShapes
section
variable {v:Value} {W:World} {a:Option Addr} {b c:ByteArray}
structure Rb where
 pre:ByteArray
 rA:ByteArray
 dst:ByteArray
def uI:Rb:=⟨ByteArray.empty,ByteArray.empty,ByteArray.empty⟩
def rc (r:Rb):List Value:=[.string r.pre,.string r.rA,.string r.dst]
theorem V5 (e:Rb) (j:Nat) (hj:j<3):∃ u,(rc e)[j]? = some u:=⟨_,lD (by simpa [rc] using hj)⟩
def ja (W:World) (v:Value) (es:List Rb):Prop :=
 ∃ (a:Option Addr) (cap sb so:Nat),v=.slice a es.length cap∧es.length≤cap∧(0<es.length→a=some ⟨sb,so,none⟩)∧∀ i,i<es.length→∀ j,j<3→W.cell? ⟨sb,so+i*3+j,none⟩=(rc (es.getD i uI))[j]?
theorem ja.below {w w':World} {es:List Rb} (h:ja w v es) (hb:Below w.heap.size w w'):ja w' v es:=by
 obtain ⟨a,cap,sb,so,h1,hc,h3,h4⟩:=h;refine ⟨a,cap,sb,so,h1,hc,h3,fun i hi j hj=>?_⟩;have g:=h4 i hi j hj;obtain ⟨u,hu⟩:=V5 (es.getD i uI) j hj;rw [hu] at g ⊢;have k0:=zk g;rw [hb.cell (p:=⟨sb,so+i*3+j,none⟩) k0];exact g
theorem ja.slice {es:List Rb} (h:ja W v es):∃ a c,v=.slice a es.length c:=by
 obtain ⟨a,c,_,_,rfl,_⟩:=h;exact ⟨a,c,rfl⟩
theorem ja.cap {n cap:Nat} {es:List Rb} (h:ja W (.slice a n cap) es):n=es.length∧n≤cap∧(0<n→∃ sb so,a=some ⟨sb,so,none⟩):=by
 obtain ⟨a',fd,xz,xD,he,hc,h3,_⟩:=h;injection he with e1 e2 e3
 refine ⟨e2,by omega,fun hp=>⟨xz,xD,?_⟩⟩;rw [e1];exact h3 (by omega)
theorem ja.VW {sb so n cap:Nat} {es:List Rb} (h:ja W (.slice (some ⟨sb,so,none⟩) n cap) es) (i:Nat) (hi:i<es.length) {a:ByteArray} (he:es.getD i uI=⟨a,b,c⟩) :
 W.cell? ⟨sb,so+i*3,none⟩=some (.string a)∧W.cell? ⟨sb,so+i*3+1,none⟩=some (.string b)∧W.cell? ⟨sb,so+i*3+2,none⟩=some (.string c):=by
 obtain ⟨a',fd,xz,xD,hs,_,h3,h4⟩:=h;injection hs with e1 e2 e3
 rw [h3 (by omega)] at e1;injection e1 with e1
 injection e1 with e4 e5
 subst e4 e5;have g:=h4 i hi;rw [he] at g;exact ⟨g 0 (by decide),g 1 (by decide),g 2 (by decide)⟩
theorem ja.to {n cap k c:Nat} {es:List Rb} (h:ja W (.slice a n cap) es) (hk:k≤n) (hc:k≤c):ja W (.slice a k c) (es.take k):=by
 obtain ⟨a',c',sb,so,he,h1,h2,h3⟩:=h;injection he with e1 e2 e3
 subst e1 e2 e3;have hl:(es.take k).length=k:=by rw [kQ];omega
 refine ⟨a,c,sb,so,by rw [hl],by rw [hl];omega,fun hp=>h2 (by rw [hl] at hp;omega),fun i hi j hj=>?_⟩;rw [hl] at hi;rw [h3 i (by omega) j hj];congr 2;rw [iw,iw,NP hi]
theorem Nk {cs:Array Value} (h:cs.size=3):(prog.info? 72).map (·.size)=some cs.size:=by rw [h];kernel_rfl
theorem Ud (a b c:ByteArray):(#[.string a,.string b,.string c]:Array Value).all (·.oneCell')=true:=by simp [Value.oneCell']
def uQ (a b c a' b' c':ByteArray):Bool:=(a.toList==a'.toList)&&((b.toList==b'.toList)&&(c.toList==c'.toList))
theorem Xb (a b c a' b' c':ByteArray) (W:World):(Op.equalIn 10000 72 (.agg #[.string a,.string b,.string c]) (.agg #[.string a',.string b',.string c'])).run prog W=.ok (uQ a b c a' b' c') W:=by
 have hp:prog.stoodInHeld 72=false:=by kernel_rfl
 have hu:prog.underlying 72=some (.struct (prog.fieldsOf 72)):=by kernel_rfl
 have hf : (prog.fieldsOf 72).toList = [⟨"Prefix", 9, 0, false, "", "", 0⟩, ⟨"Protocol", 9, 1, false, "", "", 16⟩, ⟨"To", 9, 2, false, "", "", 32⟩] := by kernel_rfl
 rw [run_equalIn_struct W 9999 72 _ _ hu hp,hf];have e9:∀ (p q:ByteArray) (w:World),(Op.equalIn 9999 9 (.string p) (.string q)).run prog w=.ok (p.toList==q.toList) w:=fun p q w=>run_equalIn_string w 9998 9 p q underlying9
 have p0:∀ (o c:ByteArray) (s:ByteArray) (w:World),(part 9 #[.string o,.string c,.string s] 0).run prog w=.ok (.string o) w:=fun o c s w=>by kernel_rfl
 have p1:∀ (o c:ByteArray) (s:ByteArray) (w:World),(part 9 #[.string o,.string c,.string s] 1).run prog w=.ok (.string c) w:=fun o c s w=>by kernel_rfl
 have p2:∀ (o c:ByteArray) (s:ByteArray) (w:World),(part 9 #[.string o,.string c,.string s] 2).run prog w=.ok (.string s) w:=fun o c s w=>by kernel_rfl
 have n0 : ("Prefix" ≠ "_") = True := eq_true (by decide);have n1 : ("Protocol" ≠ "_") = True := eq_true (by decide);have n2 : ("To" ≠ "_") = True := eq_true (by decide);unfold uQ;cases h0:(a.toList==a'.toList)<;>cases h1:(b.toList==b'.toList)<;>cases h2:(c.toList==c'.toList)<;>
  simp only [Op.eqFields,n0,n1,n2,if_true,rE,Sem.run_pure,Sem.run_ite,p0,p1,p2,e9,h0,h1,h2,Result.andThen_ok,Bool.not_true,Bool.not_false,UM,if_false,JF,Dz,Bool.and_true]
theorem Ue (W:World):∃ V,W.alloc (.cells #[.string {data:=#[]},.string {data:=#[]},.string {data:=#[]}] 72)=V∧Sl (Below W.heap.size W V)∧V.heap[W.heap.size]? = some (.cells #[.string {data:=#[]},.string {data:=#[]},.string {data:=#[]}] 72 (0,0)) :=
 ⟨_,rfl,⟨(dW _ _).alloc (aY _) _⟩,aI _ _ _ rfl⟩
theorem Uf {g:Nat} {B:Nat} {w0:World} {c0:Array Value} (h:W.heap[g]? = some (.cells c0 72 (0,0))) (hB:Below B w0 W) (hb:B≤g) (cs:Array Value):∃ V,W.setRow g cs=V∧Sl (Below B w0 V)∧Sl (V.heap[g]? = some (.cells cs 72 (0,0))) :=
 ⟨_,rfl,⟨below_setRow hB hb _⟩,⟨gY _ _ _ _ _ _ h⟩⟩
theorem lW {g:Nat} {a:ByteArray} {t:TypeId} (h:W.heap[g]? = some (.cells #[.string a,.string b,.string c] t (0,0))):W.cell? ⟨g,0,none⟩=some (.string a)∧W.cell? ⟨g,1,none⟩=some (.string b)∧W.cell? ⟨g,2,none⟩=some (.string c):=by
 refine ⟨?_,?_,?_⟩<;>(rw [jg _ _ _ _ _ _ h];rfl)
structure xP (r:Rb):Prop where
 p:r.pre.size≤maxLen
 q:r.rA.size≤maxLen
 t:r.dst.size≤maxLen
theorem ZL {α:Type} {l:List α} (h:l.length=3):∃ a b c,l=[a,b,c] :=
 match l,h with
 | [a,b,c],_=>⟨a,b,c,rfl⟩
theorem xK:type_of% @Go.Proofs.YtlahonjmfecikaaGreatDoor.KU.xK:=@Go.Proofs.YtlahonjmfecikaaGreatDoor.KU.xK
theorem KY {H:Type} {enc:TypeId×Value→H} {base fuel:Nat} {sp:Nat→Bool} {eU:Bool} {cs:List Value} {x:DataW H×List MemPlace}
 (hf:DataW.trod enc prog W base sp eU fuel 72 cs=some x):∃ e,cs=rc e∧xP e:=by
 obtain ⟨xs,n,_,hx,hl,RO,hf⟩:=DataW.trod_struct underlying72 hf;have c9:prog.cellsOf 9=1:=by kernel_rfl
 have cf:prog.cellsOf 72=3:=by kernel_rfl
 rw [cf] at hl
 match xs,RO with
 | [y0,y1,y2],_ =>
   have h0:DataW.trod enc prog W base sp eU n 9 ((cs.drop 0).take (prog.cellsOf 9))=some y0:=hf 0 _ rfl;have h1:DataW.trod enc prog W base sp eU n 9 ((cs.drop 1).take (prog.cellsOf 9))=some y1:=hf 1 _ rfl;have h2:DataW.trod enc prog W base sp eU n 9 ((cs.drop 2).take (prog.cellsOf 9))=some y2:=hf 2 _ rfl;obtain ⟨a0,a1,a2,cU⟩:=ZL hl;rw [cU] at h0 h1 h2;rw [c9] at h0 h1 h2;simp only [Af,WY,yB,QH] at h0 h1 h2;obtain ⟨f0,g0,_,w0⟩:=DataW.trod_string underlying9 h0;obtain ⟨f1,g1,_,w1⟩:=DataW.trod_string underlying9 h1;obtain ⟨f2,g2,_,w2⟩:=DataW.trod_string underlying9 h2;simp only [List.cons.injEq,and_true] at g0 g1 g2;subst g0 g1 g2;exact ⟨⟨f0,f1,f2⟩,cU,w0,w1,w2⟩
theorem D6 {H:Type} {enc:TypeId×Value→H} {ad:Option Addr} {len cap:Nat} {d:DataW H} {p:List MemPlace} (h:DataW.Trod enc prog W 0 (fun _=>true) true 22 (.slice ad len cap) d p) :
 ∃ l,ja W (.slice ad len cap) l∧(∀ e∈l,xP e)∧l.length≤maxLen:=by
 obtain ⟨fuel,hf⟩:=h;have cf:prog.cellsOf 72=3:=by kernel_rfl
 rcases DataW.trod_slice underlying22 hf with ⟨cU,_⟩ | ⟨a,ZM,fd,el,rest,n,_,cU,_,hb,hl,hm,hz,bL,_⟩
 ·simp [Value.cells] at cU
  obtain ⟨rfl,rfl,rfl⟩:=cU;exact ⟨[],⟨none,0,0,0,rfl,by simp,fun h=>by simp at h,fun i hi=>by simp at hi⟩,fun f hf=>by simp at hf,by simp⟩
 ·simp [Value.cells] at cU
  obtain ⟨rfl,rfl,rfl⟩:=cU;rw [cf] at bL;have gO:∀ i,i<len→∃ x,el[i]? = some x:=fun i hi=>⟨el[i]'(by omega),lD (by omega)⟩
  by_cases h0:len=0
  ·subst h0
   exact ⟨[],⟨some a,cap,0,0,rfl,by simp,fun h=>by simp at h,fun i hi=>by simp at hi⟩,fun f hf=>by simp at hf,by simp⟩
  ·have li:a.spot=none:=by
    obtain ⟨x,hx⟩:=gO 0 (by omega);have hc:=bL 0 (by omega);rw [hx,Option.bind_eq_some_iff] at hc;obtain ⟨cs,cU,_⟩:=hc;obtain ⟨_,bt,RT⟩:=World.cells?_some cU;have:=RT 0 (by omega);rw [lD (by omega)] at this;simpa [Addr.add] using World.cell?_spot this
   obtain ⟨b,off,spot⟩:=a;simp only at li;subst li;obtain ⟨l,un,hp⟩:=xK uI len (fun i e=>xP e∧∀ j,j<3→W.cell? ⟨b,off+i*3+j,none⟩=(rc e)[j]?) (fun i hi=>by
    obtain ⟨x,hx⟩:=gO i hi;have hc:=bL i hi;rw [hx,DD,Option.bind_eq_some_iff] at hc;obtain ⟨cs,cU,hd⟩:=hc;obtain ⟨_,bt,RT⟩:=World.cells?_some cU;obtain ⟨e,he,ep⟩:=KY hd;subst he;refine ⟨e,ep,fun j hj=>?_⟩;have:=RT j hj;rw [DD] at this;exact this)
   refine ⟨l,⟨some ⟨b,off,none⟩,cap,b,off,by rw [un],by rw [un];omega,fun _=>rfl,fun i hi=>(hp i (by omega)).2⟩,fun e he=>?_,by rw [un];omega⟩;obtain ⟨i,hi,rfl⟩:=QK he;have:=(hp i (by omega)).1;rwa [iw,lD hi] at this
end
end Go.Proofs.YtlahonjmfecikaaGreatDoor.bP
namespace Go.Proofs
open Go.Shelf
def Tryz.lays137_ren:Go.Shelf.Ren:=⟨fun | 137=>154 | 217=>168 | 266=>177 | n=>n,fun | 9=>9 | 5=>5 | 3=>3 | n=>n,fun | n=>n⟩
theorem Tryz.lays137:Go.Proofs.Lays.n137 prog Tryz.lays137_ren:={
 mixed:=by kernel_rfl
 f137:=func154.trans (lG some (by kernel_rfl))
 f217:=func168.trans (lG some (by kernel_rfl))
 f266:=func177.trans (lG some (by kernel_rfl))
 t3:=underlying3
 a3:=Tryz.isAgg3
 z3:=Tryz.sizeOf3
 v3:=Tryz.zeroValue3
 t5:=underlying5
 a5:=Tryz.isAgg5
 z5:=Tryz.sizeOf5
 v5:=Tryz.zeroValue5
 t9:=underlying9
 a9:=Tryz.isAgg9
 z9:=Tryz.sizeOf9
 v9:=Tryz.zeroValue9}
open Go.RowKit in
theorem Tryz.strings_IndexByte (s:ByteArray) (c:Int) (w:World) :
 Calls prog 154 #[.string s,.int .u8 c] w fun e w'=>e=.returned (.int .i64 (Lib.indexByte s.data.toList c.toNat.toUInt8))∧w'=w:=Any.strings_IndexByte Tryz.lays137 s c w
def Tryz.lays144_ren:Go.Shelf.Ren:=⟨fun | 144=>129 | 143=>153 | 219=>167 | 217=>168 | 225=>174 | 224=>175 | 267=>176 | 266=>177 | 314=>179 | n=>n,fun | 9=>9 | 4=>4 | 3=>3 | 5=>5 | 46=>150 | 146=>222 | 51=>26 | n=>n,fun | 1=>2 | n=>n⟩
theorem Tryz.lays144:Go.Proofs.Lays.n144 prog Tryz.lays144_ren:={
 mixed:=by kernel_rfl
 f143:=func153.trans (lG some (by kernel_rfl))
 f144:=func129.trans (lG some (by kernel_rfl))
 f217:=func168.trans (lG some (by kernel_rfl))
 f219:=func167.trans (lG some (by kernel_rfl))
 f224:=func175.trans (lG some (by kernel_rfl))
 f225:=func174.trans (lG some (by kernel_rfl))
 f266:=func177.trans (lG some (by kernel_rfl))
 f267:=func176.trans (lG some (by kernel_rfl))
 f314:=func179.trans (lG some (by kernel_rfl))
 t3:=underlying3
 a3:=Tryz.isAgg3
 z3:=Tryz.sizeOf3
 v3:=Tryz.zeroValue3
 t4:=underlying4
 a4:=Tryz.isAgg4
 z4:=Tryz.sizeOf4
 v4:=Tryz.zeroValue4
 t5:=underlying5
 a5:=Tryz.isAgg5
 z5:=Tryz.sizeOf5
 v5:=Tryz.zeroValue5
 t9:=underlying9
 a9:=Tryz.isAgg9
 z9:=Tryz.sizeOf9
 v9:=Tryz.zeroValue9
 t46:=underlying150
 a46:=Tryz.isAgg150
 z46:=Tryz.sizeOf150
 v46:=Tryz.zeroValue150
 t51:=underlying26
 a51:=Tryz.isAgg26
 z51:=Tryz.sizeOf26
 v51:=Tryz.zeroValue26
 t146:=underlying222
 a146:=Tryz.isAgg222
 z146:=Tryz.sizeOf222
 v146:=Tryz.zeroValue222
 g1:=by kernel_rfl}
open Go.RowKit Go.Lib in
theorem Tryz.strings_Contains_one (s:ByteArray) (c:UInt8) (w:World) :
 Calls prog 129 #[.string s,.string ⟨#[c]⟩] w fun e w'=>e=.returned (.bool (decide (0≤Lib.indexByte s.data.toList c)))∧w'=w:=Any.strings_Contains_one Tryz.lays144 s c w
def Tryz.lays99_ren:Go.Shelf.Ren:=⟨fun | 99=>127 | 206=>152 | n=>n,fun | 9=>9 | 4=>4 | 3=>3 | n=>n,fun | n=>n⟩
theorem Tryz.lays99:Go.Proofs.Lays.n99 prog Tryz.lays99_ren:={
 mixed:=by kernel_rfl
 f99:=func127.trans (lG some (by kernel_rfl))
 f206:=func152.trans (lG some (by kernel_rfl))
 t3:=underlying3
 a3:=Tryz.isAgg3
 z3:=Tryz.sizeOf3
 v3:=Tryz.zeroValue3
 t4:=underlying4
 a4:=Tryz.isAgg4
 z4:=Tryz.sizeOf4
 v4:=Tryz.zeroValue4
 t9:=underlying9
 a9:=Tryz.isAgg9
 z9:=Tryz.sizeOf9
 v9:=Tryz.zeroValue9}
open Go.RowKit Go.Lib in
theorem Tryz.strings_HasPrefix (s p:ByteArray) (w:World) :
 Calls prog 127 #[.string s,.string p] w fun e w'=>e=.returned (.bool (Lib.hasPrefix s.data.toList p.data.toList))∧w'=w:=Any.strings_HasPrefix Tryz.lays99 s p w
def Tryz.laysM144_ren:Go.Shelf.Ren:=⟨fun | 144=>129 | 143=>153 | 219=>167 | 217=>168 | 225=>174 | 224=>175 | 267=>176 | 266=>177 | 314=>179 | n=>n,fun | 9=>9 | 4=>4 | 3=>3 | 5=>5 | 46=>150 | 146=>222 | 51=>26 | n=>n,fun | 1=>2 | n=>n⟩
theorem Tryz.laysM144:Go.Proofs.LaysM.n144 prog Tryz.laysM144_ren:={
 mixed:=by kernel_rfl
 f143:=func153.trans (lG some (by kernel_rfl))
 f144:=func129.trans (lG some (by kernel_rfl))
 f217:=func168.trans (lG some (by kernel_rfl))
 f219:=func167.trans (lG some (by kernel_rfl))
 f224:=func175.trans (lG some (by kernel_rfl))
 f225:=func174.trans (lG some (by kernel_rfl))
 f266:=func177.trans (lG some (by kernel_rfl))
 f267:=func176.trans (lG some (by kernel_rfl))
 f314:=func179.trans (lG some (by kernel_rfl))
 t3:=underlying3
 a3:=Tryz.isAgg3
 z3:=Tryz.sizeOf3
 v3:=Tryz.zeroValue3
 t4:=underlying4
 a4:=Tryz.isAgg4
 z4:=Tryz.sizeOf4
 v4:=Tryz.zeroValue4
 t5:=underlying5
 a5:=Tryz.isAgg5
 z5:=Tryz.sizeOf5
 v5:=Tryz.zeroValue5
 t9:=underlying9
 a9:=Tryz.isAgg9
 z9:=Tryz.sizeOf9
 v9:=Tryz.zeroValue9
 t46:=underlying150
 a46:=Tryz.isAgg150
 z46:=Tryz.sizeOf150
 v46:=Tryz.zeroValue150
 t51:=underlying26
 a51:=Tryz.isAgg26
 z51:=Tryz.sizeOf26
 v51:=Tryz.zeroValue26
 t146:=underlying222
 a146:=Tryz.isAgg222
 z146:=Tryz.sizeOf222
 v146:=Tryz.zeroValue222
 g1:=by kernel_rfl
 i3:=by kernel_rfl
 i4:=by kernel_rfl
 i5:=by kernel_rfl
 i9:=by kernel_rfl
 i46:=by kernel_rfl
 i51:=by kernel_rfl
 i146:=by kernel_rfl
 m1:=by kernel_rfl
 s1_3:=fun w h=>Go.Proofs.cell_of_shapedOpen_int (zero:=#[.int .i64 0]) (t:=3) h (QE (by kernel_rfl)) (by kernel_rfl) rfl (by kernel_rfl) (by kernel_rfl) underlying3}
end Go.Proofs
namespace Go.Proofs.YtlahonjmfecikaaGreatDoor
open Go.RowKit fM
section
variable {c:Nat}
theorem EZ (c:Nat):vK c=(jb c||marks.contains c):=rfl
theorem Le (k:Nat) (hk:k<3) (W:World):(Instr.index 200 (.agg Je.toArray) (.int .i64 (k:Int))).run prog W=.ok (.agg #[.int .u8 ((([97,65,48]:List Nat).getD k 0:Nat):Int),.int .u8 ((([122,90,57]:List Nat).getD k 0:Nat):Int)]) W:=by
 match k,hk with
 | 0,_=>show _=_;kernel_rfl
 | 1,_=>show _=_;kernel_rfl
 | 2,_=>show _=_;kernel_rfl
def Ug (c k:Nat):Prop:=∀ j,j<k→¬ (([97,65,48]:List Nat).getD j 0≤c∧c≤([122,90,57]:List Nat).getD j 0)
theorem GV (h:Ug c 3):jb c=false:=by
 have h0:=h 0 (by decide);have h1:=h 1 (by decide);have h2:=h 2 (by decide);simp only [Dx,List.getD_cons_succ] at h0 h1 h2;unfold jb;simp only [Xk,Bool.and_eq_false_iff,JI];omega
theorem Uh {k:Nat} (hk:k<3) (h:([97,65,48]:List Nat).getD k 0≤c∧c≤([122,90,57]:List Nat).getD k 0):jb c=true:=by
 unfold jb;simp only [Bool.or_eq_true,JG,Ap]
 match k,hk with
 | 0,_=>simp at h;omega
 | 1,_=>simp at h;omega
 | 2,_=>simp at h;omega
set_option maxRecDepth 100000 in
theorem P4 (s:ByteArray) (W:World) (hg:bD W) (hs:s.size≤maxLen):Calls prog 130 #[.string s] W fun e w'=>e=.returned (.bool (token (bytes s)))∧Sl (Below W.heap.size W w'):=by
 unfold maxLen at hs;have HG:=Sl.mk hg;clear hg;have afb:Sl ((prog.info? 200).map (·.size)=some Je.length):=⟨by kernel_rfl⟩;go_enter func130,ntmps130;go_wp2;go_step3
 go_wp2;go_step3
 go_wp2;go_loopw [8] (fun i wr=>∃ k:Nat,k≤s.size∧i=.int .i64 k∧Sl (Below W.heap.size W wr)∧Sl (∀ j,j<k→vK ((bytes s).getD j 0)=true)) (fun i _=>s.size-(intOf i).toNat)
 case atStart=>exact ⟨0,by omega,rfl,⟨dW _ _⟩,⟨fun j hj=>by omega⟩⟩
 case round =>
  rename World=>W0
  obtain ⟨k,hk,rfl,HB,HA⟩:=hrel;by_cases bz:k<s.size
  ·obtain ⟨c,hc⟩:=zX ((s[k]'bz).toNat)
   have HC:Sl ((bytes s).getD k 0=c):=⟨by rw [dL s k bz,← hc];rfl⟩;have dE:Sl (bD W0):=⟨HG.ah.of HB.ah⟩;go_wp2_with (first | (refine wpList_load_mid rfl 200 (.global 0) rfl 0 0 rfl Je (.array 3 199) dE.ah.t underlying200 rfl afb.ah ?_))
   have vx:Sl (∀ V:World,Calls prog 154 #[.string {data:=#[33,35,36,37,38,39,42,43,45,46,94,95,96,124,126]},.int .u8 (c:Int)] V fun e w'=>e=.returned (.int .i64 (Lib.indexByte [33,35,36,37,38,39,42,43,45,46,94,95,96,124,126] (c:Int).toNat.toUInt8))∧w'=V):=⟨fun V=>Tryz.strings_IndexByte _ _ V⟩;obtain ⟨z,hz⟩:=zX (Lib.indexByte [33,35,36,37,38,39,42,43,45,46,94,95,96,124,126] (c:Int).toNat.toUInt8);have ie:c<256:=by rw [← hc];exact NS _
   have HZ:Sl (decide (z<0)=!marks.contains c):=⟨by
    rw [← hz,D7];rw [show ((c:Int).toNat.toUInt8).toNat=c from by rw [Int.toNat_natCast];exact UInt8.toNat_ofNat_of_lt' ie];rfl⟩
   rw [hz] at vx;clear hz;go_loopw [12] (fun i wr=>∃ m:Nat,m≤3∧i=.int .i64 m∧Sl (Below W.heap.size W wr)∧Sl (Ug c m)) (fun i _=>3-(intOf i).toNat)
   case atStart=>exact ⟨0,by omega,rfl,HB,⟨fun j hj=>by omega⟩⟩
   case round =>
    obtain ⟨m,hm,rfl,bk,HS⟩:=hrel;by_cases hlm:m<3
    ·have mR:=Le m hlm
     obtain ⟨x,hx⟩:=zX (([97,65,48]:List Nat).getD m 0);obtain ⟨y,hy⟩:=zX (([122,90,57]:List Nat).getD m 0);have iu:Sl (([97,65,48]:List Nat).getD m 0=x∧([122,90,57]:List Nat).getD m 0=y):=⟨hx,hy⟩;rw [hx,hy] at mR;clear hx hy;by_cases h1:x≤c
     ·have rj:decide ((x:Int)≤(c:Int))=true:=iG (by omega)
      by_cases h2:c≤y
      ·have xf:decide ((c:Int)≤(y:Int))=true:=iG (by omega)
       have HSP:Sl (jb c=true):=⟨Uh hlm (by rw [iu.ah.1,iu.ah.2];exact ⟨h1,h2⟩)⟩;have At:Sl (vK c=true):=⟨by rw [EZ,HSP.ah];rfl⟩;go_wp2;go_quiet (fail)
       go_wp2;refine ⟨⟨k+1,by omega,by go_num,⟨?_⟩,⟨fun j hj=>?_⟩⟩,by simp [intOf];omega⟩
       ·exact ((bk.ah.alloc bk.ah.size _).trans ((jf.below ⟨_,rfl⟩).mono (by rw [aP];have:=bk.ah.size;omega)))
       ·by_cases e:j=k
        ·subst e;rw [HC.ah];exact At.ah
        ·exact HA.ah j (by omega)
      ·have xf:decide ((c:Int)≤(y:Int))=false:=iQ (by omega)
       go_wp2;go_quiet (fail)
       go_wp2;refine ⟨⟨m+1,by omega,by go_num,⟨?_⟩,⟨fun j hj=>?_⟩⟩,by simp [intOf];omega⟩
       ·exact ((bk.ah.alloc bk.ah.size _).trans ((jf.below ⟨_,rfl⟩).mono (by rw [aP];have:=bk.ah.size;omega)))
       ·by_cases e:j=m
        ·subst e;rw [iu.ah.1,iu.ah.2];omega
        ·exact HS.ah j (by omega)
     ·have rj:decide ((x:Int)≤(c:Int))=false:=iQ (by omega)
      go_wp2;go_quiet (fail)
      go_wp2;refine ⟨⟨m+1,by omega,by go_num,⟨?_⟩,⟨fun j hj=>?_⟩⟩,by simp [intOf];omega⟩
      ·exact ((bk.ah.alloc bk.ah.size _).trans ((jf.below ⟨_,rfl⟩).mono (by rw [aP];have:=bk.ah.size;omega)))
      ·by_cases e:j=m
       ·subst e;rw [iu.ah.1,iu.ah.2];omega
       ·exact HS.ah j (by omega)
    ·have eg:((m:Int)<3)=False:=dR (by omega)
     have HSP:Sl (jb c=false):=⟨by
      obtain rfl:m=3:=by omega
      exact GV HS.ah⟩
     have At:Sl (vK c=marks.contains c):=⟨by rw [EZ,HSP.ah];rfl⟩;by_cases ic:z<0
     ·have HTF:Sl (vK c=false):=⟨by
       have:=HZ.ah;rw [iG ic] at this;rw [At.ah];cases h:marks.contains c with
       | false=>rfl
       | true=>rw [h] at this;cases this⟩
      go_wp2_with fail
      refine (vx.ah _).mono ?_;rintro e w2 ⟨rfl,rfl⟩;go_wp2;rw [Exit.noGoto_ret];go_ret;exact ⟨bF (Jf k bz (by rw [HC.ah];exact HTF.ah)).symm,bk⟩
     ·have HTF:Sl (vK c=true):=⟨by
       have:=HZ.ah;rw [iQ ic] at this;rw [At.ah];cases h:marks.contains c with
       | false=>rw [h] at this;cases this
       | true=>rfl⟩
      go_wp2_with fail
      refine (vx.ah _).mono ?_;rintro e w2 ⟨rfl,rfl⟩;go_wp2;refine ⟨⟨k+1,by omega,by go_num,bk,⟨fun j hj=>?_⟩⟩,by simp [intOf];omega⟩;by_cases e:j=k
      ·subst e;rw [HC.ah];exact HTF.ah
      ·exact HA.ah j (by omega)
  ·have eg:((k:Int)<(s.size:Int))=False:=dR (by omega)
   have HT:Sl (token (bytes s)=decide (0<s.size)):=⟨EY (fun j hj=>HA.ah j (by omega))⟩;have hq:(s.toList==[])=!decide (0<s.size):=by
    rw [nO,← au];cases h:bytes s<;>simp
   by_cases h0:0<s.size
   ·rw [iG h0] at hq HT
    go_wp2;rw [Exit.noGoto_ret];go_ret;exact ⟨bF (by rw [HT.ah]),HB⟩
   ·rw [iQ h0] at hq HT
    go_wp2;rw [Exit.noGoto_ret];go_ret;exact ⟨bF (by rw [HT.ah]),HB⟩
open Go.RowKit fM
open Go.RowKit fM
open Go.RowKit fM
open Go.RowKit fM
open Go.RowKit fM
end
open Go.WideShapes Go.ChangeShapes
theorem G9 {H:Type} {enc:TypeId×Value→H} {W:World} {ad:Option Addr} {len cap:Nat} {d:DataW H} {p:List MemPlace} (h:DataW.Trod enc prog W 0 (fun _=>true) true 23 (.slice ad len cap) d p) :
 ∃ l,Ij W (.slice ad len cap) l∧l.length≤maxLen∧∀ s∈l,s.size≤maxLen:=by
 obtain ⟨fuel,hf⟩:=h;rcases open_strings underlying23 underlying9 (by kernel_rfl) hf with ⟨cU,_⟩ | ⟨a,ZM,fd,ss,cU,_,hl,hm,hz,_,bL,hws⟩
 ·simp [Value.cells] at cU
  obtain ⟨rfl,rfl,rfl⟩:=cU;exact ⟨[],⟨none,0,0,0,rfl,by simp,fun h=>by simp at h,fun i hi=>by simp at hi⟩,by simp,by simp⟩
 ·simp [Value.cells] at cU
  obtain ⟨rfl,rfl,rfl⟩:=cU;have bt:(ss.take len).length=len:=by simp at hz;simp;omega
  have hg:∀ i,i<len→(ss.take len).getD i ByteArray.empty=ss.getD i ByteArray.empty:=fun i hi=>by simp [List.getD,hi]
  refine ⟨ss.take len,⟨some a,cap,a.block,a.off,by rw [bt],by rw [bt];exact hl,fun hp=>?_,fun i hi=>?_⟩,by rw [bt];omega,fun s hs=>hws s (Hf hs)⟩
  ·rw [bt] at hp
   have hc:=bL 0 (by simp at hz;omega);obtain ⟨b,off,spot⟩:=a;have li:spot=none:=by simpa [Addr.add] using World.cell?_spot hc
   rw [li]
  ·rw [bt] at hi
   have hc:=bL i (by simp at hz;omega);obtain ⟨b,off,spot⟩:=a;have li:spot=none:=by simpa [Addr.add] using World.cell?_spot (bL 0 (by simp at hz;omega))
   subst li;rw [DD] at hc;rw [hg i hi,hc]
end Go.Proofs.YtlahonjmfecikaaGreatDoor
namespace Go.Proofs.YtlahonjmfecikaaGreatDoor.bP
open Go.RowKit
open fM (toN)
open iY (qo lq qp xO)
theorem Lh (l:List UInt8):Lib.indexByte l 63=if (qo (l.map (·.toNat))).length<l.length then ((qo (l.map (·.toNat))).length:Int) else -1:=by
 induction l with
 | nil=>rfl
 | cons x r ih =>
   unfold Lib.indexByte;rw [JJ,lq];by_cases h:x=63
   ·subst h;simp
   ·have h2:(x==63)=false:=by rw [mJ];exact h
    have h3:¬ x.toNat=63:=fun e=>h (UInt8.toNat_inj.1 e)
    rw [h2,if_neg (by simp),if_neg h3,ih,jE,jE];by_cases h4:(qo (r.map (·.toNat))).length<r.length
    ·rw [if_pos h4,if_pos (Nat.succ_lt_succ h4)]
     have:(((qo (r.map (·.toNat))).length:Int) == -1)=false:=by rw [mJ];omega
     rw [this];simp
    ·rw [if_neg h4,if_neg (fun h=>h4 (Nat.lt_of_succ_lt_succ h))];rfl
theorem Lj (l:List UInt8):Lib.hasPrefix l [47]=decide ((l.map (·.toNat)).getD 0 0=47):=by
 unfold Lib.hasPrefix;cases l with
 | nil=>rfl
 | cons x r =>
   rw [QL,List.isPrefixOf_iff_prefix,Ap];simp only [JJ,Dx,List.cons_prefix_cons,List.nil_prefix,and_true];exact ⟨fun e=>by rw [← e];rfl,fun e=>(UInt8.toNat_inj.1 e).symm⟩
section
variable {k:Nat} {l:List Nat}
theorem A8 {s:ByteArray} {c:Nat} (hk:k<s.size) (hc:(s[k]'hk).toNat=c):(bytes s).getD k 0=c:=by rw [dL s k hk,← hc];rfl
def oV (l:List Nat):Bool:=l.all fun x=>decide (33≤x)&&decide (x≤126)
theorem A9 (hk:k<l.length) (h:¬ (33≤l.getD k 0∧l.getD k 0≤126)):oV l=false:=by
 unfold oV;rw [List.all_eq_false];refine ⟨l.getD k 0,by rw [iw,lD hk];exact Hg _,?_⟩;simpa using h
theorem Jg (h:∀ k,k<l.length→33≤l.getD k 0∧l.getD k 0≤126):oV l=true:=by
 unfold oV;rw [NR];intro x hx;obtain ⟨k,hk,rfl⟩:=QK hx;have:=h k hk;rw [iw,lD hk] at this;simpa using this
theorem Jh (s:ByteArray) (W:World) (hs:s.size≤maxLen) (r:Bool) (hr:oV (bytes s)=r):Calls prog 128 #[.string s] W fun e w'=>e=.returned (.bool r)∧W=w':=by
 unfold maxLen at hs;have HR:=Sl.mk hr;clear hr;go_enter func128,ntmps128;go_wp2;go_loopw [6] (fun i wr=>∃ k:Nat,k≤s.size∧i=.int .i64 k∧W=wr∧Sl (∀ j,j<k→33≤(bytes s).getD j 0∧(bytes s).getD j 0≤126)) (fun i _=>s.size-(intOf i).toNat)
 case atStart=>exact ⟨0,ku _,rfl,rfl,⟨fun j hj=>by omega⟩⟩
 case round =>
  obtain ⟨k,hk,rfl,rfl,HK⟩:=hrel;by_cases bz:k<s.size
  ·obtain ⟨c,hc⟩:=zX ((s[k]'bz).toNat)
   have HC:=Sl.mk (A8 bz hc);by_cases h1:c<33
   ·have rj:((c:Int)<33)=True:=eq_true (by omega)
    have HF:Sl (r=false):=⟨by rw [← HR.ah];exact A9 (k:=k) (by rw [au];exact bz) (by rw [HC.ah];omega)⟩;go_wp2;go_ret;exact ⟨bF HF.ah.symm,rfl⟩
   ·have rj:((c:Int)<33)=False:=dR (by omega)
    by_cases h2:c>126
    ·have xf:((c:Int)>126)=True:=eq_true (by omega)
     have HF:Sl (r=false):=⟨by rw [← HR.ah];exact A9 (k:=k) (by rw [au];exact bz) (by rw [HC.ah];omega)⟩;go_wp2;go_ret;exact ⟨bF HF.ah.symm,rfl⟩
    ·have xf:((c:Int)>126)=False:=dR (by omega)
     go_wp2;refine ⟨⟨k+1,by omega,by go_num,trivial,⟨fun j hj=>?_⟩⟩,by simp [intOf];omega⟩;by_cases e:j=k
     ·subst e;rw [HC.ah];omega
     ·exact HK.ah j (by omega)
  ·have eg:((k:Int)<(s.size:Int))=False:=dR (by omega)
   have HT:Sl (r=true):=⟨by rw [← HR.ah];exact Jg (fun j hj=>HK.ah j (by rw [au] at hj;omega))⟩;go_wp2;go_ret;exact ⟨bF HT.ah.symm,rfl⟩
def oH (l:List Nat):Bool:=oV l&&decide (0<l.length)
theorem Ll (s:ByteArray) (W:World) (hs:s.size≤maxLen) (r:Bool) (hr:oH (bytes s)=r):Calls prog 41 #[.string s] W fun e w'=>e=.returned (.bool r)∧W=w':=by
 unfold maxLen at hs;have HR:=Sl.mk hr;clear hr;go_enter func41,ntmps41;go_wp2;go_loopw [3] (fun i wr=>∃ k:Nat,k≤s.size∧i=.int .i64 k∧W=wr∧Sl (∀ j,j<k→33≤(bytes s).getD j 0∧(bytes s).getD j 0≤126)) (fun i _=>s.size-(intOf i).toNat)
 case atStart=>exact ⟨0,ku _,rfl,rfl,⟨fun j hj=>by omega⟩⟩
 case round =>
  obtain ⟨k,hk,rfl,rfl,HK⟩:=hrel;by_cases bz:k<s.size
  ·obtain ⟨c,hc⟩:=zX ((s[k]'bz).toNat)
   have HC:=Sl.mk (A8 bz hc);by_cases h1:c<33
   ·have rj:((c:Int)<33)=True:=eq_true (by omega)
    have HF:Sl (r=false):=⟨by rw [← HR.ah];unfold oH;rw [A9 (k:=k) (by rw [au];exact bz) (by rw [HC.ah];omega)];rfl⟩;go_wp2;go_ret;exact ⟨bF HF.ah.symm,rfl⟩
   ·have rj:((c:Int)<33)=False:=dR (by omega)
    by_cases h2:c>126
    ·have xf:((c:Int)>126)=True:=eq_true (by omega)
     have HF:Sl (r=false):=⟨by rw [← HR.ah];unfold oH;rw [A9 (k:=k) (by rw [au];exact bz) (by rw [HC.ah];omega)];rfl⟩;go_wp2;go_ret;exact ⟨bF HF.ah.symm,rfl⟩
    ·have xf:((c:Int)>126)=False:=dR (by omega)
     go_wp2;refine ⟨⟨k+1,by omega,by go_num,trivial,⟨fun j hj=>?_⟩⟩,by simp [intOf];omega⟩;by_cases e:j=k
     ·subst e;rw [HC.ah];omega
     ·exact HK.ah j (by omega)
  ·have eg:((k:Int)<(s.size:Int))=False:=dR (by omega)
   have HT:Sl (r=decide (0<s.size)):=⟨by rw [← HR.ah];unfold oH;rw [Jg (fun j hj=>HK.ah j (by rw [au] at hj;omega)),au];rfl⟩;by_cases h0:0<s.size
   ·have x8:Sl (r=true):=⟨by rw [HT.ah];exact iG h0⟩
    have YB:((s.size:Int)>0)=True:=eq_true (by omega);have afe:(0<s.size)=True:=eq_true h0;go_wp2;go_ret;exact ⟨bF x8.ah.symm,rfl⟩
   ·have x8:Sl (r=false):=⟨by rw [HT.ah];exact iQ h0⟩
    have YB:((s.size:Int)>0)=False:=dR (by omega);have afe:(0<s.size)=False:=dR h0;go_wp2;go_ret;exact ⟨bF x8.ah.symm,rfl⟩
end
open fM (token)
open iY (GU)
section
variable {s:ByteArray}
theorem ay {w w':World} {g:Nat} {o:Obj} (h:w.heap[g]? = some o) (k:Below w.heap.size w w'):w'.heap[g]? = some o:=by
 rw [k.block g (zl h)];exact h
theorem xQ (s:ByteArray):(s.toList==([]:List UInt8))=decide (bytes s=[]):=nO s []
theorem Nl (s:ByteArray):s.toList.isEmpty=decide (bytes s=[]):=by rw [← xQ];cases s.toList<;>rfl
theorem GX (h:decide (bytes s=[])=true):(s.toList==([]:List UInt8))=true∧s.toList.isEmpty=true∧(s.toList=[])=True:=by
 refine ⟨by rw [xQ,h],by rw [Nl,h],eq_true ?_⟩;have:=xQ s;rw [h] at this;exact eq_of_beq this
theorem Lm (h:decide (bytes s=[])=false):(s.toList==([]:List UInt8))=false∧s.toList.isEmpty=false∧(s.toList=[])=False:=by
 refine ⟨by rw [xQ,h],by rw [Nl,h],dR ?_⟩;intro e;have:=xQ s;rw [h,e] at this;cases this
theorem Ui (W:World) (a b c:ByteArray):∃ V,W.alloc (.cells #[.string a,.string b,.string c] 72)=V∧Sl (Below W.heap.size W V)∧V.heap[W.heap.size]? = some (.cells #[.string a,.string b,.string c] 72 (0,0)) :=
 ⟨_,rfl,⟨(dW _ _).alloc (aY _) _⟩,aI _ _ _ rfl⟩
end
theorem Uj (s:ByteArray):decide (0≤Lib.indexByte s.data.toList 63)=decide (63∈bytes s):=by
 rw [Lh];change decide (0≤if (qo (bytes s)).length<s.data.toList.length then ((qo (bytes s)).length:Int) else -1)=_;have hl:s.data.toList.length=(bytes s).length:=by unfold bytes;rw [List.length_map]
 rw [hl];by_cases h:(qo (bytes s)).length<(bytes s).length
 ·rw [if_pos h,iG (by omega),iG]
  rw [← xO _ h,iw,lD h];exact Hg _
 ·rw [if_neg h,iQ (by omega),iQ]
  intro hm;have hs:qo (bytes s)=bytes s:=by rw [qp,nC (by omega)]
  rw [← hs] at hm;exact GU _ _ hm rfl
def Xc (r:Rb):Bool:=(decide ((bytes r.pre).getD 0 0=47)&&(oV (bytes r.pre)&&!decide (63∈bytes r.pre)))&&((decide (bytes r.rA=[])||token (bytes r.rA))&&(!decide (bytes r.dst=[])&&oV (bytes r.dst)))
theorem P6 (a b c:ByteArray) (W:World) (hg:bD W) (ha:a.size≤maxLen) (hb:b.size≤maxLen) (hc:c.size≤maxLen) (r:Bool) (hr:Xc ⟨a,b,c⟩=r) :
 Calls prog 98 #[.agg #[.string a,.string b,.string c]] W fun en w'=>en=.returned (.bool r)∧Sl (Below W.heap.size W w'):=by
 unfold Xc at hr;simp only at hr;obtain ⟨wa,cz,fT,hx⟩:=Ui W a b c;obtain ⟨g,fW⟩:=zX W.heap.size;have lz:Sl (g≤wa.heap.size):=⟨by rw [← fW];exact fT.ah.size⟩;have qu:Sl (bD wa):=⟨hg.of fT.ah⟩;rw [fW] at fT hx ⊢;have HX:=Sl.mk hx;clear hx hg;have P1:Sl (∀ V,Calls prog 127 #[.string a,.string {data:=#[47]}] V fun e w'=>e=.returned (.bool (decide ((bytes a).getD 0 0=47)))∧V=w'):=⟨fun V=>(Tryz.strings_HasPrefix a {data:=#[47]} V).mono fun e w' ⟨h1,h2⟩=>⟨h1.trans (by rw [show ({data:=#[47]} : ByteArray).data.toList=[47] from rfl,Lj];rfl),h2.symm⟩⟩;have P2:Sl (∀ V r,oV (bytes a)=r→Calls prog 128 #[.string a] V fun e w'=>e=.returned (.bool r)∧V=w'):=⟨fun V r h=>Jh a V ha r h⟩;have P3:Sl (∀ V,Calls prog 129 #[.string a,.string {data:=#[63]}] V fun e w'=>e=.returned (.bool (decide (63∈bytes a)))∧V=w'):=⟨fun V=>(Tryz.strings_Contains_one a 63 V).mono fun e w' ⟨h1,h2⟩=>⟨h1.trans (by rw [Uj]),h2.symm⟩⟩;have P5:Sl (∀ V,bD V→Calls prog 130 #[.string b] V fun e w'=>e=.returned (.bool (token (bytes b)))∧Sl (Below V.heap.size V w')):=⟨fun V h=>P4 b V h hb⟩;have P7:Sl (∀ V r,oV (bytes c)=r→Calls prog 128 #[.string c] V fun e w'=>e=.returned (.bool r)∧V=w'):=⟨fun V r h=>Jh c V hc r h⟩;clear ha hb hc;obtain ⟨p1,e1⟩:∃ p,decide ((bytes a).getD 0 0=47)=p:=⟨_,rfl⟩;obtain ⟨p2,e2⟩:=zX (oV (bytes a));obtain ⟨p3,e3⟩:=zX (decide (63∈bytes a));obtain ⟨p4,e4⟩:∃ p,decide (bytes b=[])=p:=⟨_,rfl⟩;obtain ⟨p5,e5⟩:=zX (token (bytes b));obtain ⟨p6,e6⟩:∃ p,decide (bytes c=[])=p:=⟨_,rfl⟩;obtain ⟨p7,e7⟩:=zX (oV (bytes c));rw [e1] at P1 hr;rw [e2] at hr;have Q2:Sl (∀ V,Calls prog 128 #[.string a] V fun e w'=>e=.returned (.bool p2)∧V=w'):=⟨fun V=>P2.ah V p2 e2⟩;rw [e3] at P3 hr;rw [e5] at P5 hr;rw [e4,e6,e7] at hr;have Q7:Sl (∀ V,Calls prog 128 #[.string c] V fun e w'=>e=.returned (.bool p7)∧V=w'):=⟨fun V=>P7.ah V p7 e7⟩;have E4:=Sl.mk e4;have E6:=Sl.mk e6;clear P2 P7 e1 e2 e3 e4 e5 e6 e7;obtain ⟨q1,nf⟩:=zX (p1&&(p2&&!p3));obtain ⟨q2,mw⟩:=zX (p4||p5);rw [nf,mw] at hr;have H1:=Sl.mk nf;have H2:=Sl.mk mw;have HR:=Sl.mk hr;clear nf mw hr;go_enter func98,ntmps98;go_upto_region 1 with fail
 (try rw [cz]);(try rw [fW]);clear cz fW;go_cut [3] (fun s3 wx=>s3=.bool q1∧wa=wx)
 case first =>
  obtain ⟨c0,c1,c2⟩:=lW HX.ah;cases p1 with
  | false =>
    go_wp2_with fail
    refine (P1.ah _).mono ?_;rintro e w1 ⟨rfl,rfl⟩;go_wp2_with fail
    go_meet;exact ⟨by rw [← H1.ah];rfl,rfl⟩
  | true =>
    go_wp2_with fail
    refine (P1.ah _).mono ?_;rintro e w1 ⟨rfl,rfl⟩;cases p2 with
    | false =>
      go_wp2_with fail
      refine (Q2.ah _).mono ?_;rintro e w2 ⟨rfl,rfl⟩;go_wp2_with fail
      go_meet;exact ⟨by rw [← H1.ah];rfl,rfl⟩
    | true =>
      go_wp2_with fail
      refine (Q2.ah _).mono ?_;rintro e w2 ⟨rfl,rfl⟩;go_wp2_with fail
      refine (P3.ah _).mono ?_;rintro e w3 ⟨rfl,rfl⟩;cases p3<;>(go_wp2_with fail;go_meet;exact ⟨by rw [← H1.ah];rfl,rfl⟩)
 case rest =>
  obtain ⟨rfl,rfl⟩:=hcut;clear P1 Q2 P3 H1;go_upto_region 2 with fail
  go_cut [4] (fun s4 wx=>s4=.bool q2∧Sl (Below g W wx)∧Sl (wx.heap[g]? = some (.cells #[.string a,.string b,.string c] 72 (0,0))))
  case first =>
   obtain ⟨c0,c1,c2⟩:=lW HX.ah;cases p4 with
   | true =>
     obtain ⟨n1,n2,n3⟩:=GX E4.ah;go_wp2_with fail
     go_meet;exact ⟨by rw [← H2.ah];rfl,fT,HX⟩
   | false =>
     obtain ⟨n1,n2,n3⟩:=Lm E4.ah;go_wp2_with fail
     refine (P5.ah _ qu.ah).mono ?_;rintro e w4 ⟨rfl,br⟩;go_wp2_with fail
     go_meet;exact ⟨by rw [← H2.ah];rfl,⟨fT.ah.trans (br.ah.mono lz.ah)⟩,⟨ay HX.ah br.ah⟩⟩
  case rest =>
   obtain ⟨rfl,ch,eT⟩:=hcut;clear P5 H2 HX fT qu;obtain ⟨c0,c1,c2⟩:=lW eT.ah;cases q1 with
   | false =>
     go_wp2;go_ret;exact ⟨bF HR.ah,ch⟩
   | true =>
     cases q2 with
     | false =>
       go_wp2;go_ret;exact ⟨bF HR.ah,ch⟩
     | true =>
       cases p6 with
       | true =>
         obtain ⟨n1,n2,n3⟩:=GX E6.ah;go_wp2;go_ret;exact ⟨bF HR.ah,ch⟩
       | false =>
         obtain ⟨n1,n2,n3⟩:=Lm E6.ah;go_wp2_with fail
         refine (Q7.ah _).mono ?_;rintro e w6 ⟨rfl,rfl⟩;go_wp2;go_ret;exact ⟨bF HR.ah,ch⟩
theorem C6 (a b c d e f:ByteArray) (W:World) (g:Nat) (hg:W.heap[g]? = some (.cells #[.string d,.string e,.string f] 72 (0,0))) (r:Bool) (hr:uQ a b c d e f=r) :
 Calls prog 97 #[.agg #[.string a,.string b,.string c],.pointer (some ⟨g,0,none⟩)] W fun en w'=>en=.returned (.bool r)∧Sl (Below W.heap.size W w'):=by
 have EQ:=Xb a b c d e f;rw [hr] at EQ;obtain ⟨wa,cz,fT,hx⟩:=Ui W a b c;have HX:=Sl.mk hx;have Dm:=ay hg fT.ah;obtain ⟨c0,c1,c2⟩:=lW Dm;obtain ⟨d0,d1,d2⟩:=lW hx;have eW:g≠W.heap.size:=Nat.ne_of_lt (zl hg);clear hg Dm hx;go_enter func97,ntmps97;go_upto_region 1 with fail
 (try rw [cz]);go_wp2;go_ret;exact ⟨rfl,fT⟩
open Go.WideShapes Go.ChangeShapes
section
variable {v:Value} {W:World}
theorem He {l:List Value} (h:v.cells.toList=l) (hl:l.length≠1):v=.agg l.toArray:=by
 subst h;cases v with
 | agg cs=>simp [Value.cells]
 | _=>exact absurd rfl hl
theorem UK {α:Type} {l:List α} (h:l.length=12):∃ a b c d e f g i j k m n,l=[a,b,c,d,e,f,g,i,j,k,m,n] :=
 match l,h with
 | [a,b,c,d,e,f,g,i,j,k,m,n],_=>⟨a,b,c,d,e,f,g,i,j,k,m,n,rfl⟩
theorem Dw {P:Program} {t e:TypeId} {H:Type} {enc:TypeId×Value→H} {base fuel:Nat} {sp:Nat→Bool} {eU:Bool} {x:DataW H×List MemPlace} (ht:P.underlying t=some (.slice e))
 (h:DataW.trod enc P W base sp eU fuel t [v]=some x):∃ a n c,v=.slice a n c:=by
 rcases DataW.trod_slice ht h with ⟨cU,_⟩ | ⟨a,len,cap,el,rest,n,_,cU,_⟩
 ·simp at cU;exact ⟨_,_,_,cU⟩
 ·simp at cU;exact ⟨_,_,_,cU⟩
theorem JD {H:Type} {enc:TypeId×Value→H} {d:DataW H} {p:List MemPlace} (h:DataW.Trod enc prog W 0 (fun _=>true) true 25 v d p) :
 ∃ (a1:Option Addr) (n1 c1:Nat) (a2:Option Addr) (n2 c2:Nat) (tb ms fr ct bs ot sh id po cl:Int) (rs:List Rb) (os:List ByteArray),v=.agg #[.slice a1 n1 c1,.slice a2 n2 c2,.int .i64 tb,.int .i64 ms,.int .i64 fr,.int .i64 ct,.int .i64 bs,.int .i64 ot,.int .i64 sh,.int .i64 id,.int .i64 po,.int .i64 cl] ∧
   (ja W (.slice a1 n1 c1) rs∧(∀ r∈rs,xP r)∧rs.length≤maxLen)∧(Ij W (.slice a2 n2 c2) os∧os.length≤maxLen∧∀ s∈os,s.size≤maxLen):=by
 obtain ⟨fuel,hf⟩:=h;obtain ⟨xs,n,_,hx,hl,RO,hf⟩:=DataW.trod_struct underlying25 hf;have c1:prog.cellsOf 3=1:=by kernel_rfl
 have c2:prog.cellsOf 22=1:=by kernel_rfl
 have c3:prog.cellsOf 23=1:=by kernel_rfl
 have c4:prog.cellsOf 25=12:=by kernel_rfl
 rw [c4] at hl;obtain ⟨y0,y1,y2,y3,y4,y5,y6,y7,y8,y9,y10,y11,rfl⟩:=UK RO;have h0:DataW.trod enc prog W 0 (fun _=>true) true n 22 ((v.cells.toList.drop 0).take (prog.cellsOf 22))=some y0:=hf 0 _ rfl;have h1:DataW.trod enc prog W 0 (fun _=>true) true n 23 ((v.cells.toList.drop 1).take (prog.cellsOf 23))=some y1:=hf 1 _ rfl;have h2:DataW.trod enc prog W 0 (fun _=>true) true n 3 ((v.cells.toList.drop 2).take (prog.cellsOf 3))=some y2:=hf 2 _ rfl;have h3:DataW.trod enc prog W 0 (fun _=>true) true n 3 ((v.cells.toList.drop 3).take (prog.cellsOf 3))=some y3:=hf 3 _ rfl;have h4:DataW.trod enc prog W 0 (fun _=>true) true n 3 ((v.cells.toList.drop 4).take (prog.cellsOf 3))=some y4:=hf 4 _ rfl;have h5:DataW.trod enc prog W 0 (fun _=>true) true n 3 ((v.cells.toList.drop 5).take (prog.cellsOf 3))=some y5:=hf 5 _ rfl;have h6:DataW.trod enc prog W 0 (fun _=>true) true n 3 ((v.cells.toList.drop 6).take (prog.cellsOf 3))=some y6:=hf 6 _ rfl;have h7:DataW.trod enc prog W 0 (fun _=>true) true n 3 ((v.cells.toList.drop 7).take (prog.cellsOf 3))=some y7:=hf 7 _ rfl;have h8:DataW.trod enc prog W 0 (fun _=>true) true n 3 ((v.cells.toList.drop 8).take (prog.cellsOf 3))=some y8:=hf 8 _ rfl;have h9:DataW.trod enc prog W 0 (fun _=>true) true n 3 ((v.cells.toList.drop 9).take (prog.cellsOf 3))=some y9:=hf 9 _ rfl;have gD:DataW.trod enc prog W 0 (fun _=>true) true n 3 ((v.cells.toList.drop 10).take (prog.cellsOf 3))=some y10:=hf 10 _ rfl;have Yr:DataW.trod enc prog W 0 (fun _=>true) true n 3 ((v.cells.toList.drop 11).take (prog.cellsOf 3))=some y11:=hf 11 _ rfl;obtain ⟨b0,b1,b2,b3,b4,b5,b6,b7,b8,b9,b10,b11,cU⟩:=UK hl;rw [cU] at h0 h1 h2 h3 h4 h5 h6 h7 h8 h9 gD Yr;rw [c2] at h0;rw [c3] at h1;rw [c1] at h2 h3 h4 h5 h6 h7 h8 h9 gD Yr;simp only [Af,WY,yB,QH] at h0 h1 h2 h3 h4 h5 h6 h7 h8 h9 gD Yr;have e:=He cU (by simp);obtain ⟨a1,n1,k1,rfl⟩:=Dw underlying22 h0;obtain ⟨a2,n2,k2,rfl⟩:=Dw underlying23 h1;obtain ⟨rs,R1,R2,R3⟩:=D6 (W:=W) (ad:=a1) (len:=n1) (cap:=k1) (d:=y0.1) (p:=y0.2) ⟨n,h0⟩;obtain ⟨os,S1,S2,S3⟩:=G9 (W:=W) (ad:=a2) (len:=n2) (cap:=k2) (d:=y1.1) (p:=y1.2) ⟨n,h1⟩;obtain ⟨f2,g2,_,_⟩:=FM underlying3 h2;obtain ⟨f3,g3,_,_⟩:=FM underlying3 h3;obtain ⟨f4,g4,_,_⟩:=FM underlying3 h4;obtain ⟨f5,g5,_,_⟩:=FM underlying3 h5;obtain ⟨f6,g6,_,_⟩:=FM underlying3 h6;obtain ⟨f7,g7,_,_⟩:=FM underlying3 h7;obtain ⟨f8,g8,_,_⟩:=FM underlying3 h8;obtain ⟨f9,g9,_,_⟩:=FM underlying3 h9;obtain ⟨f10,g10,_,_⟩:=FM underlying3 gD;obtain ⟨f11,g11,_,_⟩:=FM underlying3 Yr;simp only [List.cons.injEq,and_true] at g2 g3 g4 g5 g6 g7 g8 g9 g10 g11;subst g2 g3 g4 g5 g6 g7 g8 g9 g10 g11;exact ⟨a1,n1,k1,a2,n2,k2,f2,f3,f4,f5,f6,f7,f8,f9,f10,f11,rs,os,e,⟨R1,R2,R3⟩,S1,S2,S3⟩
end
end Go.Proofs.YtlahonjmfecikaaGreatDoor.bP
namespace Go.Proofs.YtlahonjmfecikaaGreatDoor.Nam
open Go.RowKit Go.Maps Go.ChangeMaps Go.MapKept
def P8 (l:List ByteArray):Bool:=(l.all fun s=>decide (s.size≤300))&&decide (l.length≤30)
theorem Ji {l:List ByteArray} {k:Nat} (hk:k<l.length):l.getD k ByteArray.empty∈l:=by
 rw [iw,lD hk];exact Hg _
theorem GY (l:List ByteArray) (v:Value) (W:World) (hv:Ij W v l) (hl:l.length≤maxLen) (hs:∀ s∈l,s.size≤maxLen):Calls prog 36 #[v] W fun e w'=>e=.returned (.bool (P8 l))∧W=w':=by
 obtain ⟨ad,ca,sa,oa,rfl,hca,haa,bL⟩:=hv;unfold maxLen at hl hs;have HA:=Sl.mk bL;have HAA:=Sl.mk haa;have bS:=Sl.mk hs;clear bL haa hca hs;obtain ⟨n,hn⟩:=zX l.length;have HN:=Sl.mk hn;rw [hn] at hl ⊢;clear hn;go_enter func36,ntmps36;go_wp2;go_loop [3] (fun i=>∃ k:Nat,k≤n∧i=.int .i64 k∧Sl (∀ j,j<k→(l.getD j ByteArray.empty).size≤300)) (fun i=>n-(intOf i).toNat)
 case atStart=>exact ⟨0,ku _,rfl,⟨fun j hj=>by omega⟩⟩
 case round =>
  obtain ⟨k,hk,rfl,HE⟩:=hrel;by_cases bz:k<n
  ·obtain rfl:=HAA.ah (by rw [HN.ah];omega)
   obtain ⟨p,hp⟩:=zX (l.getD k ByteArray.empty);have HP:=Sl.mk hp;have hps:p.size≤2 ^ 63-1:=bS.ah p (by rw [← hp];exact Ji (by rw [HN.ah];exact bz));have e0:W.cell? ⟨sa,oa+k,none⟩=some (.string p):=by rw [HA.ah k (by rw [HN.ah];omega),hp]
   have ux:(0:Int)≤(k:Int):=by omega
   have dC:(k:Int)<(n:Int):=by omega
   clear hp;by_cases h3:p.size≤300
   ·have h3':((300:Int)<(p.size:Int))=False:=dR (by omega)
    go_wp2;go_round
    case rel =>
     refine ⟨k+1,by omega,by go_num,⟨fun j hj=>?_⟩⟩;by_cases e:j=k
     ·subst e;rw [HP.ah];exact h3
     ·exact HE.ah j (by omega)
    case measure=>simp [intOf];omega
   ·have h3':((300:Int)<(p.size:Int))=True:=eq_true (by omega)
    go_wp2;go_ret;refine ⟨bF ?_,rfl⟩;unfold P8;rw [show (l.all fun s=>decide (s.size≤300))=false from by
     rw [List.all_eq_false];exact ⟨p,by rw [← HP.ah];exact Ji (by rw [HN.ah];exact bz),by simpa using h3⟩]
    rfl
  ·have eg:((k:Int)<(n:Int))=False:=dR (by omega)
   have gE:Sl ((l.all fun s=>decide (s.size≤300))=true):=⟨by
    rw [NR];intro s hs;obtain ⟨j,hj,rfl⟩:=List.mem_iff_getElem.1 hs;have:=HE.ah j (by rw [HN.ah] at hj;omega);rw [iw,lD hj] at this;exact iG this⟩
   go_wp2;go_ret;refine ⟨bF ?_,rfl⟩;unfold P8;rw [gE.ah,JF,HN.ah,QL];simp;omega
end Go.Proofs.YtlahonjmfecikaaGreatDoor.Nam
namespace Go.Proofs.YtlahonjmfecikaaGreatDoor
open Go.RowKit
end Go.Proofs.YtlahonjmfecikaaGreatDoor
namespace Go.Proofs.YtlahonjmfecikaaGreatDoor.bP
open Go.RowKit
open fM (token)
section
variable {l:List Rb} {r:Rb} {k:Nat}
def zO (l:List Rb) (r:Rb):Bool:=l.any fun x=>uQ x.pre x.rA x.dst r.pre r.rA r.dst
theorem E5 (hk:k<l.length) (h:uQ (l.getD k uI).pre (l.getD k uI).rA (l.getD k uI).dst r.pre r.rA r.dst=true):zO l r=true:=by
 unfold zO;rw [List.any_eq_true];exact ⟨_,by rw [iw,lD hk];exact Hg _,h⟩
theorem C9 (h:∀ k,k<l.length→uQ (l.getD k uI).pre (l.getD k uI).rA (l.getD k uI).dst r.pre r.rA r.dst=false):zO l r=false:=by
 unfold zO;rw [List.any_eq_false];intro x hx;obtain ⟨k,hk,rfl⟩:=QK hx;have:=h k hk;rw [iw,lD hk] at this;rw [Bool.not_eq_true];exact this
def ZN (b:Bool) (e:Ending):Prop:=∃ z:Int,e=.returned (.int .i64 z)∧decide (0≤z)=b
theorem V7 (l:List Rb) (v:Value) (W:World) (hv:ja W v l) (hl:l.length≤1000000) (d e f:ByteArray) (g:Nat) (hg:W.heap[g]? = some (.cells #[.string d,.string e,.string f] 72 (0,0))) (r:Bool) (hr:zO l ⟨d,e,f⟩=r) :
 Calls prog 131 #[v,.func (.func 97) #[] #[.pointer (some ⟨g,0,none⟩)]] W fun en w'=>ZN r en∧Sl (Below W.heap.size W w'):=by
 have HR:=Sl.mk hr;have vd:=Sl.mk hg;obtain ⟨a,cap,rfl⟩:=hv.slice;have HV:=Sl.mk hv;obtain ⟨n,hn⟩:=zX l.length;have HN:=Sl.mk hn;rw [hn] at HV hl ⊢;clear hv hn hr hg;go_enter func131,ntmps131;go_wp2;go_loopw [8] (fun i wr=>∃ k:Nat,k≤n∧i=.int .i64 k∧Sl (Below W.heap.size W wr)∧Sl (∀ j,j<k→uQ (l.getD j uI).pre (l.getD j uI).rA (l.getD j uI).dst d e f=false)) (fun i _=>n-(intOf i).toNat)
 case atStart=>exact ⟨0,ku _,rfl,⟨dW _ _⟩,⟨fun j hj=>by omega⟩⟩
 case round =>
  obtain ⟨k,hk,rfl,HB,HA⟩:=hrel;by_cases bz:k<n
  ·have hq:((k:Int)<(n:Int))=True:=eq_true (by omega)
   have mt:k<l.length:=by rw [HN.ah];exact bz
   obtain ⟨sb,so,rfl⟩:=HV.ah.cap.2.2 (by omega);obtain ⟨x,y,z,he⟩:∃ x y z,l.getD k uI=⟨x,y,z⟩:=⟨_,_,_,rfl⟩;have HE:=Sl.mk he;obtain ⟨c0,c1,c2⟩:=(HV.ah.below HB.ah).VW k mt he;obtain ⟨p,hp⟩:=zX (uQ x y z d e f);have HP:=Sl.mk hp;have HS:=C6 x y z d e f wr g (ay vd.ah HB.ah) p hp;clear he hp;go_wp2_with fail
   refine (HS).mono ?_;rintro e w2 ⟨rfl,bk⟩;clear HS;have bv:Sl (Below W.heap.size W w2):=⟨HB.ah.trans (bk.ah.mono HB.ah.size)⟩;cases p with
   | true =>
     have HH:Sl (r=true):=⟨by rw [← HR.ah];exact E5 mt (by rw [HE.ah];exact HP.ah)⟩;go_wp2;go_ret;exact ⟨⟨_,rfl,by rw [HH.ah];exact iG (by omega)⟩,bv⟩
   | false =>
     go_wp2;refine ⟨⟨k+1,by omega,by go_num,bv,⟨fun j hj=>?_⟩⟩,by simp [intOf];omega⟩;by_cases e:j=k
     ·subst e;rw [HE.ah];exact HP.ah
     ·exact HA.ah j (by omega)
  ·obtain rfl:k=n:=by omega
   have eg:((k:Int)<(k:Int))=False:=dR (by omega);have HH:Sl (r=false):=⟨by rw [← HR.ah];exact C9 (fun j hj=>HA.ah j (by rw [HN.ah] at hj;exact hj))⟩;go_wp2;go_ret;exact ⟨⟨_,rfl,by rw [HH.ah];rfl⟩,HB⟩
theorem V8 (l:List Rb) (v:Value) (W:World) (hv:ja W v l) (hl:l.length≤1000000) (d e f:ByteArray) (g:Nat) (hg:W.heap[g]? = some (.cells #[.string d,.string e,.string f] 72 (0,0))) (r:Bool) (hr:zO l ⟨d,e,f⟩=r) :
 Calls prog 99 #[v,.func (.func 97) #[] #[.pointer (some ⟨g,0,none⟩)]] W fun en w'=>en=.returned (.bool r)∧Sl (Below W.heap.size W w'):=by
 have HX:=Sl.mk (V7 l v W hv hl d e f g hg r hr);clear hv hr hg;go_enter func99,ntmps99;go_wp2_with fail
 refine HX.ah.mono ?_;rintro e w2 ⟨⟨z,rfl,hz⟩,bk⟩;have HZ:=Sl.mk hz;clear hz HX;go_wp2;go_ret;exact ⟨bF HZ.ah,bk⟩
def o9 (l:List Rb) (i:Nat):Bool:=Xc (l.getD i uI)&&!zO (l.take i) (l.getD i uI)
def Ak (l:List Rb):Bool:=decide (1≤l.length)&&(decide (l.length≤16)&&(List.range l.length).all (o9 l))
theorem Np (hk:k<l.length) (h:o9 l k=false):Ak l=false:=by
 unfold Ak;rw [show (List.range l.length).all (o9 l)=false from by rw [List.all_eq_false];exact ⟨k,List.mem_range.2 hk,by rw [h];decide⟩,Hl,Hl]
theorem Uk (h1:1≤l.length) (h2:l.length≤16) (h:∀ k,k<l.length→o9 l k=true):Ak l=true:=by
 unfold Ak;rw [iG h1,iG h2,JF,JF,NR];exact fun k hk=>h k (List.mem_range.1 hk)
theorem Jj (h:¬ (1≤l.length∧l.length≤16)):Ak l=false:=by
 unfold Ak;by_cases h1:1≤l.length
 ·rw [iQ (show ¬ l.length≤16 by omega),Dz,Hl]
 ·rw [iQ h1,Dz]
theorem Lp (l:List Rb) (v:Value) (W:World) (hg:bD W) (hv:ja W v l) (ok:∀ r∈l,xP r) (hl:l.length≤1000000) (r:Bool) (hr:Ak l=r) :
 Calls prog 70 #[v] W fun en w'=>en=.returned (.bool r)∧Sl (Below W.heap.size W w'):=by
 have HR:=Sl.mk hr;have HG:=Sl.mk hg;have nm:=Sl.mk ok;obtain ⟨a,cap,rfl⟩:=hv.slice;have HV:=Sl.mk hv;obtain ⟨n,hn⟩:=zX l.length;have HN:=Sl.mk hn;rw [hn] at HV hl ⊢;have db:n≤cap:=HV.ah.cap.2.1;clear hv hn hr hg ok;by_cases h1:n<1
 ·have rj:((n:Int)<1)=True:=eq_true (by omega)
  have HF:Sl (false=r):=⟨by rw [← HR.ah];exact (Jj (by rw [HN.ah];omega)).symm⟩;go_enter func70,ntmps70;go_wp2;go_ret;exact ⟨bF HF.ah,⟨dW _ _⟩⟩
 have rj:((n:Int)<1)=False:=dR (by omega);by_cases h2:n>16
 ·have xf:((n:Int)>16)=True:=eq_true (by omega)
  have HF:Sl (false=r):=⟨by rw [← HR.ah];exact (Jj (by rw [HN.ah];omega)).symm⟩;go_enter func70,ntmps70;go_wp2;go_ret;exact ⟨bF HF.ah,⟨dW _ _⟩⟩
 have xf:((n:Int)>16)=False:=dR (by omega);go_enter func70,ntmps70;go_wp2;go_loopw [16] (fun i wr=>∃ k:Nat,k≤n∧i=.int .i64 k∧Sl (Below W.heap.size W wr)∧Sl (∀ j,j<k→o9 l j=true)) (fun i _=>n-(intOf i).toNat)
 case atStart=>exact ⟨0,ku _,rfl,⟨dW _ _⟩,⟨fun j hj=>by omega⟩⟩
 case round =>
  obtain ⟨k,hk,rfl,HB,HA⟩:=hrel;by_cases bz:k<n
  ·have hq:((k:Int)<(n:Int))=True:=eq_true (by omega)
   have mt:k<l.length:=by rw [HN.ah];exact bz
   obtain ⟨sb,so,rfl⟩:=HV.ah.cap.2.2 (by omega);obtain ⟨x,y,z,he⟩:∃ x y z,l.getD k uI=⟨x,y,z⟩:=⟨_,_,_,rfl⟩;have HE:=Sl.mk he;have ep:xP ⟨x,y,z⟩:=by
    rw [← he];refine nm.ah _ ?_;rw [iw,lD mt];exact Hg _
   obtain ⟨c0,c1,c2⟩:=(HV.ah.below HB.ah).VW k mt he;obtain ⟨wa,cz,fT,hx⟩:=Ue wr;obtain ⟨wb,gR,Mb,HX⟩:=Uf hx fT.ah (aY _) #[.string x,.string y,.string z];have HI:(prog.info? 72).map (·.size)=some (#[Value.string x,.string y,.string z]:Array Value).size:=Nk rfl;have oA:Sl (Below W.heap.size W wb):=⟨HB.ah.trans (Mb.ah.mono HB.ah.size)⟩;obtain ⟨p,hp⟩:=zX (Xc ⟨x,y,z⟩);have HP:=Sl.mk hp;have MB:=Sl.mk (P6 x y z wb (HG.ah.of oA.ah) ep.p ep.q ep.t p hp);obtain ⟨q,mw⟩:=zX (zO (l.take k) ⟨x,y,z⟩);have HQ:=Sl.mk mw;have nd:=Sl.mk (HV.ah.below oA.ah);have hk3:(k:Int)≤(cap:Int):=by omega
   have Dr:(0:Int)≤(k:Int):=by omega
   clear he hp mw ep;go_upto_region 6 with (refine fG rfl 72 (.tmp 4) (.tmp 20) rfl wr.heap.size #[.string x,.string y,.string z] rfl rfl 72 #[.string {data:=#[]},.string {data:=#[]},.string {data:=#[]}] hx HI rfl (Ud _ _ _) ?_)
   (try rw [gR]);clear cz gR hx fT Mb c0 c1 c2;obtain ⟨g,fW⟩:=zX wr.heap.size;rw [fW] at HX;(try rw [fW]);obtain ⟨d0,d1,d2⟩:=lW HX.ah;go_wp2_with fail
   refine (MB.ah).mono ?_;rintro e w2 ⟨rfl,bk⟩;clear MB d0 d1 d2;have bv:Sl (Below W.heap.size W w2):=⟨oA.ah.trans (bk.ah.mono oA.ah.size)⟩;cases p with
   | false =>
     have HF:Sl (false=r):=⟨by rw [← HR.ah,Np mt (by unfold o9;rw [HE.ah,HP.ah];rfl)]⟩;go_wp2;go_ret;exact ⟨bF HF.ah,bv⟩
   | true =>
     have HC:=Sl.mk (V8 (l.take k) (.slice (some ⟨sb,so,none⟩) k cap) w2 ((nd.ah.below bk.ah).to (Nat.le_of_lt bz) (by omega)) (by rw [kQ];omega) x y z g (ay HX.ah bk.ah) q HQ.ah);go_wp2_with fail
     refine (HC.ah).mono ?_;rintro e w4 ⟨rfl,br⟩;clear HC;have ch:Sl (Below W.heap.size W w4):=⟨bv.ah.trans (br.ah.mono bv.ah.size)⟩;cases q with
     | true =>
       have HF:Sl (false=r):=⟨by rw [← HR.ah,Np mt (by unfold o9;rw [HE.ah,HQ.ah,Bool.not_true,Hl])]⟩;go_wp2;go_ret;exact ⟨bF HF.ah,ch⟩
     | false =>
       go_wp2;refine ⟨⟨k+1,by omega,by go_num,ch,⟨fun j hj=>?_⟩⟩,by simp [intOf];omega⟩;by_cases e:j=k
       ·subst e;unfold o9;rw [HE.ah,HP.ah,HQ.ah];rfl
       ·exact HA.ah j (by omega)
  ·obtain rfl:k=n:=by omega
   have eg:((k:Int)<(k:Int))=False:=dR (by omega);have HT:Sl (true=r):=⟨by rw [← HR.ah,Uk (by rw [HN.ah];omega) (by rw [HN.ah];omega) (fun j hj=>HA.ah j (by rw [HN.ah] at hj;exact hj))]⟩;go_wp2;go_ret;exact ⟨bF HT.ah,HB⟩
end
section
variable {W:World}
structure Sp where
 n:Int
 ek:Int
 ae:Int
def Am (s:Sp):Bool:=decide (s.n<s.ek)||decide (s.ae<s.n)
def sc (s:Sp):List Value:=[.int .i64 s.n,.int .i64 s.ek,.int .i64 s.ae]
def UT (l:List Sp):List Value:=l.flatMap sc
def ZO:Sp:=⟨0,0,0⟩
theorem Nq:∀ (es:List Sp) (i:Nat),i<es.length→∀ j,j<3→(UT es)[i*3+j]? = (sc (es.getD i ZO))[j]?
 | [],i,hi,_,_=>by simp at hi
 | e :: es,0,_,j,hj=>by
   rw [show UT (e :: es)=sc e++UT es from rfl,Nat.zero_mul,vT,Ec (by simpa [sc] using hj)];rfl
 | e :: es,i+1,hi,j,hj=>by
   rw [show UT (e :: es)=sc e++UT es from rfl,show (i+1)*3+j=i*3+j+3 from by omega,QC (by simp [sc])];have:=Nq es i (by simpa using hi) j hj;simpa [sc] using this
theorem ZP {g k:Nat} {l:List Sp} {t:TypeId} (h:W.heap[g]? = some (.cells (UT l).toArray t (0,0))) (hk:k<l.length) {n a b:Int} (he:l.getD k ZO=⟨n,a,b⟩) :
 W.cell? ⟨g,0+k*3,none⟩=some (.int .i64 n)∧W.cell? ⟨g,0+k*3+1,none⟩=some (.int .i64 a)∧W.cell? ⟨g,0+k*3+2,none⟩=some (.int .i64 b):=by
 have key:∀ j,j<3→W.cell? ⟨g,0+k*3+j,none⟩=(sc ⟨n,a,b⟩)[j]?:=fun j hj=>by
  rw [vT,jg _ _ _ _ _ _ h,Ed,Nq l k hk j hj,he]
 exact ⟨key 0 (by decide),key 1 (by decide),key 2 (by decide)⟩
theorem Jk (n a b:Int) (W:World) (r:Bool) (hr:Am ⟨n,a,b⟩=r):Calls prog 69 #[.agg #[.int .i64 n,.int .i64 a,.int .i64 b]] W fun en w'=>en=.returned (.bool r)∧Sl (Below W.heap.size W w'):=by
 have HB:∀ o,Sl (Below W.heap.size W (W.alloc o)):=fun o=>⟨(dW _ _).alloc (aY _) _⟩
 unfold Am at hr;simp only at hr;by_cases h1:n<a
 ·have rj:(n<a)=True:=eq_true h1
  have HR:Sl (true=r):=⟨by rw [← hr,iG h1];rfl⟩;clear hr h1;go_enter func69,ntmps69;go_wp2;go_ret;exact ⟨bF HR.ah,HB _⟩
 ·have rj:(n<a)=False:=dR h1
  have h1a:a≤n:=by omega
  have HR0:Sl (decide (b<n)=r):=⟨by rw [← hr,iQ h1];rfl⟩;clear hr;by_cases h2:b<n
  ·have xf:(n>b)=True:=eq_true h2
   have HR:Sl (true=r):=⟨by rw [← HR0.ah,iG h2]⟩;clear h2 HR0;go_enter func69,ntmps69;go_wp2;go_ret;exact ⟨bF HR.ah,HB _⟩
  ·have xf:(n>b)=False:=dR h2
   have h2a:n≤b:=by omega
   have HR:Sl (false=r):=⟨by rw [← HR0.ah,iQ h2]⟩;clear h2 HR0;go_enter func69,ntmps69;go_wp2;go_ret;exact ⟨bF HR.ah,HB _⟩
theorem V9 (l:List Sp) (W:World) (hl:l.length≤1000000) (g:Nat) (hg:W.heap[g]? = some (.cells (UT l).toArray 112 (0,0))) (r:Bool) (hr:l.any Am=r) :
 Calls prog 100 #[.slice (some ⟨g,0,none⟩) l.length l.length,.func (.func 69) #[] #[]] W fun en w'=>ZN r en∧Sl (Below W.heap.size W w'):=by
 have HR:=Sl.mk hr;have vd:=Sl.mk hg;obtain ⟨n,hn⟩:=zX l.length;have HN:=Sl.mk hn;rw [hn] at hl ⊢;clear hn hr hg;go_enter func100,ntmps100;go_wp2;go_loopw [8] (fun i wr=>∃ k:Nat,k≤n∧i=.int .i64 k∧Sl (Below W.heap.size W wr)∧Sl (∀ j,j<k→Am (l.getD j ZO)=false)) (fun i _=>n-(intOf i).toNat)
 case atStart=>exact ⟨0,ku _,rfl,⟨dW _ _⟩,⟨fun j hj=>by omega⟩⟩
 case round =>
  obtain ⟨k,hk,rfl,HB,HA⟩:=hrel;by_cases bz:k<n
  ·have hq:((k:Int)<(n:Int))=True:=eq_true (by omega)
   have mt:k<l.length:=by rw [HN.ah];exact bz
   obtain ⟨x,y,z,he⟩:∃ x y z,l.getD k ZO=⟨x,y,z⟩:=⟨_,_,_,rfl⟩;have HE:=Sl.mk he;obtain ⟨c0,c1,c2⟩:=ZP (ay vd.ah HB.ah) mt he;rw [vT] at c0 c1 c2;obtain ⟨p,hp⟩:=zX (Am ⟨x,y,z⟩);have HP:=Sl.mk hp;have HS:=Jk x y z wr p hp;clear he hp;go_wp2_with fail
   refine (HS).mono ?_;rintro e w2 ⟨rfl,bk⟩;clear HS;have bv:Sl (Below W.heap.size W w2):=⟨HB.ah.trans (bk.ah.mono HB.ah.size)⟩;cases p with
   | true =>
     have HH:Sl (r=true):=⟨by
      rw [← HR.ah,List.any_eq_true];exact ⟨l.getD k ZO,by rw [iw,lD mt];exact Hg _,by rw [HE.ah];exact HP.ah⟩⟩
     go_wp2;go_ret;exact ⟨⟨_,rfl,by rw [HH.ah];exact iG (by omega)⟩,bv⟩
   | false =>
     go_wp2;refine ⟨⟨k+1,by omega,by go_num,bv,⟨fun j hj=>?_⟩⟩,by simp [intOf];omega⟩;by_cases e:j=k
     ·subst e;rw [HE.ah];exact HP.ah
     ·exact HA.ah j (by omega)
  ·obtain rfl:k=n:=by omega
   have eg:((k:Int)<(k:Int))=False:=dR (by omega);have HH:Sl (r=false):=⟨by
    rw [← HR.ah,List.any_eq_false];intro x hx;obtain ⟨j,hj,rfl⟩:=QK hx;have:=HA.ah j (by rw [HN.ah] at hj;exact hj);rw [iw,lD hj] at this;rw [Bool.not_eq_true];exact this⟩
   go_wp2;go_ret;exact ⟨⟨_,rfl,by rw [HH.ah];rfl⟩,HB⟩
theorem Wh (l:List Sp) (W:World) (hl:l.length≤1000000) (g:Nat) (hg:W.heap[g]? = some (.cells (UT l).toArray 112 (0,0))) (r:Bool) (hr:l.any Am=r) :
 Calls prog 71 #[.slice (some ⟨g,0,none⟩) l.length l.length,.func (.func 69) #[] #[]] W fun en w'=>en=.returned (.bool r)∧Sl (Below W.heap.size W w'):=by
 have HX:=Sl.mk (V9 l W hl g hg r hr);clear hr hg;go_enter func71,ntmps71;go_wp2_with fail
 refine HX.ah.mono ?_;rintro e w2 ⟨⟨z,rfl,hz⟩,bk⟩;have HZ:=Sl.mk hz;clear hz HX;go_wp2;go_ret;exact ⟨bF HZ.ah,bk⟩
def sH (tb ms fr ct bs ot sh id po cl:Int):List Sp:=[⟨tb,1,64⟩,⟨ms,1,65536⟩,⟨fr,1,65536⟩,⟨ct,1,1024⟩,⟨bs,ms,4194304⟩,⟨ot,1,65536⟩,⟨sh,1,1073741824⟩,⟨id,1,1073741824⟩,⟨po,1,1073741824⟩,⟨cl,1,1073741824⟩]
theorem P9 (a1:Option Addr) (n1 c1:Nat) (a2:Option Addr) (n2 c2:Nat) (tb ms fr ct bs ot sh id po cl:Int) (W:World) :
 Calls prog 72 #[.agg #[.slice a1 n1 c1,.slice a2 n2 c2,.int .i64 tb,.int .i64 ms,.int .i64 fr,.int .i64 ct,.int .i64 bs,.int .i64 ot,.int .i64 sh,.int .i64 id,.int .i64 po,.int .i64 cl]] W fun en w'=>∃ g,en=.returned (.slice (some ⟨g,0,none⟩) 10 10)∧Sl (w'.heap[g]? = some (.cells (UT (sH tb ms fr ct bs ot sh id po cl)).toArray 112 (0,0)))∧Sl (Below W.heap.size W w'):=by
 go_enter func72,ntmps72;go_wp2;go_ret;exact ⟨_,rfl,⟨aI _ _ _ (by rw [aP])⟩,⟨((dW _ _).alloc (aY _) _).alloc (by rw [aP];omega) _⟩⟩
def Xd (r:Rb):Prop:=r.pre.size≤1000000∧r.rA.size≤1000000∧r.dst.size≤1000000
def mD (rs:List Rb) (no:Nat) (tb ms fr ct bs ot sh id po cl:Int):Bool:=Ak rs&&(decide (no≤16)&&!(sH tb ms fr ct bs ot sh id po cl).any Am)
def Jl (b:Bool):Int:=if b=true then 0 else 150
theorem xR (W:World) (cs:Array Value):∃ V,W.alloc (.cells cs 25)=V∧Sl (Below W.heap.size W V)∧V.heap[W.heap.size]? = some (.cells cs 25 (0,0)) :=
 ⟨_,rfl,⟨(dW _ _).alloc (aY _) _⟩,aI _ _ _ rfl⟩
theorem aB {g:Nat} {cs:Array Value} {t:TypeId} (h:W.heap[g]? = some (.cells cs t (0,0))) (i:Nat) (v:Value) (hi:cs[i]? = some v):W.cell? ⟨g,i,none⟩=some v:=by rw [jg _ _ _ _ _ _ h];exact hi
theorem kY (rs:List Rb) (a1:Option Addr) (n1 c1:Nat) (a2:Option Addr) (n2 c2:Nat) (tb ms fr ct bs ot sh id po cl:Int) (W:World) (hg:bD W) (hv:ja W (.slice a1 n1 c1) rs) (ok:∀ r∈rs,xP r) (hl:rs.length≤1000000) (r:Bool) (hr:mD rs n2 tb ms fr ct bs ot sh id po cl=r) :
 Calls prog 37 #[.agg #[.slice a1 n1 c1,.slice a2 n2 c2,.int .i64 tb,.int .i64 ms,.int .i64 fr,.int .i64 ct,.int .i64 bs,.int .i64 ot,.int .i64 sh,.int .i64 id,.int .i64 po,.int .i64 cl]] W fun en w'=>en=.returned (.int .i64 (Jl r))∧Sl (Below W.heap.size W w'):=by
 unfold mD at hr;obtain ⟨wa,cz,fT,hx⟩:=xR W #[.slice a1 n1 c1,.slice a2 n2 c2,.int .i64 tb,.int .i64 ms,.int .i64 fr,.int .i64 ct,.int .i64 bs,.int .i64 ot,.int .i64 sh,.int .i64 id,.int .i64 po,.int .i64 cl];obtain ⟨g,fW⟩:=zX W.heap.size;have vm:=Sl.mk (hg.of fT.ah);have Ds:=Sl.mk (hv.below fT.ah);obtain ⟨p,hp⟩:=zX (Ak rs);have AM:=Sl.mk (Lp rs (.slice a1 n1 c1) wa vm.ah Ds.ah ok hl p hp);have SP:Sl (∀ V,Calls prog 72 #[.agg #[.slice a1 n1 c1,.slice a2 n2 c2,.int .i64 tb,.int .i64 ms,.int .i64 fr,.int .i64 ct,.int .i64 bs,.int .i64 ot,.int .i64 sh,.int .i64 id,.int .i64 po,.int .i64 cl]] V fun en w'=>∃ g,en=.returned (.slice (some ⟨g,0,none⟩) 10 10)∧Sl (w'.heap[g]? = some (.cells (UT (sH tb ms fr ct bs ot sh id po cl)).toArray 112 (0,0)))∧Sl (Below V.heap.size V w')):=⟨fun V=>P9 a1 n1 c1 a2 n2 c2 tb ms fr ct bs ot sh id po cl V⟩;obtain ⟨L,hL⟩:=zX (sH tb ms fr ct bs ot sh id po cl);have HLL:Sl (L.length=10):=⟨by rw [← hL];rfl⟩;rw [hL] at SP hr;rw [hp] at hr;obtain ⟨q,hq⟩:=zX (L.any Am);have HQ:=Sl.mk hq;rw [hq] at hr;have HR:=Sl.mk hr;rw [fW] at fT hx ⊢;have HX:=Sl.mk hx;have hI:Sl (g≤wa.heap.size):=⟨by rw [← fW];exact fT.ah.size⟩;clear hr hq hL hp hg hv ok vm Ds hx;go_enter func37,ntmps37;go_upto_region 1 with fail
 (try rw [cz]);(try rw [fW]);clear cz fW;have c0:=aB HX.ah 0 _ rfl;have d1:=aB HX.ah 1 _ rfl;go_wp2_with fail
 refine (AM.ah).mono ?_;rintro e w2 ⟨rfl,bk⟩;clear AM c0 d1;have bw:=Sl.mk (ay HX.ah bk.ah);have bv:Sl (Below g W w2):=⟨fT.ah.trans (bk.ah.mono hI.ah)⟩;have k0:=aB bw.ah 0 _ rfl;have k1:=aB bw.ah 1 _ rfl;have k2:=aB bw.ah 2 _ rfl;have k3:=aB bw.ah 3 _ rfl;have k4:=aB bw.ah 4 _ rfl;have k5:=aB bw.ah 5 _ rfl;have k6:=aB bw.ah 6 _ rfl;have k7:=aB bw.ah 7 _ rfl;have k8:=aB bw.ah 8 _ rfl;have k9:=aB bw.ah 9 _ rfl;have uc:=aB bw.ah 10 _ rfl;have ud:=aB bw.ah 11 _ rfl;cases p with
 | false =>
   have HF:Sl (Jl r=150):=⟨by rw [← HR.ah];rfl⟩;go_wp2;go_ret;exact ⟨oN HF.ah.symm,bv⟩
 | true =>
   by_cases hn:n2>16
   ·have hn':((n2:Int)>16)=True:=eq_true (by omega)
    have HF:Sl (Jl r=150):=⟨by rw [← HR.ah,iQ (by omega)];rfl⟩;go_wp2;go_ret;exact ⟨oN HF.ah.symm,bv⟩
   ·have hn':((n2:Int)>16)=False:=dR (by omega)
    have ew:Sl ((!q)=r):=⟨by rw [← HR.ah,iG (by omega),JF,JF]⟩;clear hn;go_wp2_with fail
    refine (SP.ah _).mono ?_;rintro e w3 ⟨x,rfl,da,br⟩;clear SP;have ch:Sl (Below g W w3):=⟨bv.ah.trans (br.ah.mono (jd hI.ah bk.ah.size))⟩;have SC:=Sl.mk (Wh L w3 (by rw [HLL.ah];omega) x da.ah q HQ.ah);rw [HLL.ah] at SC;go_wp2_with fail
    refine (SC.ah).mono ?_;rintro e w4 ⟨rfl,gb⟩;clear SC;have fj:Sl (Below g W w4):=⟨ch.ah.trans (gb.ah.mono (jd (jd hI.ah bk.ah.size) br.ah.size))⟩;cases q with
    | true =>
      have HF:Sl (Jl r=150):=⟨by rw [← ew.ah];rfl⟩;go_wp2;go_ret;exact ⟨oN HF.ah.symm,fj⟩
    | false =>
      have HF:Sl (Jl r=0):=⟨by rw [← ew.ah];rfl⟩;go_wp2;go_ret;exact ⟨oN HF.ah.symm,fj⟩
end
open Nam
section
variable {rs:List Rb}
def pG (r:Rb):Bool:=decide (r.pre.size≤300)&&(decide (r.rA.size≤300)&&decide (r.dst.size≤300))
def JC (rs:List Rb) (os:List ByteArray):Bool:=rs.all pG&&(decide (rs.length≤30)&&P8 os)
theorem UG {os:List ByteArray} (h:JC rs os=true):(∀ r∈rs,r.pre.size≤300∧r.rA.size≤300∧r.dst.size≤300)∧rs.length≤30∧P8 os=true:=by
 unfold JC at h;simp only [JG,NR,Ap] at h;refine ⟨fun r hr=>?_,h.2.1,h.2.2⟩;have:=h.1 r hr;unfold pG at this;simpa only [JG,Ap] using this
theorem LJ {os:List ByteArray} {k:Nat} (hk:k<rs.length) (h:pG (rs.getD k uI)=false):JC rs os=false:=by
 unfold JC;rw [show rs.all pG=false from by rw [List.all_eq_false];exact ⟨rs.getD k uI,by rw [iw,lD hk];exact Hg _,by rw [h];decide⟩];rfl
theorem WO (h:∀ k,k<rs.length→pG (rs.getD k uI)=true):rs.all pG=true:=by
 rw [NR];intro r hr;obtain ⟨k,hk,rfl⟩:=QK hr;have:=h k hk;rwa [iw,lD hk] at this
theorem UH (rs:List Rb) (a1:Option Addr) (n1 c1:Nat) (a2:Option Addr) (n2 c2:Nat) (tb ms fr ct bs ot sh id po cl:Int) (os:List ByteArray) (W:World) (hv:ja W (.slice a1 n1 c1) rs) (ok:∀ r∈rs,xP r) (hl:rs.length≤maxLen) (ho:Ij W (.slice a2 n2 c2) os) (hol:os.length≤maxLen) (hos:∀ s∈os,s.size≤maxLen) (r:Bool) (hr:JC rs os=r) :
 Calls prog 12 #[.agg #[.slice a1 n1 c1,.slice a2 n2 c2,.int .i64 tb,.int .i64 ms,.int .i64 fr,.int .i64 ct,.int .i64 bs,.int .i64 ot,.int .i64 sh,.int .i64 id,.int .i64 po,.int .i64 cl]] W fun en w'=>en=.returned (.bool r)∧Sl (Below W.heap.size W w'):=by
 obtain ⟨wa,cz,fT,hx⟩:=xR W #[.slice a1 n1 c1,.slice a2 n2 c2,.int .i64 tb,.int .i64 ms,.int .i64 fr,.int .i64 ct,.int .i64 bs,.int .i64 ot,.int .i64 sh,.int .i64 id,.int .i64 po,.int .i64 cl];have HX:=Sl.mk hx;have HVa:=Sl.mk (hv.below fT.ah);have F6:=Sl.mk (GY os (.slice a2 n2 c2) wa (ho.below fT.ah) hol hos);have HR:=Sl.mk hr;have nm:=Sl.mk ok;have db:n1≤c1:=hv.cap.2.1;have lw:Sl (n1=rs.length):=⟨hv.cap.1⟩;have sC:n1≤9223372036854775807:=by rw [lw.ah];unfold maxLen at hl;omega
 obtain ⟨g,fW⟩:=zX W.heap.size;rw [fW] at HX fT ⊢;clear hx hv ho hr ok hos hl hol;go_enter func12,ntmps12;go_upto_region 1 with fail
 (try rw [cz]);(try rw [fW]);clear cz fW;have e0:=aB HX.ah 0 _ rfl;have e1:=aB HX.ah 1 _ rfl;go_wp2;go_loopw [3] (fun i wr=>∃ k:Nat,k≤n1∧i=.int .i64 k∧wa=wr∧Sl (∀ j,j<k→pG (rs.getD j uI)=true)) (fun i _=>n1-(intOf i).toNat)
 case atStart=>exact ⟨0,ku _,rfl,rfl,⟨fun j hj=>by omega⟩⟩
 case round =>
  obtain ⟨k,hk,rfl,rfl,HA⟩:=hrel;by_cases bz:k<n1
  ·have hq:((k:Int)<(n1:Int))=True:=eq_true (by omega)
   have mt:k<rs.length:=by rw [← lw.ah];exact bz
   obtain ⟨sb,so,rfl⟩:=HVa.ah.cap.2.2 (by omega);obtain ⟨x,y,u,he⟩:∃ x y z,rs.getD k uI=⟨x,y,z⟩:=⟨_,_,_,rfl⟩;have HE:=Sl.mk he;have ep:xP ⟨x,y,u⟩:=by
    rw [← he];refine nm.ah _ ?_;rw [iw,lD mt];exact Hg _
   obtain ⟨c0,c1',c2'⟩:=HVa.ah.VW k mt he;have Dr:(0:Int)≤(k:Int):=by omega
   have om:x.size≤2 ^ 63-1:=ep.p;have DQ:y.size≤2 ^ 63-1:=ep.q;have Yj:u.size≤2 ^ 63-1:=ep.t;have gN:Sl (pG (rs.getD k uI)=(decide (x.size≤300)&&(decide (y.size≤300)&&decide (u.size≤300)))):=⟨by rw [he];rfl⟩;clear he ep;by_cases h1:x.size>300
   ·have rj:((x.size:Int)>300)=True:=eq_true (by omega)
    have HF:Sl (false=r):=⟨by rw [← HR.ah,LJ mt (by rw [gN.ah,iQ (show ¬ x.size≤300 by omega),Dz])]⟩;go_wp2;go_ret;exact ⟨bF HF.ah,fT⟩
   ·have rj:((x.size:Int)>300)=False:=dR (by omega)
    by_cases h2:y.size>300
    ·have xf:((y.size:Int)>300)=True:=eq_true (by omega)
     have HF:Sl (false=r):=⟨by rw [← HR.ah,LJ mt (by rw [gN.ah,iQ (show ¬ y.size≤300 by omega),Dz,Hl])]⟩;go_wp2;go_ret;exact ⟨bF HF.ah,fT⟩
    ·have xf:((y.size:Int)>300)=False:=dR (by omega)
     by_cases h3:u.size>300
     ·have h3':((u.size:Int)>300)=True:=eq_true (by omega)
      have HF:Sl (false=r):=⟨by rw [← HR.ah,LJ mt (by rw [gN.ah,iQ (show ¬ u.size≤300 by omega),Hl,Hl])]⟩;go_wp2;go_ret;exact ⟨bF HF.ah,fT⟩
     ·have h3':((u.size:Int)>300)=False:=dR (by omega)
      have cJ:Sl (pG (rs.getD k uI)=true):=⟨by rw [gN.ah,iG (show x.size≤300 by omega),iG (show y.size≤300 by omega),iG (show u.size≤300 by omega)];rfl⟩;go_wp2;refine ⟨⟨k+1,by omega,by go_num,trivial,⟨fun j hj=>?_⟩⟩,by simp [intOf];omega⟩;by_cases e:j=k
      ·subst e;exact cJ.ah
      ·exact HA.ah j (by omega)
  ·obtain rfl:k=n1:=by omega
   have eg:((k:Int)<(k:Int))=False:=dR (by omega);have gE:Sl (rs.all pG=true):=⟨WO (fun j hj=>HA.ah j (by rw [lw.ah];exact hj))⟩;by_cases h30:k≤30
   ·have agP:((k:Int)≤30)=True:=eq_true (by omega)
    have HF:Sl (P8 os=r):=⟨by rw [← HR.ah];unfold JC;rw [gE.ah,iG (show rs.length≤30 by rw [← lw.ah];exact h30),JF,JF]⟩;go_wp2_with fail
    refine (F6.ah).mono ?_;rintro e w5 ⟨rfl,rfl⟩;go_wp2;go_ret;exact ⟨bF HF.ah,fT⟩
   ·have agP:((k:Int)≤30)=False:=dR (by omega)
    have alE:(30:Int)<(k:Int):=by omega
    have HF:Sl (false=r):=⟨by rw [← HR.ah];unfold JC;rw [iQ (show ¬ rs.length≤30 by rw [← lw.ah];exact h30),Dz,Hl]⟩;go_wp2;go_ret;exact ⟨bF HF.ah,fT⟩
end
end Go.Proofs.YtlahonjmfecikaaGreatDoor.bP
