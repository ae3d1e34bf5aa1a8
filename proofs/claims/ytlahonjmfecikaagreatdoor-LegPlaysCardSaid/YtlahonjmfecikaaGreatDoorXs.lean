/- Texts, joined. -/
import Derived.Test.YtlahonjmfecikaaGreatDoorXf
set_option maxRecDepth 100000
set_option maxHeartbeats 64000000
set_option linter.unusedVariables false
set_option linter.unusedSimpArgs false
open Go.Proofs.Tryz
namespace Go.Proofs.YtlahonjmfecikaaGreatDoor.bP
open Go.RowKit Nam
open fM (token)
section
variable {rs:List Rb} {ts:List Int} {k:Nat} {s:ByteArray}
def nU (r:Rb):Bool:=(oH (bytes r.pre)&&decide ((bytes r.pre).getD 0 0=47))&&(oH (bytes r.dst)&&(decide (bytes r.rA=[])||token (bytes r.rA)))
theorem Du (r:Rb):Xc r=(nU r&&!decide (63∈bytes r.pre)):=by
 unfold Xc nU oH;have h1:decide ((bytes r.pre).getD 0 0=47)=(decide (0<(bytes r.pre).length)&&decide ((bytes r.pre).getD 0 0=47)):=by
  cases hb:bytes r.pre with
  | nil=>rfl
  | cons x l=>simp
 have h2:decide (0<(bytes r.dst).length)=!decide (bytes r.dst=[]):=by
  cases hb:bytes r.dst with
  | nil=>rfl
  | cons x l=>simp
 rw [h1,h2];cases decide (0<(bytes r.pre).length)<;>cases decide ((bytes r.pre).getD 0 0=47)<;>cases oV (bytes r.pre)<;>cases decide (63∈bytes r.pre)<;>cases decide (bytes r.rA=[])<;>cases token (bytes r.rA)<;>cases decide (bytes r.dst=[])<;>cases oV (bytes r.dst)<;>rfl
def NI (x:Int):Bool:=decide (1≤x)&&decide (x≤1073741824)
theorem Fp (rs:List Rb) (n1 n2:Nat) (tb ms fr ct bs ot sh id po cl:Int) (hn:n1=rs.length) (h:n1<1∨n1>16∨n2>16∨tb<1∨tb>64∨ms<1∨ms>65536∨fr<1∨fr>65536∨ct<1∨ct>1024∨bs<ms∨bs>4194304∨ot<1∨ot>65536):mD rs n2 tb ms fr ct bs ot sh id po cl=false:=by
 unfold mD Ak sH Am;subst hn;simp only [List.any_cons,List.any_nil,Bool.and_eq_false_iff,Bool.not_eq_false',Bool.or_eq_true,Ap,JI];omega
theorem LG (rs:List Rb) (n1 n2:Nat) (tb ms fr ct bs ot sh id po cl:Int) (hn:n1=rs.length) (h:¬ (n1<1∨n1>16∨n2>16∨tb<1∨tb>64∨ms<1∨ms>65536∨fr<1∨fr>65536∨ct<1∨ct>1024∨bs<ms∨bs>4194304∨ot<1∨ot>65536)):mD rs n2 tb ms fr ct bs ot sh id po cl=((List.range rs.length).all (o9 rs)&&([sh,id,po,cl]:List Int).all NI):=by
 subst hn;unfold mD Ak sH Am NI;rw [iG (show 1≤rs.length by omega),iG (show rs.length≤16 by omega),iG (show n2≤16 by omega)];simp only [JF];congr 1;rw [QL];simp only [List.any_cons,List.any_nil,List.all_cons,List.all_nil,Bool.not_eq_true',Xk,JG,Ap,JI,Bool.or_false,Bool.and_true];omega
theorem NJ (hk:k<rs.length) (h:o9 rs k=false):((List.range rs.length).all (o9 rs)&&ts.all NI)=false:=by
 rw [show (List.range rs.length).all (o9 rs)=false from by rw [List.all_eq_false];exact ⟨k,List.mem_range.2 hk,by rw [h];decide⟩];rfl
theorem NK (hk:k<ts.length) (h:NI (ts.getD k 0)=false):((List.range rs.length).all (o9 rs)&&ts.all NI)=false:=by
 rw [show ts.all NI=false from by rw [List.all_eq_false];exact ⟨ts.getD k 0,by rw [iw,lD hk];exact Hg _,by rw [h];decide⟩,Hl]
theorem UF (h:∀ k,k<rs.length→o9 rs k=true) (g:∀ k,k<ts.length→NI (ts.getD k 0)=true):((List.range rs.length).all (o9 rs)&&ts.all NI)=true:=by
 rw [JG,NR,NR];refine ⟨fun k hk=>h k (List.mem_range.1 hk),fun x hx=>?_⟩;obtain ⟨k,hk,rfl⟩:=QK hx;have:=g k hk;rwa [iw,lD hk] at this
theorem WN (h:∀ j,j<s.size→(bytes s).getD j 0≠63):decide (63∈bytes s)=false:=by
 rw [iQ];intro hm;obtain ⟨j,hj,e⟩:=QK hm;refine h j (by rw [← au];exact hj) ?_;rw [iw,lD hj];exact e
theorem XT {j:Nat} (hj:j<s.size) (h:(bytes s).getD j 0=63):decide (63∈bytes s)=true:=by
 rw [iG];have hl:j<(bytes s).length:=by rw [au];exact hj
 rw [← h,iw,lD hl];exact Hg _
theorem LH (rs:List Rb) (a1:Option Addr) (n1 c1:Nat) (a2:Option Addr) (n2 c2:Nat) (tb ms fr ct bs ot sh id po cl:Int) (W:World) (hv:ja W (.slice a1 n1 c1) rs) (ok:∀ r∈rs,Xd r) (hl:rs.length≤1000000) (r:Bool) (hr:mD rs n2 tb ms fr ct bs ot sh id po cl=r) :
 Calls prog 14 #[.agg #[.slice a1 n1 c1,.slice a2 n2 c2,.int .i64 tb,.int .i64 ms,.int .i64 fr,.int .i64 ct,.int .i64 bs,.int .i64 ot,.int .i64 sh,.int .i64 id,.int .i64 po,.int .i64 cl]] W fun en w'=>en=.returned (.bool r)∧Sl (Below W.heap.size W w'):=by
 obtain ⟨wa,cz,fT,hx⟩:=xR W #[.slice a1 n1 c1,.slice a2 n2 c2,.int .i64 tb,.int .i64 ms,.int .i64 fr,.int .i64 ct,.int .i64 bs,.int .i64 ot,.int .i64 sh,.int .i64 id,.int .i64 po,.int .i64 cl];have HX:=Sl.mk hx;have HV0:=Sl.mk hv;have nm:=Sl.mk ok;have lw:Sl (n1=rs.length):=⟨hv.cap.1⟩;have HR:=Sl.mk hr;have db:n1≤c1:=hv.cap.2.1;have PL:Sl (∀ V s r,s.size≤maxLen→oH (bytes s)=r→Calls prog 41 #[.string s] V fun e w'=>e=.returned (.bool r)∧V=w'):=⟨fun V s r h1 h2=>Ll s V h1 r h2⟩;have TK:Sl (∀ V s,s.size≤maxLen→Calls prog 42 #[.string s] V fun e w'=>e=.returned (.bool (token (bytes s)))∧V=w'):=⟨fun V s h=>(Ld s V h).mono fun e w' ⟨h1,h2⟩=>⟨h1,h2.symm⟩⟩;obtain ⟨g,fW⟩:=zX W.heap.size;have al:=Sl.mk fW;rw [fW] at HX fT ⊢;have nA:n1≤1000000:=by rw [lw.ah];exact hl
 clear hx hv hr ok;go_enter func14,ntmps14;go_upto_region 1 with fail
 (try rw [cz]);(try rw [fW]);clear cz fW;have k0:=aB HX.ah 0 _ rfl;have k1:=aB HX.ah 1 _ rfl;have k2:=aB HX.ah 2 _ rfl;have k3:=aB HX.ah 3 _ rfl;have k4:=aB HX.ah 4 _ rfl;have k5:=aB HX.ah 5 _ rfl;have k6:=aB HX.ah 6 _ rfl;have k7:=aB HX.ah 7 _ rfl;obtain ⟨F,hF⟩:=zX (decide (n1<1∨n1>16∨n2>16∨tb<1∨tb>64∨ms<1∨ms>65536∨fr<1∨fr>65536∨ct<1∨ct>1024∨bs<ms∨bs>4194304∨ot<1∨ot>65536));have HF:=Sl.mk hF;go_cut [86] (fun s86 wx=>s86=.bool F∧wa=wx)
 case first =>
  by_cases h0:n1<1
  ·have d0:((n1:Int)<1)=True:=eq_true (by omega)
   obtain rfl:F=true:=by rw [← hF];exact iG (Or.inl h0)
   go_wp2_with fail
   go_meet;exact ⟨rfl,rfl⟩
  ·have d0:((n1:Int)<1)=False:=dR (by omega)
   have e0:(1:Int)≤(n1:Int):=by omega
   by_cases h1:n1>16
   ·have d1:((n1:Int)>16)=True:=eq_true (by omega)
    obtain rfl:F=true:=by rw [← hF];exact iG (Or.inr (Or.inl h1))
    go_wp2_with fail
    go_meet;exact ⟨rfl,rfl⟩
   ·have d1:((n1:Int)>16)=False:=dR (by omega)
    by_cases h2:n2>16
    ·have d2:((n2:Int)>16)=True:=eq_true (by omega)
     obtain rfl:F=true:=by rw [← hF];exact iG (Or.inr (Or.inr (Or.inl h2)))
     go_wp2_with fail
     go_meet;exact ⟨rfl,rfl⟩
    ·have d2:((n2:Int)>16)=False:=dR (by omega)
     by_cases h3:tb<1
     ·have d3:(tb<1)=True:=eq_true (by omega)
      obtain rfl:F=true:=by rw [← hF];exact iG (Or.inr (Or.inr (Or.inr (Or.inl h3))))
      go_wp2_with fail
      go_meet;exact ⟨rfl,rfl⟩
     ·have d3:(tb<1)=False:=dR (by omega)
      have e3:1≤tb:=by omega
      by_cases h4:tb>64
      ·have d4:(tb>64)=True:=eq_true (by omega)
       obtain rfl:F=true:=by rw [← hF];exact iG (Or.inr (Or.inr (Or.inr (Or.inr (Or.inl h4)))))
       go_wp2_with fail
       go_meet;exact ⟨rfl,rfl⟩
      ·have d4:(tb>64)=False:=dR (by omega)
       have e4:tb≤64:=by omega
       by_cases h5:ms<1
       ·have d5:(ms<1)=True:=eq_true (by omega)
        obtain rfl:F=true:=by rw [← hF];exact iG (Or.inr (Or.inr (Or.inr (Or.inr (Or.inr (Or.inl h5))))))
        go_wp2_with fail
        go_meet;exact ⟨rfl,rfl⟩
       ·have d5:(ms<1)=False:=dR (by omega)
        have e5:1≤ms:=by omega
        by_cases h6:ms>65536
        ·have d6:(ms>65536)=True:=eq_true (by omega)
         obtain rfl:F=true:=by rw [← hF];exact iG (Or.inr (Or.inr (Or.inr (Or.inr (Or.inr (Or.inr (Or.inl h6)))))))
         go_wp2_with fail
         go_meet;exact ⟨rfl,rfl⟩
        ·have d6:(ms>65536)=False:=dR (by omega)
         have e6:ms≤65536:=by omega
         by_cases h7:fr<1
         ·have d7:(fr<1)=True:=eq_true (by omega)
          obtain rfl:F=true:=by rw [← hF];exact iG (Or.inr (Or.inr (Or.inr (Or.inr (Or.inr (Or.inr (Or.inr (Or.inl h7))))))))
          go_wp2_with fail
          go_meet;exact ⟨rfl,rfl⟩
         ·have d7:(fr<1)=False:=dR (by omega)
          have e7:1≤fr:=by omega
          by_cases h8:fr>65536
          ·have d8:(fr>65536)=True:=eq_true (by omega)
           obtain rfl:F=true:=by rw [← hF];exact iG (Or.inr (Or.inr (Or.inr (Or.inr (Or.inr (Or.inr (Or.inr (Or.inr (Or.inl h8)))))))))
           go_wp2_with fail
           go_meet;exact ⟨rfl,rfl⟩
          ·have d8:(fr>65536)=False:=dR (by omega)
           have e8:fr≤65536:=by omega
           by_cases h9:ct<1
           ·have d9:(ct<1)=True:=eq_true (by omega)
            obtain rfl:F=true:=by rw [← hF];exact iG (Or.inr (Or.inr (Or.inr (Or.inr (Or.inr (Or.inr (Or.inr (Or.inr (Or.inr (Or.inl h9))))))))))
            go_wp2_with fail
            go_meet;exact ⟨rfl,rfl⟩
           ·have d9:(ct<1)=False:=dR (by omega)
            have e9:1≤ct:=by omega
            by_cases gD:ct>1024
            ·have d10:(ct>1024)=True:=eq_true (by omega)
             obtain rfl:F=true:=by rw [← hF];exact iG (Or.inr (Or.inr (Or.inr (Or.inr (Or.inr (Or.inr (Or.inr (Or.inr (Or.inr (Or.inr (Or.inl gD)))))))))))
             go_wp2_with fail
             go_meet;exact ⟨rfl,rfl⟩
            ·have d10:(ct>1024)=False:=dR (by omega)
             have e10:ct≤1024:=by omega
             by_cases Yr:bs<ms
             ·have d11:(bs<ms)=True:=eq_true (by omega)
              obtain rfl:F=true:=by rw [← hF];exact iG (Or.inr (Or.inr (Or.inr (Or.inr (Or.inr (Or.inr (Or.inr (Or.inr (Or.inr (Or.inr (Or.inr (Or.inl Yr))))))))))))
              go_wp2_with fail
              go_meet;exact ⟨rfl,rfl⟩
             ·have d11:(bs<ms)=False:=dR (by omega)
              have e11:ms≤bs:=by omega
              by_cases h12:bs>4194304
              ·have d12:(bs>4194304)=True:=eq_true (by omega)
               obtain rfl:F=true:=by rw [← hF];exact iG (Or.inr (Or.inr (Or.inr (Or.inr (Or.inr (Or.inr (Or.inr (Or.inr (Or.inr (Or.inr (Or.inr (Or.inr (Or.inl h12)))))))))))))
               go_wp2_with fail
               go_meet;exact ⟨rfl,rfl⟩
              ·have d12:(bs>4194304)=False:=dR (by omega)
               have e12:bs≤4194304:=by omega
               by_cases h13:ot<1
               ·have d13:(ot<1)=True:=eq_true (by omega)
                obtain rfl:F=true:=by rw [← hF];exact iG (Or.inr (Or.inr (Or.inr (Or.inr (Or.inr (Or.inr (Or.inr (Or.inr (Or.inr (Or.inr (Or.inr (Or.inr (Or.inr (Or.inl h13))))))))))))))
                go_wp2_with fail
                go_meet;exact ⟨rfl,rfl⟩
               ·have d13:(ot<1)=False:=dR (by omega)
                have e13:1≤ot:=by omega
                by_cases h14:ot>65536
                ·have d14:(ot>65536)=True:=eq_true (by omega)
                 obtain rfl:F=true:=by rw [← hF];exact iG (Or.inr (Or.inr (Or.inr (Or.inr (Or.inr (Or.inr (Or.inr (Or.inr (Or.inr (Or.inr (Or.inr (Or.inr (Or.inr (Or.inr (h14)))))))))))))))
                 go_wp2_with fail
                 go_meet;exact ⟨rfl,rfl⟩
                ·have d14:(ot>65536)=False:=dR (by omega)
                 have e14:ot≤65536:=by omega
                 obtain rfl:F=false:=by rw [← hF];exact iQ (by omega)
                 go_wp2_with fail
                 go_meet;exact ⟨rfl,rfl⟩
 case rest =>
  obtain ⟨rfl,rfl⟩:=hcut;cases F with
  | true =>
    have HV:Sl (false=r):=⟨by rw [← HR.ah,Fp rs n1 n2 tb ms fr ct bs ot sh id po cl lw.ah (QE HF.ah)]⟩;go_wp2;go_ret;exact ⟨bF HV.ah,fT⟩
  | false =>
    have HG:Sl (((List.range rs.length).all (o9 rs)&&([sh,id,po,cl]:List Int).all NI)=r):=⟨by rw [← HR.ah,LG rs n1 n2 tb ms fr ct bs ot sh id po cl lw.ah (of_decide_eq_false HF.ah)]⟩;clear HR HF hF k1 k2 k3 k4 k5 k6 k7;have k8:=aB HX.ah 8 _ rfl;have k9:=aB HX.ah 9 _ rfl;have uc:=aB HX.ah 10 _ rfl;have ud:=aB HX.ah 11 _ rfl;obtain ⟨wb,gR,Mb,ht⟩:∃ V,wa.alloc (.cells #[.int .i64 sh,.int .i64 id,.int .i64 po,.int .i64 cl] 3)=V∧Sl (Below wa.heap.size wa V)∧V.heap[wa.heap.size]? = some (.cells #[.int .i64 sh,.int .i64 id,.int .i64 po,.int .i64 cl] 3 (0,0)):=⟨_,rfl,⟨(dW _ _).alloc (aY _) _⟩,aI _ _ _ rfl⟩;have HT:=Sl.mk ht;have Mp:=Sl.mk (ay HX.ah Mb.ah);have bS:Sl (g≤wa.heap.size):=⟨by rw [← al.ah];exact fT.ah.size⟩;have K0:Sl (Below g W wb):=⟨fT.ah.trans (Mb.ah.mono bS.ah)⟩;obtain ⟨gt,sg⟩:=zX wa.heap.size;rw [sg] at HT;go_upto_region 4 with fail
    (try rw [gR]);(try rw [sg]);clear ht gR sg Mb HX fT k0 k8 k9 uc ud;go_wp2;go_loopw [4] (fun i wr=>∃ k:Nat,k≤4∧i=.int .i64 k∧wb=wr∧Sl (∀ j,j<k→NI (([sh,id,po,cl]:List Int).getD j 0)=true)) (fun i _=>4-(intOf i).toNat)
    case atStart=>exact ⟨0,ku _,rfl,rfl,⟨fun j hj=>by omega⟩⟩
    case round =>
     obtain ⟨k,hk,rfl,rfl,HA⟩:=hrel;by_cases bz:k<4
     ·have hq:((k:Int)<4)=True:=eq_true (by omega)
      obtain ⟨x,hx⟩:=zX (([sh,id,po,cl]:List Int).getD k 0);have df:=Sl.mk hx;have c0:wb.cell? ⟨gt,k,none⟩=some (.int .i64 x):=by
       rw [jg _ _ _ _ _ _ HT.ah,← hx];rcases (show k=0∨k=1∨k=2∨k=3 by omega) with rfl | rfl | rfl | rfl<;>rfl
      have Dr:(0:Int)≤(k:Int):=by omega
      clear hx;by_cases h1:x<1
      ·have rj:(x<1)=True:=eq_true h1
       have HV:Sl (false=r):=⟨by rw [← HG.ah,NK (ts:=[sh,id,po,cl]) (k:=k) bz (by rw [df.ah];unfold NI;rw [iQ (by omega)];rfl)]⟩;go_wp2;go_ret;exact ⟨bF HV.ah,K0⟩
      ·have rj:(x<1)=False:=dR h1
       have h1q:1≤x:=by omega
       by_cases h2:x>1073741824
       ·have xf:(x>1073741824)=True:=eq_true h2
        have HV:Sl (false=r):=⟨by rw [← HG.ah,NK (ts:=[sh,id,po,cl]) (k:=k) bz (by rw [df.ah];unfold NI;rw [iQ (show ¬ x≤1073741824 by omega),Hl])]⟩;go_wp2;go_ret;exact ⟨bF HV.ah,K0⟩
       ·have xf:(x>1073741824)=False:=dR h2
        have h2q:x≤1073741824:=by omega
        have cJ:Sl (NI x=true):=⟨by unfold NI;rw [iG h1q,iG h2q];rfl⟩;go_wp2;refine ⟨⟨k+1,by omega,by go_num,trivial,⟨fun j hj=>?_⟩⟩,by simp [intOf];omega⟩;by_cases e:j=k
        ·subst e;rw [df.ah];exact cJ.ah
        ·exact HA.ah j (by omega)
     ·obtain rfl:k=4:=by omega
      have HTM:=HA;clear bz hk;go_wp2;go_loopw [5] (fun i wr=>∃ k:Nat,k≤n1∧i=.int .i64 k∧Sl (Below g W wr)∧Sl (wr.heap[g]? = some (.cells #[.slice a1 n1 c1,.slice a2 n2 c2,.int .i64 tb,.int .i64 ms,.int .i64 fr,.int .i64 ct,.int .i64 bs,.int .i64 ot,.int .i64 sh,.int .i64 id,.int .i64 po,.int .i64 cl] 25 (0,0)))∧Sl (∀ j,j<k→o9 rs j=true)) (fun i _=>n1-(intOf i).toNat)
      case atStart=>exact ⟨0,ku _,rfl,K0,Mp,⟨fun j hj=>by omega⟩⟩
      case round =>
       clear Mp K0 HT;obtain ⟨k,hk,rfl,HB,HX,HA⟩:=hrel;have e0:wr.cell? ⟨g,0,none⟩=some (.slice a1 n1 c1):=aB HX.ah 0 _ rfl;by_cases bz:k<n1
       ·have hq:((k:Int)<(n1:Int))=True:=eq_true (by omega)
        have mt:k<rs.length:=by rw [← lw.ah];exact bz
        obtain ⟨sb,so,rfl⟩:=HV0.ah.cap.2.2 (by omega);obtain ⟨x,y,u,he⟩:∃ x y z,rs.getD k uI=⟨x,y,z⟩:=⟨_,_,_,rfl⟩;have HE:=Sl.mk he;have ep:Xd ⟨x,y,u⟩:=by
         rw [← he];refine nm.ah _ ?_;rw [iw,lD mt];exact Hg _
        have hBW:Below W.heap.size W wr:=by rw [al.ah];exact HB.ah
        obtain ⟨c0,c1',c2'⟩:=(HV0.ah.below hBW).VW k mt he;obtain ⟨wx,Yo,HBx,hx⟩:=Ue wr;obtain ⟨wy,hwy,HBy,jn⟩:=Uf hx HBx.ah (aY _) #[.string x,.string y,.string u];have HI:(prog.info? 72).map (·.size)=some (#[Value.string x,.string y,.string u]:Array Value).size:=Nk rfl;have HXy:=Sl.mk (ay HX.ah HBy.ah);have HWy:Sl (Below W.heap.size W wy):=⟨hBW.trans (HBy.ah.mono hBW.size)⟩;have HBz:Sl (Below g W wy):=⟨by rw [← al.ah];exact HWy.ah⟩;have jp:Sl (g≤wy.heap.size):=⟨by rw [← al.ah];exact HWy.ah.size⟩;have hsx:x.size≤1000000:=ep.1;have M1:x.size≤maxLen:=jd ep.1 (by decide);have M2:y.size≤maxLen:=jd ep.2.1 (by decide);have M3:u.size≤maxLen:=jd ep.2.2 (by decide);obtain ⟨p1,GQ⟩:=zX (oH (bytes x));obtain ⟨p3,Yl⟩:=zX (oH (bytes u));have Q1:=Sl.mk (PL.ah wy x p1 M1 GQ);have Q3:=Sl.mk (PL.ah wy u p3 M3 Yl);have Q5:=Sl.mk (TK.ah wy y M2);obtain ⟨p2,Bp⟩:∃ p,decide ((bytes x).getD 0 0=47)=p:=⟨_,rfl⟩;obtain ⟨p4,Fd⟩:∃ p,decide (bytes y=[])=p:=⟨_,rfl⟩;obtain ⟨p5,hp5⟩:=zX (token (bytes y));rw [hp5] at Q5;obtain ⟨H,hH⟩:=zX (nU ⟨x,y,u⟩);have HH:=Sl.mk hH;have Yt:Sl (((p1&&p2)&&(p3&&(p4||p5)))=H):=⟨by rw [← hH];unfold nU;simp only;rw [GQ,Bp,Yl,Fd,hp5]⟩;have Gc:=Sl.mk GQ;have zv:=Sl.mk Bp;have Kc:=Sl.mk Fd;have Dr:(0:Int)≤(k:Int):=by omega
        have HNO:Sl (Xc ⟨x,y,u⟩=false→false=r):=⟨fun h=>by rw [← HG.ah,NJ (k:=k) mt (by unfold o9;rw [HE.ah,h];rfl)]⟩;clear he GQ Bp Yl Fd hp5 hH ep M1 M2 M3;go_upto_region 13 with (refine fG rfl 72 (.tmp 6) (.tmp 125) rfl wr.heap.size #[.string x,.string y,.string u] rfl rfl 72 #[.string {data:=#[]},.string {data:=#[]},.string {data:=#[]}] hx HI rfl (Ud _ _ _) ?_)
        (try rw [hwy]);clear Yo hwy hx HBx c0 c1' c2' e0 HX hBW;obtain ⟨g6,fW⟩:=zX wr.heap.size;rw [fW] at jn;(try rw [fW]);clear fW HBy HB;obtain ⟨d0,d1,d2⟩:=lW jn.ah;simp only [Act.put];go_cut [152] (fun agL wx=>agL=.bool (!H)∧wy=wx)
        case first =>
         cases p1 with
         | false =>
           go_wp2_with fail
           refine (Q1.ah).mono ?_;rintro e w3 ⟨rfl,rfl⟩;go_wp2_with fail
           go_meet;exact ⟨by rw [← Yt.ah];rfl,rfl⟩
         | true =>
           have mU:0<x.size:=by
            have:=Gc.ah;unfold oH at this;rw [JG,Ap,au] at this;exact this.2
           obtain ⟨c,hc⟩:=zX ((x[0]'mU).toNat);have HC:=Sl.mk (A8 mU hc);cases p2 with
           | false =>
             have agM:¬ c=47:=fun e=>by have:=zv.ah;rw [HC.ah,iG e] at this;cases this
             have qr:((c:Int) != 47)=true:=bne_iff_ne.2 (by omega);clear agM;go_wp2_with fail
             refine (Q1.ah).mono ?_;rintro e w3 ⟨rfl,rfl⟩;go_wp2_with fail
             go_meet;exact ⟨by rw [← Yt.ah];rfl,rfl⟩
           | true =>
             obtain rfl:c=47:=by have:=zv.ah;rw [HC.ah] at this;exact QE this
             go_wp2_with fail
             refine (Q1.ah).mono ?_;rintro e w3 ⟨rfl,rfl⟩;cases p3 with
             | false =>
               go_wp2_with fail
               refine (Q3.ah).mono ?_;rintro e w4 ⟨rfl,rfl⟩;go_wp2_with fail
               go_meet;exact ⟨by rw [← Yt.ah];rfl,rfl⟩
             | true =>
               go_wp2_with fail
               refine (Q3.ah).mono ?_;rintro e w4 ⟨rfl,rfl⟩;cases p4 with
               | true =>
                 obtain ⟨l1,l2,l3⟩:=GX Kc.ah;go_wp2_with fail
                 go_meet;exact ⟨by rw [← Yt.ah];rfl,rfl⟩
               | false =>
                 obtain ⟨l1,l2,l3⟩:=Lm Kc.ah;go_wp2_with fail
                 refine (Q5.ah).mono ?_;rintro e w5 ⟨rfl,rfl⟩;cases p5<;>(go_wp2_with fail;go_meet;exact ⟨by rw [← Yt.ah];rfl,rfl⟩)
        case rest =>
         obtain ⟨rfl,rfl⟩:=hcut;clear Q1 Q3 Q5 Yt Gc zv Kc d0 d1 d2;obtain ⟨d0,d1,d2⟩:=lW jn.ah;cases H with
         | false =>
           have HV:Sl (false=r):=⟨HNO.ah (by rw [Du,HH.ah];rfl)⟩;go_wp2;go_ret;exact ⟨bF HV.ah,HBz⟩
         | true =>
           rw [Bool.not_true];go_wp2;go_loopw [7] (fun i wr=>∃ m:Nat,m≤x.size∧i=.int .i64 m∧wy=wr∧Sl (∀ j,j<m→(bytes x).getD j 0≠63)) (fun i _=>x.size-(intOf i).toNat)
           case atStart=>exact ⟨0,ku _,rfl,rfl,⟨fun j hj=>by omega⟩⟩
           case round =>
            obtain ⟨m,hm,rfl,rfl,HM⟩:=hrel;by_cases ZQ:m<x.size
            ·have mw:((m:Int)<(x.size:Int))=True:=eq_true (by omega)
             obtain ⟨c,hc⟩:=zX ((x[m]'ZQ).toNat);have HC:=Sl.mk (A8 ZQ hc);by_cases Lq:c=63
             ·subst Lq
              have HV:Sl (false=r):=⟨HNO.ah (by rw [Du,XT ZQ HC.ah,Bool.not_true,Hl])⟩;go_wp2;go_ret;exact ⟨bF HV.ah,HBz⟩
             ·have alB:((c:Int)==63)=false:=mJ.2 (by omega)
              have J1:Sl (c≠63):=⟨Lq⟩;clear Lq;go_wp2;refine ⟨⟨m+1,by omega,by go_num,trivial,⟨fun j hj=>?_⟩⟩,by simp [intOf];omega⟩;by_cases e:j=m
              ·subst e;rw [HC.ah];exact J1.ah
              ·exact HM.ah j (by omega)
            ·obtain rfl:m=x.size:=by omega
             have BW:((x.size:Int)<(x.size:Int))=False:=dR (by omega);have agN:Sl (Xc ⟨x,y,u⟩=true):=⟨by rw [Du,HH.ah,WN HM.ah];rfl⟩;clear HM ZQ hm;go_wp2;go_loopw [8] (fun i wr=>∃ m:Nat,m≤k∧i=.int .i64 m∧Sl (Below wy.heap.size wy wr)∧Sl (∀ j,j<m→uQ (rs.getD j uI).pre (rs.getD j uI).rA (rs.getD j uI).dst x y u=false)) (fun i _=>k-(intOf i).toNat)
             case atStart=>exact ⟨0,ku _,rfl,⟨dW _ _⟩,⟨fun j hj=>by omega⟩⟩
             case round =>
              clear d0 d1 d2;obtain ⟨m,hm,rfl,lA,HM⟩:=hrel;have pv:=Sl.mk (ay HXy.ah lA.ah);have HR8:=Sl.mk (ay jn.ah lA.ah);have e0:wr.cell? ⟨g,0,none⟩=some (.slice (some ⟨sb,so,none⟩) n1 c1):=aB pv.ah 0 _ rfl;have K3:Sl (Below g W wr):=⟨HBz.ah.trans (lA.ah.mono jp.ah)⟩;by_cases pA:m<k
              ·have Mw:((m:Int)<(k:Int))=True:=eq_true (by omega)
               have Wz:m<rs.length:=by omega
               obtain ⟨x',y',u',hf⟩:∃ x y z,rs.getD m uI=⟨x,y,z⟩:=⟨_,_,_,rfl⟩;have HFJ:=Sl.mk hf;obtain ⟨q,Ff⟩:=zX (uQ x' y' u' x y u);have HQ:=Sl.mk Ff;have EQ:=Xb x' y' u' x y u;rw [Ff] at EQ;have LO:(0:Int)≤(m:Int):=by omega
               have vo:(m:Int)<(n1:Int):=by omega
               have HVr:Sl (ja wr (.slice (some ⟨sb,so,none⟩) n1 c1) rs):=⟨HV0.ah.below (by rw [al.ah];exact K3.ah)⟩;clear hf Ff;go_upto_region 23 with fail
               clear e0;refine zG (S:=fun V=>Below wr.heap.size wr V) (by kernel_rfl) (fun Rw aM=>?_);refine zT 0 (some 170) (.fieldAddr 25 (.tmp 1) 0) _ aM ?_;simp only [zA,zB,zS];refine zT 1 (some 171) (.load 22 (.tmp 170)) _ aM ?_ (hy:=fun o' ho W hS=>by have f0:W.cell? ⟨g,0,none⟩=some (.slice (some ⟨sb,so,none⟩) n1 c1):=aB (ay pv.ah hS) 0 _ rfl;simp only [execOp,ho];go_simp;try rfl);simp only [zA,zB,zS];refine zT 2 (some 172) (.move (.tmp 8)) _ aM ?_;simp only [zA,zB,zS];refine zT 3 (some 173) (.indexAddr 22 (.tmp 171) (.tmp 172)) _ aM ?_;simp only [zA,zB,zS];refine zT 4 (some 174) (.load 72 (.tmp 173)) _ aM ?_ (hy:=fun o' ho W hS=>by obtain ⟨f0,f1,f2⟩:=(HVr.ah.below hS).VW m Wz HFJ.ah;simp only [execOp,ho];go_simp;try rfl);simp only [zA,zB,zS];refine zT 5 (some 175) (.load 72 (.tmp 6)) _ aM ?_ (hy:=fun o' ho W hS=>by obtain ⟨f0,f1,f2⟩:=lW (ay HR8.ah hS);simp only [execOp,ho];go_simp;try rfl);simp only [zA,zB,zS];refine zT 6 (some 176) (.binOp .eql 72 (.tmp 174) (.tmp 175) 72) (.bool q) aM ?_ (hy:=fun o' ho W hS=>by exact by simp only [execOp,ho];go_simp;first | done | simp [binOp,Op.equal,Op.maxDepth,EQ W]);simp only [zA,zB,zS];refine zE (by kernel_rfl) ?_;have HBQ:Sl (Below wy.heap.size wy Rw):=⟨lA.ah.trans (aM.mono lA.ah.size)⟩;have mC:Sl (Below g W Rw):=⟨HBz.ah.trans (HBQ.ah.mono jp.ah)⟩;cases q with
               | true =>
                 have HV:Sl (false=r):=⟨by
                  rw [← HG.ah,NJ (k:=k) mt];unfold o9;rw [HE.ah,E5 (l:=rs.take k) (k:=m) (by rw [kQ];omega),Bool.not_true,Hl];rw [show (rs.take k).getD m uI=rs.getD m uI from by rw [iw,iw,NP pA],HFJ.ah];exact HQ.ah⟩
                 go_wp2;go_ret;exact ⟨bF HV.ah,mC⟩
               | false =>
                 go_wp2;refine ⟨⟨m+1,by omega,by go_num,HBQ,⟨fun j hj=>?_⟩⟩,by simp [intOf];omega⟩;by_cases e:j=m
                 ·subst e;rw [HFJ.ah];exact HQ.ah
                 ·exact HM.ah j (by omega)
              ·obtain rfl:m=k:=by omega
               have alD:((m:Int)<(m:Int))=False:=dR (by omega);have Mi:Sl (o9 rs m=true):=⟨by
                unfold o9;rw [HE.ah,agN.ah,C9 (fun j hj=>?_)];rfl;rw [kQ] at hj;rw [show (rs.take m).getD j uI=rs.getD j uI from by rw [iw,iw,NP (by omega)]];exact HM.ah j (by omega)⟩
               go_wp2;refine ⟨⟨m+1,by omega,by go_num,K3,pv,⟨fun j hj=>?_⟩⟩,by simp [intOf];omega⟩;by_cases e:j=m
               ·subst e;exact Mi.ah
               ·exact HA.ah j (by omega)
       ·obtain rfl:k=n1:=by omega
        have eg:((k:Int)<(k:Int))=False:=dR (by omega);have HV:Sl (true=r):=⟨by rw [← HG.ah,UF (fun j hj=>HA.ah j (by rw [lw.ah];exact hj)) (fun j hj=>HTM.ah j hj)]⟩;go_wp2;go_ret;exact ⟨bF HV.ah,HB⟩
end
end Go.Proofs.YtlahonjmfecikaaGreatDoor.bP
