/- Texts, joined. -/
import Derived.Test.YtlahonjmfecikaaGreatDoorXa
import Derived.Laws.StructEq
set_option maxRecDepth 100000
set_option maxHeartbeats 64000000
set_option linter.unusedVariables false
set_option linter.unusedSimpArgs false
open Go.Proofs.Tryz
namespace Go.Proofs.YtlahonjmfecikaaGreatDoor.gK
open Go.RowKit aO aC jF
section
variable {f:Fr} {W:World} {m:Bool} {a b c d:Nat} {s:ByteArray}
theorem dQ (w:World) (cs:Array Value):(w.alloc (.cells cs 61)).heap[w.heap.size]? = some (.cells cs 61 (0,0)):=aI _ _ _ rfl
theorem fQ (w:World) (o:Obj):Sl (Below w.heap.size w (w.alloc o)):=⟨(dW _ _).alloc (aY _) _⟩
def W9 (aN:Bool) (op:Int):Bool:=if aQ op then aN else decide (0≤op)&&decide (op≤2)
theorem rG (op:Int) (w:World):Calls prog 138 #[.int .i64 op] w fun e w'=>e=.returned (.bool (aQ op))∧w=w':=by
 by_cases h8:op=8
 ·subst h8
  go_enter func138,ntmps138;go_wp2;go_ret;exact ⟨rfl,rfl⟩
 by_cases h9:op=9
 ·subst h9
  go_enter func138,ntmps138;go_wp2;go_ret;exact ⟨rfl,rfl⟩
 by_cases gD:op=10
 ·subst gD
  go_enter func138,ntmps138;go_wp2;go_ret;exact ⟨rfl,rfl⟩
 ·have e8:(op==8)=false:=mJ.2 h8
  have e9:(op==9)=false:=mJ.2 h9;have e10:(op==10)=false:=mJ.2 gD;have hr:aQ op=false:=by unfold aQ;rw [Bool.and_eq_false_iff,JI,JI];omega
  rw [hr];clear hr h8 h9 gD;go_enter func138,ntmps138;go_wp2;go_ret;exact ⟨rfl,rfl⟩
theorem rH (op:Int) (w:World):Calls prog 124 #[.int .i64 op] w fun e w'=>e=.returned (.bool (aQ op))∧w=w':=by
 unfold aQ;by_cases h8:8≤op
 ·have e1:(op≥8)=True:=eq_true h8
  by_cases gD:op≤10
  ·have e2:(op≤10)=True:=eq_true gD
   rw [iG h8,iG gD];clear h8 gD;go_enter func124,ntmps124;go_wp2;go_ret;exact ⟨rfl,rfl⟩
  ·have e2:(op≤10)=False:=dR gD
   rw [iG h8,iQ gD];clear h8 gD;go_enter func124,ntmps124;go_wp2;go_ret;exact ⟨rfl,rfl⟩
 ·have e1:(op≥8)=False:=dR h8
  rw [iQ h8,Dz];clear h8;go_enter func124,ntmps124;go_wp2;go_ret;exact ⟨rfl,rfl⟩
theorem Es (aN:Bool) (op:Int) (w:World):Calls prog 135 #[.bool aN,.int .i64 op] w fun e w'=>e=.returned (.bool (W9 aN op))∧w=w':=by
 obtain ⟨c,hc⟩:=zX (aQ op);have C1:∀ W,Calls prog 138 #[.int .i64 op] W fun e w'=>e=.returned (.bool c)∧W=w':=fun W=>by rw [← hc];exact rG op W
 unfold W9;rw [hc];clear hc;cases c with
 | true =>
   rw [if_pos rfl];go_enter func135,ntmps135;go_wp2_with fail
   refine (C1 _).mono ?_;rintro e w1 ⟨rfl,rfl⟩;go_wp2;go_ret;exact ⟨rfl,rfl⟩
 | false =>
   rw [if_neg (by decide)];obtain ⟨r,hr⟩:=zX (decide (0≤op)&&decide (op≤2));rw [hr];by_cases h0:op=0
   ·subst h0
    subst hr;go_enter func135,ntmps135;go_wp2_with fail
    refine (C1 _).mono ?_;rintro e w1 ⟨rfl,rfl⟩;go_wp2;go_ret;exact ⟨rfl,rfl⟩
   by_cases h1:op=1
   ·subst h1
    subst hr;go_enter func135,ntmps135;go_wp2_with fail
    refine (C1 _).mono ?_;rintro e w1 ⟨rfl,rfl⟩;go_wp2;go_ret;exact ⟨rfl,rfl⟩
   by_cases h2:op=2
   ·subst h2
    subst hr;go_enter func135,ntmps135;go_wp2_with fail
    refine (C1 _).mono ?_;rintro e w1 ⟨rfl,rfl⟩;go_wp2;go_ret;exact ⟨rfl,rfl⟩
   have e0:(op==0)=false:=mJ.2 h0;have e1:(op==1)=false:=mJ.2 h1;have e2:(op==2)=false:=mJ.2 h2;obtain rfl:r=false:=by rw [← hr,Bool.and_eq_false_iff,JI,JI];omega
   clear hr h0 h1 h2;go_enter func135,ntmps135;go_wp2_with fail
   refine (C1 _).mono ?_;rintro e w1 ⟨rfl,rfl⟩;go_wp2;go_ret;exact ⟨rfl,rfl⟩
def Oq (m:Bool):Nat:=if m then 4 else 0
theorem H7 (aN:Bool) (op:Int) (m:Bool) (a b c d:Nat) (s:ByteArray) (w:World) :
 Calls prog 160 #[(.agg (zV aN op m a b c d s))] w fun e w'=>e=.returned (.int .i64 ((Oq m:Nat):Int))∧Sl (Below w.heap.size w w'):=by
 have HB:=fQ w (.cells (zV aN op m a b c d s) 61);cases m with
 | true =>
   go_enter func160,ntmps160;go_wp2;go_ret;exact ⟨rfl,HB⟩
 | false =>
   go_enter func160,ntmps160;go_wp2;go_ret;exact ⟨rfl,HB⟩
open Go.RowKit aO aC jF
theorem RQ (f:Fr):dF f=(W9 f.aN f.op&&(!(aQ f.op)||decide (f.data.length≤125))&&(f.af||decide (f.key=bn))):=by
 unfold dF W9;cases h:aQ f.op with
 | true =>
   have:(decide (0≤f.op)&&decide (f.op≤2))=false:=by
    unfold aQ at h;rw [JG,Ap,Ap] at h;rw [Bool.and_eq_false_iff,JI,JI];omega
   rw [this];simp
 | false=>simp
theorem rJ (h:dF f=false):nI f=91:=by unfold nI;rw [if_pos h]
theorem wK (h:dF f=true) (hl:65536<f.data.length):nI f=92:=by unfold nI;rw [if_neg (by rw [h];decide),if_pos hl]
theorem tH (h:dF f=true) (hl:¬ 65536<f.data.length):nI f=0:=by unfold nI;rw [if_neg (by rw [h];decide),if_neg hl]
theorem H8 (a b c d:Nat) (hk:aU 256 [a,b,c,d]) (W:World):(Op.equalIn 10000 59 (.agg #[.int .u8 ((a:Nat):Int),.int .u8 ((b:Nat):Int),.int .u8 ((c:Nat):Int),.int .u8 ((d:Nat):Int)]) (.agg #[.int .u8 0,.int .u8 0,.int .u8 0,.int .u8 0])).run prog W=.ok (decide ([a,b,c,d]=bn)) W :=
 U6 [a,b,c,d] [0,0,0,0] rfl rfl hk (fun x hx=>by simp at hx;omega) W
theorem kY (aN:Bool) (op:Int) (m:Bool) (a b c d:Nat) (s:ByteArray) (w:World) (hk:aU 256 [a,b,c,d]) :
 Calls prog 110 #[(.agg (zV aN op m a b c d s))] w fun e w'=>e=.returned (.int .i64 ((nI (⟨aN,op,m,[a,b,c,d],bytes s⟩:Fr):Nat):Int))∧Sl (Below w.heap.size w w'):=by
 have HB:=fQ w (.cells (zV aN op m a b c d s) 61);have hF:=RQ (⟨aN,op,m,[a,b,c,d],bytes s⟩:Fr);simp only [au] at hF;obtain ⟨o,ho⟩:=zX (W9 aN op);obtain ⟨g,hg⟩:=zX (aQ op);have C1:∀ W,Calls prog 135 #[.bool aN,.int .i64 op] W fun e w'=>e=.returned (.bool o)∧W=w':=fun W=>by rw [← ho];exact Es aN op W
 have C2:∀ W,Calls prog 138 #[.int .i64 op] W fun e w'=>e=.returned (.bool g)∧W=w':=fun W=>by rw [← hg];exact rG op W
 have hEq:=H8 a b c d hk;rw [ho,hg] at hF;obtain ⟨z,hz⟩:∃ z,decide ([a,b,c,d]=bn)=z:=⟨_,rfl⟩;rw [hz] at hF hEq;obtain ⟨l,hl⟩:=zX (decide (s.size≤125));rw [hl] at hF;have Vn:((s.size:Int)>125)=(!l=true):=by
  rw [← hl];by_cases h:s.size≤125
  ·rw [iG h];exact propext ⟨fun h'=>by omega,fun h'=>by simp at h'⟩
  ·rw [iQ h];exact propext ⟨fun h'=>rfl,fun h'=>by omega⟩
 clear ho hg hz hl hk;obtain ⟨k,hk⟩:=zX (nI (⟨aN,op,m,[a,b,c,d],bytes s⟩:Fr));rw [hk];cases o with
 | false =>
   obtain rfl:k=91:=hk.symm.trans (rJ (by rw [hF];simp));clear hF hk Vn;go_enter func110,ntmps110;go_wp2_with fail
   refine (C1 _).mono ?_;rintro e w1 ⟨rfl,rfl⟩;go_wp2;go_ret;exact ⟨rfl,HB⟩
 | true =>
   cases g with
   | true =>
     cases l with
     | false =>
       obtain rfl:k=91:=hk.symm.trans (rJ (by rw [hF];simp));clear hF hk;have Vn:((s.size:Int)>125)=True:=Vn.trans (by simp);go_enter func110,ntmps110;go_wp2_with fail
       refine (C1 _).mono ?_;rintro e w1 ⟨rfl,rfl⟩;go_wp2_with fail
       refine (C2 _).mono ?_;rintro e w2 ⟨rfl,rfl⟩;go_wp2;go_ret;exact ⟨rfl,HB⟩
     | true =>
       have Vn:((s.size:Int)>125)=False:=Vn.trans (by simp);cases m with
       | true =>
         by_cases h6:65536<s.size
         ·have Ni:((s.size:Int)>65536)=True:=eq_true (by omega)
          obtain rfl:k=92:=hk.symm.trans (wK (by rw [hF];simp) (by rw [au];exact h6));clear hF hk h6;go_enter func110,ntmps110;go_wp2_with fail
          refine (C1 _).mono ?_;rintro e w1 ⟨rfl,rfl⟩;go_wp2_with fail
          refine (C2 _).mono ?_;rintro e w2 ⟨rfl,rfl⟩;go_wp2;go_ret;exact ⟨rfl,HB⟩
         ·have Ni:((s.size:Int)>65536)=False:=dR (by omega)
          obtain rfl:k=0:=hk.symm.trans (tH (by rw [hF];simp) (by rw [au];exact h6));clear hF hk h6;go_enter func110,ntmps110;go_wp2_with fail
          refine (C1 _).mono ?_;rintro e w1 ⟨rfl,rfl⟩;go_wp2_with fail
          refine (C2 _).mono ?_;rintro e w2 ⟨rfl,rfl⟩;go_wp2;go_ret;exact ⟨rfl,HB⟩
       | false =>
         cases z with
         | false =>
           obtain rfl:k=91:=hk.symm.trans (rJ (by rw [hF];simp));clear hF hk;go_enter func110,ntmps110;go_wp2_with fail
           refine (C1 _).mono ?_;rintro e w1 ⟨rfl,rfl⟩;go_wp2_with fail
           refine (C2 _).mono ?_;rintro e w2 ⟨rfl,rfl⟩;go_wp2;go_ret;exact ⟨rfl,HB⟩
         | true =>
           by_cases h6:65536<s.size
           ·have Ni:((s.size:Int)>65536)=True:=eq_true (by omega)
            obtain rfl:k=92:=hk.symm.trans (wK (by rw [hF];simp) (by rw [au];exact h6));clear hF hk h6;go_enter func110,ntmps110;go_wp2_with fail
            refine (C1 _).mono ?_;rintro e w1 ⟨rfl,rfl⟩;go_wp2_with fail
            refine (C2 _).mono ?_;rintro e w2 ⟨rfl,rfl⟩;go_wp2;go_ret;exact ⟨rfl,HB⟩
           ·have Ni:((s.size:Int)>65536)=False:=dR (by omega)
            obtain rfl:k=0:=hk.symm.trans (tH (by rw [hF];simp) (by rw [au];exact h6));clear hF hk h6;go_enter func110,ntmps110;go_wp2_with fail
            refine (C1 _).mono ?_;rintro e w1 ⟨rfl,rfl⟩;go_wp2_with fail
            refine (C2 _).mono ?_;rintro e w2 ⟨rfl,rfl⟩;go_wp2;go_ret;exact ⟨rfl,HB⟩
   | false =>
     clear Vn;cases m with
     | true =>
       by_cases h6:65536<s.size
       ·have Ni:((s.size:Int)>65536)=True:=eq_true (by omega)
        obtain rfl:k=92:=hk.symm.trans (wK (by rw [hF];simp) (by rw [au];exact h6));clear hF hk h6;go_enter func110,ntmps110;go_wp2_with fail
        refine (C1 _).mono ?_;rintro e w1 ⟨rfl,rfl⟩;go_wp2_with fail
        refine (C2 _).mono ?_;rintro e w2 ⟨rfl,rfl⟩;go_wp2;go_ret;exact ⟨rfl,HB⟩
       ·have Ni:((s.size:Int)>65536)=False:=dR (by omega)
        obtain rfl:k=0:=hk.symm.trans (tH (by rw [hF];simp) (by rw [au];exact h6));clear hF hk h6;go_enter func110,ntmps110;go_wp2_with fail
        refine (C1 _).mono ?_;rintro e w1 ⟨rfl,rfl⟩;go_wp2_with fail
        refine (C2 _).mono ?_;rintro e w2 ⟨rfl,rfl⟩;go_wp2;go_ret;exact ⟨rfl,HB⟩
     | false =>
       cases z with
       | false =>
         obtain rfl:k=91:=hk.symm.trans (rJ (by rw [hF];simp));clear hF hk;go_enter func110,ntmps110;go_wp2_with fail
         refine (C1 _).mono ?_;rintro e w1 ⟨rfl,rfl⟩;go_wp2_with fail
         refine (C2 _).mono ?_;rintro e w2 ⟨rfl,rfl⟩;go_wp2;go_ret;exact ⟨rfl,HB⟩
       | true =>
         by_cases h6:65536<s.size
         ·have Ni:((s.size:Int)>65536)=True:=eq_true (by omega)
          obtain rfl:k=92:=hk.symm.trans (wK (by rw [hF];simp) (by rw [au];exact h6));clear hF hk h6;go_enter func110,ntmps110;go_wp2_with fail
          refine (C1 _).mono ?_;rintro e w1 ⟨rfl,rfl⟩;go_wp2_with fail
          refine (C2 _).mono ?_;rintro e w2 ⟨rfl,rfl⟩;go_wp2;go_ret;exact ⟨rfl,HB⟩
         ·have Ni:((s.size:Int)>65536)=False:=dR (by omega)
          obtain rfl:k=0:=hk.symm.trans (tH (by rw [hF];simp) (by rw [au];exact h6));clear hF hk h6;go_enter func110,ntmps110;go_wp2_with fail
          refine (C1 _).mono ?_;rintro e w1 ⟨rfl,rfl⟩;go_wp2_with fail
          refine (C2 _).mono ?_;rintro e w2 ⟨rfl,rfl⟩;go_wp2;go_ret;exact ⟨rfl,HB⟩
theorem H9 (aN:Bool) (op:Int) (m:Bool) (a b c d:Nat) (s:ByteArray) (w:World) (hk:aU 256 [a,b,c,d]) :
 Calls prog 101 #[(.agg (zV aN op m a b c d s))] w fun e w'=>e=.returned (.bool (dF (⟨aN,op,m,[a,b,c,d],bytes s⟩:Fr)))∧Sl (Below w.heap.size w w'):=by
 have HB:=fQ w (.cells (zV aN op m a b c d s) 61);obtain ⟨g,hg⟩:=zX (aQ op);have C2:∀ W,Calls prog 124 #[.int .i64 op] W fun e w'=>e=.returned (.bool g)∧W=w':=fun W=>by rw [← hg];exact rH op W
 have hEq:=H8 a b c d hk;have hF:dF (⟨aN,op,m,[a,b,c,d],bytes s⟩:Fr)=(((decide (0≤op)&&decide (op≤2))||(g&&aN&&decide (s.size≤125)))&&(m||decide ([a,b,c,d]=bn))):=by
  unfold dF;simp only [au,hg]
 obtain ⟨z,hz⟩:∃ z,decide ([a,b,c,d]=bn)=z:=⟨_,rfl⟩;rw [hz] at hF hEq;have nf:(op≥0)=(0≤op):=rfl;rw [hF];clear hF hg hz hk;by_cases h0:0≤op
 ·have e0:(op≥0)=True:=eq_true h0
  rw [iG h0];by_cases h2:op≤2
  ·have e2:(op≤2)=True:=eq_true h2
   rw [iG h2,JF,Bool.true_or,JF];clear h0 h2 nf;cases m with
   | true =>
     go_enter func101,ntmps101;go_wp2;go_ret;exact ⟨rfl,HB⟩
   | false =>
     go_enter func101,ntmps101;go_wp2;go_ret;exact ⟨rfl,HB⟩
  ·have e2:(op≤2)=False:=dR h2
   rw [iQ h2,Hl,Bool.false_or];clear h0 h2 nf;cases g with
   | false =>
     rw [Dz,Dz,Dz];go_enter func101,ntmps101;go_wp2_with fail
     refine (C2 _).mono ?_;rintro e w1 ⟨rfl,rfl⟩;go_wp2;go_ret;exact ⟨rfl,HB⟩
   | true =>
     cases aN with
     | false =>
       rw [Hl,Dz,Dz];go_enter func101,ntmps101;go_wp2_with fail
       refine (C2 _).mono ?_;rintro e w1 ⟨rfl,rfl⟩;go_wp2;go_ret;exact ⟨rfl,HB⟩
     | true =>
       by_cases hl:s.size≤125
       ·have el:((s.size:Int)≤125)=True:=eq_true (by omega)
        rw [iG hl];clear hl;cases m with
        | true =>
          go_enter func101,ntmps101;go_wp2_with fail
          refine (C2 _).mono ?_;rintro e w1 ⟨rfl,rfl⟩;go_wp2;go_ret;exact ⟨rfl,HB⟩
        | false =>
          go_enter func101,ntmps101;go_wp2_with fail
          refine (C2 _).mono ?_;rintro e w1 ⟨rfl,rfl⟩;go_wp2;go_ret;exact ⟨by simp,HB⟩
       ·have el:((s.size:Int)≤125)=False:=dR (by omega)
        rw [iQ hl,Hl,Dz];clear hl;go_enter func101,ntmps101;go_wp2_with fail
        refine (C2 _).mono ?_;rintro e w1 ⟨rfl,rfl⟩;go_wp2;go_ret;exact ⟨rfl,HB⟩
 ·have e0:(op≥0)=False:=dR h0
  rw [iQ h0,Dz,Bool.false_or];clear h0 nf;cases g with
  | false =>
    rw [Dz,Dz,Dz];go_enter func101,ntmps101;go_wp2_with fail
    refine (C2 _).mono ?_;rintro e w1 ⟨rfl,rfl⟩;go_wp2;go_ret;exact ⟨rfl,HB⟩
  | true =>
    cases aN with
    | false =>
      rw [Hl,Dz,Dz];go_enter func101,ntmps101;go_wp2_with fail
      refine (C2 _).mono ?_;rintro e w1 ⟨rfl,rfl⟩;go_wp2;go_ret;exact ⟨rfl,HB⟩
    | true =>
      by_cases hl:s.size≤125
      ·have el:((s.size:Int)≤125)=True:=eq_true (by omega)
       rw [iG hl];clear hl;cases m with
       | true =>
         go_enter func101,ntmps101;go_wp2_with fail
         refine (C2 _).mono ?_;rintro e w1 ⟨rfl,rfl⟩;go_wp2;go_ret;exact ⟨rfl,HB⟩
       | false =>
         go_enter func101,ntmps101;go_wp2_with fail
         refine (C2 _).mono ?_;rintro e w1 ⟨rfl,rfl⟩;go_wp2;go_ret;exact ⟨by simp,HB⟩
      ·have el:((s.size:Int)≤125)=False:=dR (by omega)
       rw [iQ hl,Hl,Dz];clear hl;go_enter func101,ntmps101;go_wp2_with fail
       refine (C2 _).mono ?_;rintro e w1 ⟨rfl,rfl⟩;go_wp2;go_ret;exact ⟨rfl,HB⟩
open Go.RowKit aO aC jF
theorem bG {g:Nat} {aN:Bool} {op:Int} (h:W.heap[g]? = some (.cells (zV aN op m a b c d s) 61 (0,0))) :
 W.cell? ⟨g,0,none⟩=some (.bool aN)∧W.cell? ⟨g,1,none⟩=some (.int .i64 op)∧W.cell? ⟨g,2,none⟩=some (.bool m)∧W.cell? ⟨g,3,none⟩=some (.int .u8 (a:Int))∧W.cell? ⟨g,4,none⟩=some (.int .u8 (b:Int))∧W.cell? ⟨g,5,none⟩=some (.int .u8 (c:Int))∧W.cell? ⟨g,6,none⟩=some (.int .u8 (d:Int))∧W.cell? ⟨g,7,none⟩=some (.string s):=by
 refine ⟨?_,?_,?_,?_,?_,?_,?_,?_⟩<;>(rw [jg _ _ _ _ _ _ h];rfl)
theorem pU (aN:Bool) (op:Int) (m:Bool) (a b c d:Nat) (s:ByteArray):(prog.info? 61).map (·.size)=some ((zV aN op m a b c d s):Array Value).size:=by kernel_rfl
theorem Au {ev:Operand→Value} {o:Oper} {x:Operand} {g:Nat} {aN:Bool} {op:Int} (ho:o.op=.load 61 x) (hx:ev x=.pointer (some ⟨g,0,none⟩)) (h:W.heap[g]? = some (.cells (zV aN op m a b c d s) 61 (0,0))) :
 (execOp ev o).run prog W=.ok (.value (.agg (zV aN op m a b c d s))) W:=by
 unfold execOp;simp only [ho,hx,Instr.loadAt,Instr.sureAddr,rE,Sem.run_pure,Result.andThen_ok,UR W g 61 61 _ (0,0) _ h underlying61 rfl (pU aN op m a b c d s)]
theorem qF (aN:Bool) (op:Int) (m:Bool) (a b c d:Nat) (s:ByteArray) (n:Nat) (w:World) (hg:bD w) (hs:s.size≤1000000) (hn:(iJ s.size).length=n) :
 Calls prog 165 #[(.agg (zV aN op m a b c d s))] w fun e w'=>∃ g cap,e=.returned (.slice (some ⟨g,0,none⟩) n cap)∧Sl (bJ w' (.slice (some ⟨g,0,none⟩) n cap) (iJ s.size))∧Sl (Below w.heap.size w w'):=by
 have HB:=fQ w (.cells (zV aN op m a b c d s) 61);have HG:=Sl.mk hg;have gO:eP s.size=some (iJ s.size):=nN (by omega);have C1:=fun W hW=>wo s.size (iJ s.size) W hW gO
 rw [hn] at C1;obtain ⟨L,hL⟩:=zX (iJ s.size);rw [hL] at C1 ⊢;have hwr:IntKind.u64.wrap (s.size:Int)=(s.size:Int):=by rw [FP];omega
 clear hg hn gO hL;go_enter func165,ntmps165;go_wp2_with fail
 refine (C1 _ (HG.ah.below HB.ah HG.ah.size)).mono ?_;rintro e w1 ⟨g,cap,rfl,HS,HX⟩;have bi:Sl (Below w.heap.size w w1):=⟨HB.ah.trans (HX.ah.mono HB.ah.size)⟩;clear HX;go_wp2;go_ret;exact ⟨g,cap,rfl,HS,bi⟩
theorem yI (aN:Bool) (op:Int) (m:Bool) (a b c d:Nat) (s:ByteArray) (k:Nat) (w:World) (hk:Oq m=k) :
 Calls prog 160 #[(.agg (zV aN op m a b c d s))] w fun e w'=>e=.returned (.int .i64 (k:Int))∧Sl (Below w.heap.size w w'):=by
 subst hk;exact H7 aN op m a b c d s w
theorem BE (aN:Bool) (op:Int) (m:Bool) (a b c d:Nat) (s:ByteArray) (h:s.size≤1000000):size (⟨aN,op,m,[a,b,c,d],bytes s⟩:Fr)=1+(iJ s.size).length+Oq m+s.size:=by
 unfold size Oq;rw [ji (by omega)];simp only [au];cases m<;>simp only [if_true,UM,if_false]<;>split<;>(try split)<;>omega
theorem FV (n:Nat) (h:n≤1000000):(iJ n).length≤9:=by
 rw [ji (by omega)];split
 ·omega
 ·split<;>omega
theorem RU (aN:Bool) (op:Int) (m:Bool) (a b c d:Nat) (s:ByteArray) (w:World) (hg:bD w) (hs:s.size≤1000000) :
 Calls prog 164 #[(.agg (zV aN op m a b c d s))] w fun e w'=>e=.returned (.int .i64 ((size (⟨aN,op,m,[a,b,c,d],bytes s⟩:Fr):Nat):Int))∧Sl (Below w.heap.size w w'):=by
 have HG:=Sl.mk hg;have bS:=Sl.mk hs;have hF:=BE aN op m a b c d s hs;have cV:=FV s.size hs;obtain ⟨n,hn⟩:=zX ((iJ s.size).length);have HN:=Sl.mk hn;obtain ⟨k,hk⟩:=zX (Oq m);have HK:=Sl.mk hk;have Dr:k≤4:=by rw [← hk];unfold Oq;split<;>omega
 rw [hn,hk] at hF;rw [hn] at cV;have HF:Sl (((size (⟨aN,op,m,[a,b,c,d],bytes s⟩:Fr):Nat):Int)=1+(n:Int)+(k:Int)+(s.size:Int)):=⟨by rw [hF];omega⟩;have z1:IntKind.i64.wrap (1+(n:Int))=1+(n:Int):=by rw [lZ];omega
 have z2:IntKind.i64.wrap (1+(n:Int)+(k:Int))=1+(n:Int)+(k:Int):=by rw [lZ];omega
 have z3:IntKind.i64.wrap (1+(n:Int)+(k:Int)+(s.size:Int))=1+(n:Int)+(k:Int)+(s.size:Int):=by rw [lZ];omega
 clear hg hs hF hn hk;obtain ⟨w1,bA⟩:=zX (w.alloc (.cells (zV aN op m a b c d s) 61));have bi:Sl (Below w.heap.size w w1):=⟨by rw [← bA];exact (fQ w _).ah⟩;have nh:Sl (w1.heap[w.heap.size]? = some (.cells (zV aN op m a b c d s) 61 (0,0))):=⟨by rw [← bA];exact dQ _ _⟩;go_enter func164,ntmps164;go_upto_region 1 with fail
 obtain ⟨R,hR⟩:=zX w1.drew;have al:Below w.heap.size w R∧R.heap[w.heap.size]? = some (.cells (zV aN op m a b c d s) 61 (0,0)):=⟨by rw [← hR];exact bi.ah.drew,by rw [← hR];exact nh.ah⟩;refine Ai ?_;refine Ah (S:=fun W=>Below w.heap.size w W∧W.heap[w.heap.size]? = some (.cells (zV aN op m a b c d s) 61 (0,0))) (by kernel_rfl) ?_;change wpAnyH _ _ _ _ _ _ _ _ w1.drew;rw [hR];clear hR bA;refine zT 0 (some 3) (.load 61 (.tmp 1)) ((.agg (zV aN op m a b c d s))) al ?_ (hy:=fun o' ho W hS=>Au ho (by rfl) hS.2);simp only [zA,zB,zS];refine zT 4 (some 7) (.load 61 (.tmp 1)) ((.agg (zV aN op m a b c d s))) al ?_ (hy:=fun o' ho W hS=>Au ho (by rfl) hS.2);simp only [zA,zB,zS];refine zT 7 (some 10) (.fieldAddr 61 (.tmp 1) 4) _ al ?_;simp only [zA,zB,zS];refine zT 8 (some 11) (.load 9 (.tmp 10)) _ al ?_ (hy:=fun o' ho W hS=>by obtain ⟨c0,c1,c2,c3,c4,c5,c6,c7⟩:=bG hS.2;simp only [execOp,ho];go_simp;try rfl);simp only [zA,zB,zS];refine zT 9 (some 12) (.call {callee:=.builtin .len,args:=#[.tmp 11],argTypes:=#[9]}) _ al ?_;simp only [zA,zB,zS];refine zC 1 (some 4) (.call {callee:=.value (.func 165),args:=#[.tmp 3],argTypes:=#[61]}) 165 #[(.agg (zV aN op m a b c d s))] ?_;refine (qF aN op m a b c d s n R (HG.ah.below al.1 HG.ah.size) bS.ah HN.ah).mono ?_;rintro e R1 ⟨g,cap,rfl,Lb,sx⟩;have cT:Below w.heap.size w R1∧R1.heap[w.heap.size]? = some (.cells (zV aN op m a b c d s) 61 (0,0)):=⟨al.1.trans (sx.ah.mono al.1.size),by rw [sx.ah.block _ (zl al.2)];exact al.2⟩;refine ⟨_,rfl,cT,?_⟩;simp only [zA,zB,zS];refine zT 2 (some 5) (.call {callee:=.builtin .len,args:=#[.tmp 4],argTypes:=#[49]}) _ cT ?_;simp only [zA,zB,zS];refine zT 3 (some 6) (.binOp .add 3 (.const (.int .i64 1)) (.tmp 5) 3) _ cT ?_;simp only [zA,zB,zS];refine zC 5 (some 8) (.call {callee:=.value (.func 160),args:=#[.tmp 7],argTypes:=#[61]}) 160 #[(.agg (zV aN op m a b c d s))] ?_;refine (yI aN op m a b c d s k R1 HK.ah).mono ?_;rintro e R2 ⟨rfl,bw⟩;have cJ:Below w.heap.size w R2∧R2.heap[w.heap.size]? = some (.cells (zV aN op m a b c d s) 61 (0,0)):=⟨cT.1.trans (bw.ah.mono cT.1.size),by rw [bw.ah.block _ (zl cT.2)];exact cT.2⟩;refine ⟨_,rfl,cJ,?_⟩;simp only [zA,zB,zS];refine zT 6 (some 9) (.binOp .add 3 (.tmp 6) (.tmp 8) 3) _ cJ ?_;simp only [zA,zB,zS];refine zT 10 (some 13) (.binOp .add 3 (.tmp 9) (.tmp 12) 3) _ cJ ?_;simp only [zA,zB,zS];refine zT 11 (some 2) (.assign (.tmp 13)) _ cJ ?_;simp only [zA,zB,zS];refine zE (by kernel_rfl) ?_;go_wp2;go_ret;exact ⟨by rw [HF.ah];rfl,⟨cJ.1⟩⟩
open Go.RowKit aO aC jF
theorem Vh {Z:World} {base:Nat} {v u:Value} {m l:List Nat} (h:Z.ownsRow base 5 1 v m.length (dZ m)) (hs:bJ Z u l) (hl:m.length+l.length≤1000000) (eE:base≤Z.heap.size) (hp:0<(m++l).length) :
 ∃ g cap w1,(Builtin.append_ #[49,49] 49 #[v,u]).run prog Z=.ok (.slice (some ⟨g,0,none⟩) (m++l).length cap) w1 ∧
   w1.ownsRow base 5 1 (.slice (some ⟨g,0,none⟩) (m++l).length cap) (m++l).length (dZ (m++l))∧Z.grownBy w1 v.ownBlock:=by
 obtain ⟨i0,kn,ic,eI,dz⟩:=rF;obtain ⟨a,cap,sb,so,rfl,hc,ha,bL⟩:=hs;cases a with
 | none =>
   have h0:l=[]:=by
    cases l with
    | nil=>rfl
    | cons x xs=>exact absurd (ha (by simp)) (by simp)
   subst h0;have db:cap=0∨cap≠0:=by omega
   have hr:(Builtin.append_ #[49,49] 49 #[v,.slice none 0 cap]).run prog Z=.ok v Z:=by
    rcases h.2 with ⟨rfl,hm⟩ | ⟨g,fd,fI,rfl,_,_,Vv,_⟩
    ·simp [hm] at hp
    ·simp [Builtin.append_,run_underlying underlying49,sizeOf,typeInfo,kn,Builtin.lenOf,Builtin.firstCells,Vv,storeCells]
   rw [yC] at hp ⊢;obtain ⟨g,c,rfl,_,_⟩:=tq h hp;exact ⟨g,c,Z,hr,h,iV _ _⟩
 | some ad =>
   obtain ⟨v',w',gd,ef,nc,_⟩:=run_append_own (P:=prog) Z base 49 49 5 i0 _ 1 1 underlying49 kn ic eI dz rfl (by decide) v m.length (dZ m) h ad l.length cap (dZ l) (by simp) (fun j u hu=>by
    have hj:j<l.length:=by have:=(LV.1 hu).1;simpa using this
    have mx:=ha (by omega);injection mx with mx
    subst mx;rw [DD,bL j hj,← hu,jl l j hj]) (oM l) (by unfold maxLen;omega) (by omega) eE
   rw [← jB,← qB] at ef;obtain ⟨g,c,rfl,_,_⟩:=tq ef hp;exact ⟨g,c,w',gd,ef,nc⟩
theorem BF (X:Int) (n:Nat) (hX:X=(n:Int)) (hn:n≤2000000) (w:World) :
 (Instr.makeSlice 49 (.int .i64 0) (.int .i64 X)).run prog w=.ok (.slice (some ⟨w.heap.size,0,none⟩) 0 n) (w.alloc (.cells (dZ (zs n)).toArray 5)):=by
 subst hX;obtain ⟨i,hi,hz,h1,h2⟩:=rF;have:=run_make (P:=prog) w 49 5 i (.int .u8 0) underlying49 hi hz .i64 .i64 (0:Int) (n:Int) (by omega) (by omega) (by rw [h2];omega) (by omega);rw [h1] at this;rw [show ((n:Int).toNat)=n from by omega,Md] at this;exact this
theorem FY (w:World) (base n:Nat) (hb:base≤w.heap.size) (hn:n≤2000000):(w.alloc (.cells (dZ (zs n)).toArray 5)).ownsRow base 5 1 (.slice (some ⟨w.heap.size,0,none⟩) 0 n) ([]:List Nat).length (dZ []) :=
 World.ownsRow_made w (dZ (zs n)).toArray n hb (by unfold maxLen;omega) (by simp [zs])
theorem J5 (x:Nat) (h:x<128):bits .or .u8 (x:Int) 128=((x+128:Nat):Int):=by
 have:∀ c:Fin 128,bits BinOp.or IntKind.u8 (c.val:Int) 128=((c.val+128:Nat):Int):=by decide +kernel
 exact this ⟨x,h⟩
theorem FZ (x:Nat) (h:x<256):bits .and .u8 (x:Int) 128=(((if 128≤x then 128 else 0:Nat)):Int):=by
 have:∀ c:Fin 256,bits BinOp.and IntKind.u8 (c.val:Int) 128=(((if 128≤c.val then 128 else 0:Nat)):Int):=by decide +kernel
 exact this ⟨x,h⟩
def tb (m:Bool) (key bs:List Nat):List Nat:=if m then fC key 0 bs else bs
theorem jQ (m:Bool) (key bs:List Nat):(tb m key bs).length=bs.length:=by unfold tb;split<;>simp [fV]
theorem wL {key bs:List Nat} (hk:aU 256 key) (h:aU 256 bs):aU 256 (tb m key bs):=by
 unfold tb;split
 ·exact FB key 0 bs h (fun i=>hk.getD (by omega) i)
 ·exact h
theorem mg (aN:Bool) (op:Int) (m:Bool) (a b c d:Nat) (s:ByteArray) (g o n cap:Nat) (bs:List Nat) (w:World) (hk:aU 256 [a,b,c,d]) (hv:bJ w (.slice (some ⟨g,o,none⟩) n cap) bs) (bB:aU 256 bs) (hn:bs.length=n) (hm:n≤100000) :
 Calls prog 161 #[(.agg (zV aN op m a b c d s)),.slice (some ⟨g,o,none⟩) n cap] w fun e w'=>∃ g' o' fd,e=.returned (.slice (some ⟨g',o',none⟩) n fd)∧Sl (bJ w' (.slice (some ⟨g',o',none⟩) n fd) (tb m [a,b,c,d] bs))∧Sl (Below w.heap.size w w'):=by
 have HV:=Sl.mk hv;obtain ⟨w1,bA⟩:=zX (w.alloc (.cells (zV aN op m a b c d s) 61));have bi:Sl (Below w.heap.size w w1):=⟨by rw [← bA];exact (fQ w _).ah⟩;have nh:Sl (w1.heap[w.heap.size]? = some (.cells (zV aN op m a b c d s) 61 (0,0))):=⟨by rw [← bA];exact dQ _ _⟩;have Ds:Sl (bJ w1 (.slice (some ⟨g,o,none⟩) n cap) bs):=⟨HV.ah.below (aY _) bi.ah⟩;obtain ⟨c0,c1,c2,c3,c4,c5,c6,c7⟩:=bG nh.ah;cases m with
 | true =>
   have C1:Calls prog 170 #[.agg #[.int .u8 (a:Int),.int .u8 (b:Int),.int .u8 (c:Int),.int .u8 (d:Int)],.int .i64 0,.slice (some ⟨g,o,none⟩) n cap] w1 fun e w'=>∃ g,e=.returned (.slice (some ⟨g,0,none⟩) n n)∧Sl (fA w' g (fC [a,b,c,d] (kX 0) bs))∧Sl (Below w1.heap.size w1 w') :=
    Oo [a,b,c,d] 0 _ bs n w1 rfl hk Ds.ah bB hm hn
   have HN:=Sl.mk hn;clear hk hv bB hn hm;go_enter func161,ntmps161;go_wp2_with fail
   refine C1.mono ?_;rintro e w2 ⟨g2,rfl,HR,HX⟩;have bk:Sl (Below w.heap.size w w2):=⟨bi.ah.trans (HX.ah.mono bi.ah.size)⟩;have js:Sl (bJ w2 (.slice (some ⟨g2,0,none⟩) n n) (tb true [a,b,c,d] bs)):=⟨U7 HR.ah.src (by rw [jQ];exact HN.ah)⟩;clear HX HR C1;go_wp2;go_ret;exact ⟨g2,0,n,rfl,js,bk⟩
 | false =>
   clear hk hv bB hn hm;go_enter func161,ntmps161;go_wp2;go_ret;exact ⟨g,o,cap,rfl,Ds,bi⟩
end
section
variable {o:Oper} {a:Act} {w W:World} {bx cs:Array Value} {T L:List Nat} {i B b c d b0 c4 sb so:Nat} {x:Operand} {ev:Operand→Value}
theorem iW {P:Program} {aR:Array Oper} {rest:List Oper} {Q:Exit→Act→World→Prop} (fS:o.guard=none) (s x:Operand) (t ty:TypeId)
 (ho:o.op=.call {callee:=.builtin .append,args:=#[s,x],argTypes:=#[t,t]}) (Nm:o.type=ty) (v v':Value) (ad:Addr) (m c:Nat) (w':World)
 (hs:a.eval s=v) (hx:a.eval x=.slice (some ad) m c) (gd:(Builtin.append_ #[t,t] ty #[v,.slice (some ad) m c]).run P w=.ok v' w')
 (h:wpList P aR Q rest (a.put o.dst v') w'):wpList P aR Q (o :: rest) a w:=by
 refine wpList_plain fS fun K hK=>?_
 unfold Oper.wp;have hy:(execOp a.eval o).run P w=.ok (.value v') w':=by
  rw [← Nm] at gd;simp [execOp,ho,resolve,invoke,builtin,hs,hx,gd,Result.andThen]
 rw [hy,Xp];exact hK _ _ h
section
variable {P:Program} {md:Region.Mode} {aR:Array Oper} {Q:Exit→Act→World→Prop} {S:World→Prop}
theorem qG {fuel:Nat} {ai:Array Bool} {di dj:Option Tmp} {pT p8:Op} {ti tj:TypeId} (i j:Nat) (vi:Value) (wi:World) (f:FuncId) (args:Array Value)
 (hi:nX aR i di pT none ti) (hj:nX aR j dj p8 none tj) (hr:Region.ready md aR ai=[j,i])
 (yi:∀ o:Oper,o.op=pT→o.type=ti→(execOp a.eval o).run P w=.ok (.value vi) wi) (yj:∀ o:Oper,o.op=p8→o.type=tj→(execOp a.eval o).run P w=.ok (.enter f args) w) (hS:S wi)
 (h1:wpAnyH P md aR Q S fuel (ai.setIfInBounds i true) (a.put di vi) wi)
 (h2:Calls P f args w fun e w'=>∃ v,e=.returned v∧S w'∧wpAnyH P md aR Q S fuel (ai.setIfInBounds j true) (a.put dj v) w'):wpAnyH P md aR Q S (fuel+1) ai a w:=by
 obtain ⟨o,ho,hd,cY,hg,ht⟩:=nY hi;obtain ⟨o',tR,Dg,AJ,ww,mL⟩:=nY hj;refine wpAnyH_all hr (by simp) (fun k hk=>?_);rcases DN.1 hk with rfl | hk
 ·refine wpOp_step tR (fun K hK=>?_)
  rw [if_pos (fJ ww rfl)];unfold Oper.wp;rw [yj o' AJ mL,Oper.upon_enter];refine h2.mono ?_;rintro e w' ⟨v,rfl,Yy,h'⟩;rw [Dg];exact hK _ _ ⟨Yy,h'⟩
 ·rw [uF] at hk
  subst hk;refine wpOp_step ho (fun K hK=>?_);rw [if_pos (fJ hg rfl)];unfold Oper.wp;rw [yi o cY ht,Xp,hd];exact hK _ _ ⟨hS,h1⟩
end
structure PS (w W:World) (bx:Array Value) (g n cap:Nat) (T:List Nat):Prop where
 B:Below w.heap.size w W
 X:W.heap[w.heap.size]? = some (.cells bx 61 (0,0))
 O:W.ownsRow (w.heap.size+1) 5 1 (.slice (some ⟨g,0,none⟩) n cap) n (dZ T)
 L:T.length=n
 M:aU 256 T
theorem PS.up {g n cap:Nat} (h:PS w W bx g n cap T):w.heap.size+1≤W.heap.size:=(zl h.X)
theorem PS.below {W':World} {g n cap:Nat} (h:PS w W bx g n cap T) (k:Below W.heap.size W W'):PS w W' bx g n cap T :=
 ⟨h.B.trans (k.mono h.B.size),ay h.X k,pO h.O k,h.L,h.M⟩
theorem PS.add {g n cap:Nat} (h:PS w W bx g n cap T) (n':Nat) {u:Value} {l:List Nat} (hs:bJ W u l) (hl:aU 256 l) (hm:n+l.length≤1000000) (hp:0<n+l.length) (hn:n+l.length=n') :
 ∃ g' fd W',(Builtin.append_ #[49,49] 49 #[.slice (some ⟨g,0,none⟩) n cap,u]).run prog W=.ok (.slice (some ⟨g',0,none⟩) n' fd) W'∧PS w W' bx g' n' fd (T++l):=by
 have hT:=h.L;subst hT;obtain ⟨g',fd,W',hr,ho,hg⟩:=Vh (base:=w.heap.size+1) h.O hs hm h.up (by rw [jB];exact hp);have z7:(T++l).length=n':=by rw [jB];exact hn
 rw [z7] at hr ho;refine ⟨g',fd,W',hr,h.B.grown hg h.B.size (fun k hk=>by have:=(h.O.lt k hk).1;omega),?_,ho,z7,h.M.append hl⟩;rw [hg.block _ (zl h.X) (fun e=>by have:=(h.O.lt _ e.symm).1;omega)];exact h.X
theorem PS.set {g n cap:Nat} (h:PS w W bx g n cap T) {x:Nat} (hx:x<256):PS w (W.setCell ⟨g,i,none⟩ (.int .u8 (x:Int))) bx g n cap (T.set i x):=by
 obtain ⟨h1,h2⟩:=h.O.stored i (.int .u8 (x:Int));have hb:=(h.O.lt g rfl).1;refine ⟨h.B.grown h2 h.B.size (fun k hk=>by injection hk with hk;omega),?_,?_,by rw [QM];exact h.L,fun y hy=>?_⟩
 ·rw [h2.block _ (zl h.X) (fun e=>by injection e with e;omega)];exact h.X
 ·rw [show dZ (T.set i x)=(dZ T).set i (.int .u8 (x:Int)) by simp [dZ,v8,List.map_set]];exact h1
 ·rcases List.mem_or_eq_of_mem_set hy with hy | rfl
  ·exact h.M y hy
  ·exact hx
theorem PS.cell {g n cap:Nat} (h:PS w W bx g n cap T) (hi:i<n):W.cell? ⟨g,i,none⟩=some (.int .u8 ((T.getD i 0:Nat):Int)):=by
 rw [h.O.cellAt i (by omega)];exact jl T i (by rw [h.L];exact hi)
theorem PS.fF {g n cap:Nat} (h:PS w W bx g n cap T) (i:Nat):W.frozen? ⟨g,i,none⟩=false:=h.O.frozenAt i
theorem PS.src {g n cap:Nat} (h:PS w W bx g n cap T):bJ W (.slice (some ⟨g,0,none⟩) n cap) T:=by
 have hT:=h.L;subst hT;rcases h.O.2 with ⟨h',_⟩ | ⟨g',fd,fI,h',_,hg,hn,_,_,ht⟩
 ·cases h'
 ·simp only [Value.slice.injEq,Option.some.injEq,Addr.mk.injEq,and_true,true_and] at h'
  obtain ⟨rfl,rfl⟩:=h';exact ⟨_,cap,g,0,rfl,hn,fun _=>rfl,fun i hi=>by rw [vT];exact h.cell hi⟩
theorem Az {a:Nat} (h3:W.cell? ⟨B,3,none⟩=some (.int .u8 (a:Int))) (h4:W.cell? ⟨B,4,none⟩=some (.int .u8 (b:Int))) (h5:W.cell? ⟨B,5,none⟩=some (.int .u8 (c:Int))) (h6:W.cell? ⟨B,6,none⟩=some (.int .u8 (d:Int))):bJ W (.slice (some ⟨B,3,none⟩) 4 4) [a,b,c,d] :=
 ⟨_,4,B,3,rfl,aY _,fun _=>rfl,fun i hi=>by
  match i,hi with
  | 0,_=>exact h3
  | 1,_=>exact h4
  | 2,_=>exact h5
  | 3,_=>exact h6⟩
theorem nP (f:Fr) (l:Nat) (hm:f.af=true) (hb:kD f=b0) (hL:iJ f.data.length=L) (hl:L.getD 0 0=l) (hn:0<L.length):aT f=((([b0]++L).set 1 (l+128))++f.key)++tb true f.key f.data:=by
 unfold aT nU tb;rw [if_pos hm,if_pos hm,if_pos rfl,hb,hL,hl];cases L with
 | nil=>cases hn
 | cons x xs=>simp
theorem tJ (f:Fr) (hm:f.af=false) (hb:kD f=b0) (hL:iJ f.data.length=L):aT f=([b0]++L)++tb false f.key f.data:=by
 unfold aT nU tb;rw [hm,hb,hL];simp
theorem PS.fH {g n cap:Nat} (h:PS w W bx g n cap T):w.heap.size≤g:=by
 rcases h.O.2 with ⟨e,_⟩ | ⟨k,c,fI,e,hb,_⟩
 ·cases e
 ·injection e with e1
  injection e1 with e1
  injection e1 with e2 _
  omega
theorem Ia (aN:Bool) (k:Nat) (m:Bool) (a b c d:Nat) (s:ByteArray) (n:Nat) (w:World) (hg:bD w) (hk:aU 256 [a,b,c,d]) (hc:nI (⟨aN,(k:Int),m,[a,b,c,d],bytes s⟩:Fr)=0) (hn:size (⟨aN,(k:Int),m,[a,b,c,d],bytes s⟩:Fr)=n) :
 Calls prog 147 #[(.agg (zV aN (k:Int) m a b c d s))] w fun e w'=>∃ g cap,e=.returned (.tuple #[.slice (some ⟨g,0,none⟩) n cap,.int .i64 0])∧Sl (bJ w' (.slice (some ⟨g,0,none⟩) n cap) (aT (⟨aN,(k:Int),m,[a,b,c,d],bytes s⟩:Fr)))∧Sl (Below w.heap.size w w')∧w.heap.size≤g:=by
 have HG:=Sl.mk hg;have im:=Sl.mk hk;obtain ⟨ib,sy⟩:=Rh hc;have sy:s.size≤65536:=by simpa only [au] using sy
 have Ab:=Sl.mk sy;have rS:=eF ib;have ad2:k≤10:=by have:=rS.1;simp only at this;omega
 have C13:∀ W,Calls prog 110 #[(.agg (zV aN (k:Int) m a b c d s))] W fun e w'=>e=.returned (.int .i64 0)∧Sl (Below W.heap.size W w'):=fun W=>by have:=kY aN (k:Int) m a b c d s W hk;rw [hc] at this;exact this
 have hF:=BE aN (k:Int) m a b c d s (by omega);have C18:∀ W,bD W→Calls prog 164 #[(.agg (zV aN (k:Int) m a b c d s))] W fun e w'=>e=.returned (.int .i64 (n:Int))∧Sl (Below W.heap.size W w'):=fun W hW=>by have:=RU aN (k:Int) m a b c d s W hW (by omega);rw [hn] at this;exact this
 have oA:Sl (kD (⟨aN,(k:Int),m,[a,b,c,d],bytes s⟩:Fr)=k+if aN then 128 else 0):=⟨rfl⟩;have cV:=FV s.size (by omega);have oX:=qA (n:=s.size) (by omega);have eZ:=(pN (n:=s.size) (by omega)).1;have lE:0<(iJ s.size).length:=by rw [ji (by omega)];split<;>(try split)<;>omega
 obtain ⟨L,hL⟩:=zX (iJ s.size);have nu:=Sl.mk hL;rw [hL] at cV oX eZ hF lE;have HLS:Sl (aU 256 L):=⟨oX⟩;obtain ⟨l0,uA⟩:=zX (L.getD 0 0);have lO:=Sl.mk uA;rw [uA] at eZ;have hl0:=eZ;have uB:=Sl.mk lE;obtain ⟨n5,hn5⟩:=zX (1+L.length);rw [hn] at hF;have HF:Sl (n=n5+Oq m+s.size):=⟨by rw [hF,hn5]⟩;have ez:Oq m≤4:=by unfold Oq;split<;>omega
 have hN:n≤100000:=by omega
 have ajF:n5≤10∧2≤n5:=by omega
 have Gb:aU 256 [k]:=fun x hx=>by simp at hx;omega
 have Nn:IntKind.u8.wrap (k:Int)=(k:Int):=by rw [IntKind.wrap_u8];omega
 clear hg hk ib sy rS hc hF cV oX eZ uA hL;obtain ⟨N,hNe⟩:∃ N,N=n:=⟨_,rfl⟩;obtain ⟨w1,bA⟩:=zX (w.alloc (.cells (zV aN (k:Int) m a b c d s) 61));have bi:Sl (Below w.heap.size w w1):=⟨by rw [← bA];exact (fQ w _).ah⟩;have nh:Sl (w1.heap[w.heap.size]? = some (.cells (zV aN (k:Int) m a b c d s) 61 (0,0))):=⟨by rw [← bA];exact dQ _ _⟩;have HZ:Sl (w.heap.size<w1.heap.size):=⟨(zl nh.ah)⟩;obtain ⟨p0,p1,p2,p3,p4,p5,p6,p7⟩:=bG nh.ah;go_enter func147,ntmps147;go_wp2_with fail
 refine (C13 _).mono ?_;rintro e w2 ⟨rfl,bw⟩;have bk:Sl (Below w.heap.size w w2):=⟨bi.ah.trans (bw.ah.mono bi.ah.size)⟩;have nj:Sl (w2.heap[w.heap.size]? = some (.cells (zV aN (k:Int) m a b c d s) 61 (0,0))):=⟨ay nh.ah bw.ah⟩;clear bw bi nh bA C13 p0 p1 p2 p3 p4 p5 p6 p7;go_upto_region 4 with fail
 go_cut [5] (fun s5 wx=>∃ g cap,s5=.slice (some ⟨g,0,none⟩) 1 cap∧Sl (PS w wx (zV aN (k:Int) m a b c d s) g 1 cap [k]))
 case first =>
  subst hNe;obtain ⟨R,hR⟩:=zX w2.drew;have al:Below w.heap.size w R∧R.heap[w.heap.size]? = some (.cells (zV aN (k:Int) m a b c d s) 61 (0,0)):=⟨by rw [← hR];exact bk.ah.drew,by rw [← hR];exact nj.ah⟩;refine Ai ?_;refine Ah (S:=fun W=>Below w.heap.size w W∧W.heap[w.heap.size]? = some (.cells (zV aN (k:Int) m a b c d s) 61 (0,0))) (by kernel_rfl) ?_;change wpAnyH _ _ _ _ _ _ _ _ w2.drew;rw [hR];clear hR;refine zT 0 (some 11) (.load 61 (.tmp 1)) ((.agg (zV aN (k:Int) m a b c d s))) al ?_ (hy:=fun o' ho W hS=>Au ho (by rfl) hS.2);simp only [zA,zB,zS];refine zT 3 (some 14) (.fieldAddr 61 (.tmp 1) 1) _ al ?_;simp only [zA,zB,zS];refine zT 4 (some 15) (.load 3 (.tmp 14)) _ al ?_ (hy:=fun o' ho W hS=>by obtain ⟨c0,c1,c2,c3,c4,c5,c6,c7⟩:=bG hS.2;simp only [execOp,ho];go_simp;try rfl);simp only [zA,zB,zS];refine zT 5 (some 16) (.convert 3 5 (.tmp 15)) _ al ?_;simp only [zA,zB,zS];obtain ⟨A,hA⟩:=zX (R.alloc (.cells #[.int .u8 (k:Int)] 5));have FF:fA A R.heap.size [k]:=by rw [← hA];exact gu R [k]
  have BA:Below R.heap.size R A:=by rw [← hA];exact (dW _ _).alloc (aY _) _
  have ga:Below w.heap.size w A∧A.heap[w.heap.size]? = some (.cells (zV aN (k:Int) m a b c d s) 61 (0,0)):=⟨al.1.trans (BA.mono al.1.size),ay al.2 BA⟩;refine qG (di:=some 17) (pT:=.buildSlice 49 1 #[(0,Operand.tmp 16)]) (dj:=some 12) (p8:=.call {callee:=Callee.value (Operand.func 164),args:=#[Operand.tmp 11],argTypes:=#[61]}) (ti:=49) (tj:=3) 6 1 (.slice (some ⟨R.heap.size,0,none⟩) 1 1) A 164 #[(.agg (zV aN (k:Int) m a b c d s))] rfl rfl (by kernel_rfl) ?y6a ?y1a ga ?first ?second;case y6a=>intro o' ho ht;simp only [execOp,ho];go_simp;first | done | rw [hA] | rfl
  case y1a=>intro o' ho ht;simp only [execOp,ho];go_simp;try rfl
  case first =>
   simp only [zA,zB,zS];refine zC 1 (some 12) (.call {callee:=.value (.func 164),args:=#[.tmp 11],argTypes:=#[61]}) 164 #[(.agg (zV aN (k:Int) m a b c d s))] ?_;refine (C18 A (HG.ah.below ga.1 HG.ah.size)).mono ?_;rintro e X ⟨rfl,df⟩;have cC:Below w.heap.size w X∧X.heap[w.heap.size]? = some (.cells (zV aN (k:Int) m a b c d s) 61 (0,0)):=⟨ga.1.trans (df.ah.mono ga.1.size),ay ga.2 df.ah⟩;refine ⟨_,rfl,cC,?_⟩;simp only [zA,zB,zS];obtain ⟨Y,hY⟩:=zX (X.alloc (.cells (dZ (zs N)).toArray 5));have qf:=BF (N:Int) N rfl (by omega) X;rw [hY] at qf;have cN:PS w Y (zV aN (k:Int) m a b c d s) X.heap.size 0 N []:=⟨by rw [← hY];exact cC.1.alloc cC.1.size _,by rw [← hY,gJ _ _ _ (zl cC.2)];exact cC.2,by rw [← hY];exact FY X _ N (zl cC.2) (by omega),rfl,fun x hx=>by cases hx⟩;have jp:Below w.heap.size w Y∧Y.heap[w.heap.size]? = some (.cells (zV aN (k:Int) m a b c d s) 61 (0,0)):=⟨cN.B,cN.X⟩;refine zR 2 (some 13) (.makeSlice 49 (.const (.int .i64 0)) (.tmp 12)) 49 (.slice (some ⟨X.heap.size,0,none⟩) 0 N) Y jp ?_ (hy:=fun o' ho ht=>by simp only [execOp,ho,rE,Sem.run_pure];refine (lG (fun r=>Result.andThen r _) qf).trans ?_;rfl);simp only [zA,zB,zS];have YH:bJ Y (.slice (some ⟨R.heap.size,0,none⟩) 1 1) [k]:=((FF.below df.ah).below (by rw [← hY];exact (dW _ _).alloc (aY _) _)).src;obtain ⟨gz,iz,Z,qi,gx⟩:=cN.add 1 YH Gb (by simp) (by simp) rfl;have bS:Below w.heap.size w Z∧Z.heap[w.heap.size]? = some (.cells (zV aN (k:Int) m a b c d s) 61 (0,0)):=⟨gx.B,gx.X⟩;refine zR 7 (some 18) (.call {callee:=.builtin .append,args:=#[.tmp 13,.tmp 17],argTypes:=#[49,49]}) 49 (.slice (some ⟨gz,0,none⟩) 1 iz) Z bS ?_ (hy:=fun o' ho ht=>by simp only [execOp,ho,ht,resolve,invoke,builtin,rE,Sem.run_pure,Result.andThen_ok,UW,JJ,NT];refine (lG (fun r=>Result.andThen r _) qi).trans ?_;rfl);simp only [zA,zB,zS];refine zT 8 (some 5) (.assign (.tmp 18)) _ bS ?_;simp only [zA,zB,zS];refine zE (by kernel_rfl) ?_;go_wp2_with fail
   go_meet;exact ⟨gz,iz,rfl,⟨gx⟩⟩
  case second =>
   refine (C18 R (HG.ah.below al.1 HG.ah.size)).mono ?_;rintro e X ⟨rfl,df⟩;have cC:Below w.heap.size w X∧X.heap[w.heap.size]? = some (.cells (zV aN (k:Int) m a b c d s) 61 (0,0)):=⟨al.1.trans (df.ah.mono al.1.size),ay al.2 df.ah⟩;refine ⟨_,rfl,cC,?_⟩;simp only [zA,zB,zS];obtain ⟨Y,hY⟩:=zX (X.alloc (.cells (dZ (zs N)).toArray 5));have qf:=BF (N:Int) N rfl (by omega) X;rw [hY] at qf;have cN:PS w Y (zV aN (k:Int) m a b c d s) X.heap.size 0 N []:=⟨by rw [← hY];exact cC.1.alloc cC.1.size _,by rw [← hY,gJ _ _ _ (zl cC.2)];exact cC.2,by rw [← hY];exact FY X _ N (zl cC.2) (by omega),rfl,fun x hx=>by cases hx⟩;have jp:Below w.heap.size w Y∧Y.heap[w.heap.size]? = some (.cells (zV aN (k:Int) m a b c d s) 61 (0,0)):=⟨cN.B,cN.X⟩;obtain ⟨B,hB⟩:=zX (X.alloc (.cells #[.int .u8 (k:Int)] 5));have HRB:fA B X.heap.size [k]:=by rw [← hB];exact gu X [k]
   have BB:Below X.heap.size X B:=by rw [← hB];exact (dW _ _).alloc (aY _) _
   have uv:Below w.heap.size w B∧B.heap[w.heap.size]? = some (.cells (zV aN (k:Int) m a b c d s) 61 (0,0)):=⟨cC.1.trans (BB.mono cC.1.size),ay cC.2 BB⟩;refine U3 (di:=some 13) (pT:=.makeSlice 49 (Operand.const (Value.int IntKind.i64 0)) (Operand.tmp 12)) (gi:=none) (ti:=49) (dj:=some 17) (p8:=.buildSlice 49 1 #[(0,Operand.tmp 16)]) (gj:=none) (tj:=49) 2 6 (.slice (some ⟨X.heap.size,0,none⟩) 0 N) Y (.slice (some ⟨X.heap.size,0,none⟩) 1 1) B rfl rfl (by kernel_rfl) (by kernel_rfl) (by kernel_rfl) ?y2t ?y6t jp uv ?t1 ?t2;case y2t=>intro o' ho ht;simp only [execOp,ho,rE,Sem.run_pure];refine (lG (fun r=>Result.andThen r _) qf).trans ?_;rfl
   case y6t=>intro o' ho ht;simp only [execOp,ho];go_simp;first | done | rw [hB] | rfl
   case t1 =>
    simp only [zA,zB,zS];obtain ⟨C,hC⟩:=zX (Y.alloc (.cells #[.int .u8 (k:Int)] 5));have YH:bJ C (.slice (some ⟨Y.heap.size,0,none⟩) 1 1) [k]:=by rw [← hC];exact (gu Y [k]).src
    have BC:Below Y.heap.size Y C:=by rw [← hC];exact (dW _ _).alloc (aY _) _
    replace cN:=cN.below BC
    have HSC:Below w.heap.size w C∧C.heap[w.heap.size]? = some (.cells (zV aN (k:Int) m a b c d s) 61 (0,0)):=⟨cN.B,cN.X⟩;refine zR 6 (some 17) (.buildSlice 49 1 #[(0,.tmp 16)]) 49 (.slice (some ⟨Y.heap.size,0,none⟩) 1 1) C HSC ?_ (hy:=fun o' ho _=>by simp only [execOp,ho];go_simp;first | done | rw [hC] | rfl);simp only [zA,zB,zS];obtain ⟨gz,iz,Z,qi,gx⟩:=cN.add 1 YH Gb (by simp) (by simp) rfl;have bS:Below w.heap.size w Z∧Z.heap[w.heap.size]? = some (.cells (zV aN (k:Int) m a b c d s) 61 (0,0)):=⟨gx.B,gx.X⟩;refine zR 7 (some 18) (.call {callee:=.builtin .append,args:=#[.tmp 13,.tmp 17],argTypes:=#[49,49]}) 49 (.slice (some ⟨gz,0,none⟩) 1 iz) Z bS ?_ (hy:=fun o' ho ht=>by simp only [execOp,ho,ht,resolve,invoke,builtin,rE,Sem.run_pure,Result.andThen_ok,UW,JJ,NT];refine (lG (fun r=>Result.andThen r _) qi).trans ?_;rfl);simp only [zA,zB,zS];refine zT 8 (some 5) (.assign (.tmp 18)) _ bS ?_;simp only [zA,zB,zS];refine zE (by kernel_rfl) ?_;go_wp2_with fail
    go_meet;exact ⟨gz,iz,rfl,⟨gx⟩⟩
   case t2 =>
    simp only [zA,zB,zS];clear cN jp qf hY;clear Y;obtain ⟨Y,hY⟩:=zX (B.alloc (.cells (dZ (zs N)).toArray 5));have qf:=BF (N:Int) N rfl (by omega) B;rw [hY] at qf;have cN:PS w Y (zV aN (k:Int) m a b c d s) B.heap.size 0 N []:=⟨by rw [← hY];exact uv.1.alloc uv.1.size _,by rw [← hY,gJ _ _ _ (zl uv.2)];exact uv.2,by rw [← hY];exact FY B _ N (zl uv.2) (by omega),rfl,fun x hx=>by cases hx⟩;have jp:Below w.heap.size w Y∧Y.heap[w.heap.size]? = some (.cells (zV aN (k:Int) m a b c d s) 61 (0,0)):=⟨cN.B,cN.X⟩;refine zR 2 (some 13) (.makeSlice 49 (.const (.int .i64 0)) (.tmp 12)) 49 (.slice (some ⟨B.heap.size,0,none⟩) 0 N) Y jp ?_ (hy:=fun o' ho ht=>by simp only [execOp,ho,rE,Sem.run_pure];refine (lG (fun r=>Result.andThen r _) qf).trans ?_;rfl);simp only [zA,zB,zS];have YH:bJ Y (.slice (some ⟨X.heap.size,0,none⟩) 1 1) [k]:=(HRB.below (by rw [← hY];exact (dW _ _).alloc (aY _) _)).src;obtain ⟨gz,iz,Z,qi,gx⟩:=cN.add 1 YH Gb (by simp) (by simp) rfl;have bS:Below w.heap.size w Z∧Z.heap[w.heap.size]? = some (.cells (zV aN (k:Int) m a b c d s) 61 (0,0)):=⟨gx.B,gx.X⟩;refine zR 7 (some 18) (.call {callee:=.builtin .append,args:=#[.tmp 13,.tmp 17],argTypes:=#[49,49]}) 49 (.slice (some ⟨gz,0,none⟩) 1 iz) Z bS ?_ (hy:=fun o' ho ht=>by simp only [execOp,ho,ht,resolve,invoke,builtin,rE,Sem.run_pure,Result.andThen_ok,UW,JJ,NT];refine (lG (fun r=>Result.andThen r _) qi).trans ?_;rfl);simp only [zA,zB,zS];refine zT 8 (some 5) (.assign (.tmp 18)) _ bS ?_;simp only [zA,zB,zS];refine zE (by kernel_rfl) ?_;go_wp2_with fail
    go_meet;exact ⟨gz,iz,rfl,⟨gx⟩⟩
 case rest =>
  obtain ⟨g,cap,rfl,Gc⟩:=hcut;clear bk nj C18 Gb Nn;obtain ⟨c0,c1,c2,c3,c4,c5,c6,c7⟩:=bG Gc.ah.X;by_cases iA:aN=true
  ·have hJ:Sl (kD (⟨aN,(k:Int),m,[a,b,c,d],bytes s⟩:Fr)=(k+128)):=⟨by rw [oA.ah,iA];rfl⟩
   rw [iA] at c0;have q0:=Gc.ah.cell (i:=0) (by decide);have z0:=Gc.ah.fF 0;have YI:=J5 k (by omega);obtain ⟨w3,cH⟩:=zX (wc.setCell ⟨g,0,none⟩ (.int .u8 ((k:Int)+128)));have zv:Sl (PS w w3 (zV aN (k:Int) m a b c d s) g 1 cap [k+128]):=⟨by have hs:=Gc.ah.set (i:=0) (x:=k+128) (by omega);rw [Int.natCast_add] at hs;rw [← cH];exact hs⟩;obtain ⟨e0,e1,e2,e3,e4,e5,e6,e7⟩:=bG zv.ah.X;go_wp2_with fail
   refine (qF _ _ _ a b c d s L.length _ (HG.ah.below zv.ah.B HG.ah.size) (by have:=Ab.ah;omega) (by rw [nu.ah])).mono ?_;rintro e w4 ⟨gl,A0,rfl,Lb,cx⟩;rw [nu.ah] at Lb;have xv:=Sl.mk (zv.ah.below cx.ah);obtain ⟨g5,ad8,w5,Gd,nw⟩:=xv.ah.add n5 Lb.ah HLS.ah (by omega) (by omega) hn5
   replace nw:=Sl.mk nw
   clear xv cx Lb zv cH q0 z0 YI;obtain ⟨f0,f1,f2,f3,f4,f5,f6,f7⟩:=bG nw.ah.X;by_cases hm:m=true
   ·rw [hm] at f2
    have q1:w5.cell? ⟨g5,1,none⟩=some (.int .u8 ((l0:Nat):Int)):=by
     rw [nw.ah.cell (i:=1) (by omega)]
     show some (Value.int .u8 ((L.getD 0 0:Nat):Int))=_
     rw [lO.ah]
    have z1:=nw.ah.fF 1;have YI:=J5 l0 hl0;have h15:1<n5:=by omega
    obtain ⟨w6,iB⟩:=zX (w5.setCell ⟨g5,1,none⟩ (.int .u8 ((l0:Int)+128)));have Ge:=Sl.mk (nw.ah.set (i:=1) (x:=l0+128) (by omega));rw [Int.natCast_add,show ((128:Nat):Int)=128 from rfl,iB] at Ge;obtain ⟨j0,j1,j2,j3,j4,j5,j6,j7⟩:=bG Ge.ah.X;obtain ⟨g7,ad9,w7,YJ,oY⟩:=Ge.ah.add (n5+4) (u:=.slice (some ⟨w.heap.size,3,none⟩) 4 4) (l:=[a,b,c,d]) (Az j3 j4 j5 j6) im.ah (by show n5+4≤_;omega) (by show 0<n5+4;omega) rfl
    replace oY:=Sl.mk oY
    obtain ⟨h0,h1,h2,h3,h4,h5,h6,h7⟩:=bG oY.ah.X;rw [hm] at h2;obtain ⟨uC,w8,eh,rT,pv⟩:=lJ s w7;have pw:=Sl.mk (oY.ah.below pv.ah);clear oY;go_wp2_with (at_builtin;first | (refine iW rfl (.tmp 26) (.tmp 28) 49 49 rfl rfl _ _ ⟨gl,0,none⟩ L.length A0 w5 rfl rfl Gd ?_) | (refine iW rfl (.tmp 37) (.tmp 39) 49 49 rfl rfl _ _ ⟨w.heap.size,3,none⟩ 4 4 w7 rfl rfl YJ ?_))
    clear Gd YJ Ge nw q1 z1 YI iB;refine (mg _ _ _ a b c d s w7.heap.size 0 s.size uC (bytes s) w8 im.ah rT.ah (aJ s) (au s) (by have:=Ab.ah;omega)).mono ?_;rintro e w9 ⟨gt,ot,uE,rfl,r8,xx⟩;have xy:=Sl.mk (pw.ah.below xx.ah);obtain ⟨gz,iz,DB,nx,fL⟩:=xy.ah.add n r8.ah (wL im.ah (aJ s)) (by rw [jQ,au];have:=Ab.ah;omega) (by omega) (by rw [jQ,au];have:=HF.ah;rw [hm] at this;simp only [Oq,if_true] at this;omega)
    replace fL:=Sl.mk fL
    clear pw xy eh pv xx rT r8;go_wp2_with (at_builtin;refine iW rfl (.tmp 41) (.tmp 46) 49 49 rfl rfl _ _ ⟨gt,ot,none⟩ s.size uE DB rfl rfl nx ?_)
    clear nx;go_wp2;go_ret2;refine ⟨gz,iz,rfl,⟨?_⟩,⟨fL.ah.B⟩,fL.ah.fH⟩;rw [nP _ _ hm hJ.ah (L:=L) (by rw [au];exact nu.ah) lO.ah uB.ah];exact fL.ah.src
   ·have hm:=Bool.eq_false_iff.2 hm
    rw [hm] at f2;obtain ⟨h0,h1,h2,h3,h4,h5,h6,h7⟩:=bG nw.ah.X;rw [hm] at h2;obtain ⟨uC,w8,eh,rT,pv⟩:=lJ s w5;have pw:=Sl.mk (nw.ah.below pv.ah);clear nw;go_wp2_with (at_builtin;refine iW rfl (.tmp 26) (.tmp 28) 49 49 rfl rfl _ _ ⟨gl,0,none⟩ L.length A0 w5 rfl rfl Gd ?_)
    clear Gd;refine (mg _ _ _ a b c d s w5.heap.size 0 s.size uC (bytes s) w8 im.ah rT.ah (aJ s) (au s) (by have:=Ab.ah;omega)).mono ?_;rintro e w9 ⟨gt,ot,uE,rfl,r8,xx⟩;have xy:=Sl.mk (pw.ah.below xx.ah);obtain ⟨gz,iz,DB,nx,fL⟩:=xy.ah.add n r8.ah (wL im.ah (aJ s)) (by rw [jQ,au];have:=Ab.ah;omega) (by omega) (by rw [jQ,au];have:=HF.ah;rw [hm] at this;simp only [Oq,UM,if_false] at this;omega)
    replace fL:=Sl.mk fL
    clear pw xy eh pv xx rT r8;go_wp2_with (at_builtin;refine iW rfl (.tmp 41) (.tmp 46) 49 49 rfl rfl _ _ ⟨gt,ot,none⟩ s.size uE DB rfl rfl nx ?_)
    clear nx;go_wp2;go_ret2;refine ⟨gz,iz,rfl,⟨?_⟩,⟨fL.ah.B⟩,fL.ah.fH⟩;rw [tJ _ hm hJ.ah (L:=L) (by rw [au];exact nu.ah)];exact fL.ah.src
  ·have iA:=Bool.eq_false_iff.2 iA
   have hJ:Sl (kD (⟨aN,(k:Int),m,[a,b,c,d],bytes s⟩:Fr)=k):=⟨by rw [oA.ah,iA];rfl⟩;rw [iA] at c0;go_wp2_with fail
   refine (qF _ _ _ a b c d s L.length _ (HG.ah.below Gc.ah.B HG.ah.size) (by have:=Ab.ah;omega) (by rw [nu.ah])).mono ?_;rintro e w4 ⟨gl,A0,rfl,Lb,cx⟩;rw [nu.ah] at Lb;have xv:=Sl.mk (Gc.ah.below cx.ah);obtain ⟨g5,ad8,w5,Gd,nw⟩:=xv.ah.add n5 Lb.ah HLS.ah (by omega) (by omega) hn5
   replace nw:=Sl.mk nw
   clear xv cx Lb ;obtain ⟨f0,f1,f2,f3,f4,f5,f6,f7⟩:=bG nw.ah.X;by_cases hm:m=true
   ·rw [hm] at f2
    have q1:w5.cell? ⟨g5,1,none⟩=some (.int .u8 ((l0:Nat):Int)):=by
     rw [nw.ah.cell (i:=1) (by omega)]
     show some (Value.int .u8 ((L.getD 0 0:Nat):Int))=_
     rw [lO.ah]
    have z1:=nw.ah.fF 1;have YI:=J5 l0 hl0;have h15:1<n5:=by omega
    obtain ⟨w6,iB⟩:=zX (w5.setCell ⟨g5,1,none⟩ (.int .u8 ((l0:Int)+128)));have Ge:=Sl.mk (nw.ah.set (i:=1) (x:=l0+128) (by omega));rw [Int.natCast_add,show ((128:Nat):Int)=128 from rfl,iB] at Ge;obtain ⟨j0,j1,j2,j3,j4,j5,j6,j7⟩:=bG Ge.ah.X;obtain ⟨g7,ad9,w7,YJ,oY⟩:=Ge.ah.add (n5+4) (u:=.slice (some ⟨w.heap.size,3,none⟩) 4 4) (l:=[a,b,c,d]) (Az j3 j4 j5 j6) im.ah (by show n5+4≤_;omega) (by show 0<n5+4;omega) rfl
    replace oY:=Sl.mk oY
    obtain ⟨h0,h1,h2,h3,h4,h5,h6,h7⟩:=bG oY.ah.X;rw [hm] at h2;obtain ⟨uC,w8,eh,rT,pv⟩:=lJ s w7;have pw:=Sl.mk (oY.ah.below pv.ah);clear oY;go_wp2_with (at_builtin;first | (refine iW rfl (.tmp 26) (.tmp 28) 49 49 rfl rfl _ _ ⟨gl,0,none⟩ L.length A0 w5 rfl rfl Gd ?_) | (refine iW rfl (.tmp 37) (.tmp 39) 49 49 rfl rfl _ _ ⟨w.heap.size,3,none⟩ 4 4 w7 rfl rfl YJ ?_))
    clear Gd YJ Ge nw q1 z1 YI iB;refine (mg _ _ _ a b c d s w7.heap.size 0 s.size uC (bytes s) w8 im.ah rT.ah (aJ s) (au s) (by have:=Ab.ah;omega)).mono ?_;rintro e w9 ⟨gt,ot,uE,rfl,r8,xx⟩;have xy:=Sl.mk (pw.ah.below xx.ah);obtain ⟨gz,iz,DB,nx,fL⟩:=xy.ah.add n r8.ah (wL im.ah (aJ s)) (by rw [jQ,au];have:=Ab.ah;omega) (by omega) (by rw [jQ,au];have:=HF.ah;rw [hm] at this;simp only [Oq,if_true] at this;omega)
    replace fL:=Sl.mk fL
    clear pw xy eh pv xx rT r8;go_wp2_with (at_builtin;refine iW rfl (.tmp 41) (.tmp 46) 49 49 rfl rfl _ _ ⟨gt,ot,none⟩ s.size uE DB rfl rfl nx ?_)
    clear nx;go_wp2;go_ret2;refine ⟨gz,iz,rfl,⟨?_⟩,⟨fL.ah.B⟩,fL.ah.fH⟩;rw [nP _ _ hm hJ.ah (L:=L) (by rw [au];exact nu.ah) lO.ah uB.ah];exact fL.ah.src
   ·have hm:=Bool.eq_false_iff.2 hm
    rw [hm] at f2;obtain ⟨h0,h1,h2,h3,h4,h5,h6,h7⟩:=bG nw.ah.X;rw [hm] at h2;obtain ⟨uC,w8,eh,rT,pv⟩:=lJ s w5;have pw:=Sl.mk (nw.ah.below pv.ah);clear nw;go_wp2_with (at_builtin;refine iW rfl (.tmp 26) (.tmp 28) 49 49 rfl rfl _ _ ⟨gl,0,none⟩ L.length A0 w5 rfl rfl Gd ?_)
    clear Gd;refine (mg _ _ _ a b c d s w5.heap.size 0 s.size uC (bytes s) w8 im.ah rT.ah (aJ s) (au s) (by have:=Ab.ah;omega)).mono ?_;rintro e w9 ⟨gt,ot,uE,rfl,r8,xx⟩;have xy:=Sl.mk (pw.ah.below xx.ah);obtain ⟨gz,iz,DB,nx,fL⟩:=xy.ah.add n r8.ah (wL im.ah (aJ s)) (by rw [jQ,au];have:=Ab.ah;omega) (by omega) (by rw [jQ,au];have:=HF.ah;rw [hm] at this;simp only [Oq,UM,if_false] at this;omega)
    replace fL:=Sl.mk fL
    clear pw xy eh pv xx rT r8;go_wp2_with (at_builtin;refine iW rfl (.tmp 41) (.tmp 46) 49 49 rfl rfl _ _ ⟨gt,ot,none⟩ s.size uE DB rfl rfl nx ?_)
    clear nx;go_wp2;go_ret2;refine ⟨gz,iz,rfl,⟨?_⟩,⟨fL.ah.B⟩,fL.ah.fH⟩;rw [tJ _ hm hJ.ah (L:=L) (by rw [au];exact nu.ah)];exact fL.ah.src
open Go.RowKit aO aC jF
def kE (o:Nat) (bs:List Nat):Nat×Nat×Nat :=
 if aQ (o:Int)=true∧0<bs.length∧125<bs.getD 0 0 % 128 then (0,0,91)
 else if (bK bs).2.2=81 then (0,0,91) else if (bK bs).2.2=80 then (0,0,90) else bK bs
theorem J6 (o:Nat) (v:Value) (bs:List Nat) (w:World) (hg:bD w) (hv:bJ w v bs) (bB:aU 256 bs) (hm:bs.length≤1000000) :
 Calls prog 136 #[.int .i64 (o:Int),v] w fun e w'=>e=.returned (FQ (kE o bs))∧Sl (Below w.heap.size w w'):=by
 have HG:=Sl.mk hg;have HV:=Sl.mk hv;have mN:=Sl.mk bB;obtain ⟨a0,cap,sb,so,hve,db,ha,bL⟩:=hv;obtain ⟨bl,fe⟩:=zX bs.length;have Lf:=Sl.mk fe;rw [fe] at hve db ha;subst hve;have hv:Sl True:=⟨trivial⟩;obtain ⟨c,hc⟩:=zX (aQ (o:Int));have C1:∀ W,Calls prog 138 #[.int .i64 (o:Int)] W fun e w'=>e=.returned (.bool c)∧W=w':=fun W=>by rw [← hc];exact rG (o:Int) W
 have sz:IntKind.i64.wrap (bl:Int)=(bl:Int):=by rw [lZ];omega
 clear hg sz;cases c with
 | false =>
   have hI:¬ (aQ (o:Int)=true∧0<bs.length∧125<bs.getD 0 0 % 128):=fun h=>by rw [hc] at h;exact absurd h.1 (by decide)
   go_enter func136,ntmps136;go_wp2_with fail
   refine (C1 _).mono ?_;rintro e w1 ⟨rfl,rfl⟩;clear C1 hc bL ha db fe;rcases jP bs with he | he | he
   ·obtain ⟨n,j,ii⟩:∃ n j,bK bs=(n,j,0):=⟨(bK bs).1,(bK bs).2.1,by rw [← he]⟩
    have HQ:Sl (kE o bs=(n,j,0)):=⟨by unfold kE;rw [if_neg hI,ii];rfl⟩;have C2:=fun W hW hS=>qE (.slice a0 bl cap) bs n j 0 W hW hS bB hm ii
    rw [show ((0:Nat):Int)=0 from rfl] at C2;clear he ii hm bB hv hI;go_wp2_with fail
    refine (C2 _ HG.ah HV.ah).mono ?_;rintro e w1 ⟨rfl,HX⟩;go_wp2;go_ret3
    exact ⟨by rw [HQ.ah];rfl,HX⟩
   ·obtain ⟨n,j,ii⟩:∃ n j,bK bs=(n,j,80):=⟨(bK bs).1,(bK bs).2.1,by rw [← he]⟩
    have HQ:Sl (kE o bs=(0,0,90)):=⟨by unfold kE;rw [if_neg hI,ii];rfl⟩;have C2:=fun W hW hS=>qE (.slice a0 bl cap) bs n j 80 W hW hS bB hm ii
    rw [show ((80:Nat):Int)=80 from rfl] at C2;clear he ii hm bB hv hI;go_wp2_with fail
    refine (C2 _ HG.ah HV.ah).mono ?_;rintro e w1 ⟨rfl,HX⟩;go_wp2;go_ret3
    exact ⟨by rw [HQ.ah];rfl,HX⟩
   ·obtain ⟨n,j,ii⟩:∃ n j,bK bs=(n,j,81):=⟨(bK bs).1,(bK bs).2.1,by rw [← he]⟩
    have HQ:Sl (kE o bs=(0,0,91)):=⟨by unfold kE;rw [if_neg hI,ii];rfl⟩;have C2:=fun W hW hS=>qE (.slice a0 bl cap) bs n j 81 W hW hS bB hm ii
    rw [show ((81:Nat):Int)=81 from rfl] at C2;clear he ii hm bB hv hI;go_wp2_with fail
    refine (C2 _ HG.ah HV.ah).mono ?_;rintro e w1 ⟨rfl,HX⟩;go_wp2;go_ret3
    exact ⟨by rw [HQ.ah];rfl,HX⟩
 | true =>
   by_cases h0:0<bl
   ·obtain rfl:=ha h0
    have sr:=bL 0 (by omega);rw [Nat.add_zero] at sr;obtain ⟨x,hx⟩:=zX (bs.getD 0 0);rw [hx] at sr;have dv:x<256:=by rw [← hx];exact bB.getD (by omega) 0
    have o0:=vg x dv;obtain ⟨y,hy⟩:=zX (x % 128);rw [hy] at o0;by_cases h5:125<y
    ·have h5':((y:Int)>125)=True:=eq_true (by omega)
     have HQ:Sl (kE o bs=(0,0,91)):=⟨by unfold kE;rw [if_pos ⟨hc,by omega,by rw [hx,hy];exact h5⟩]⟩;clear hc hx dv h5 hm bB bL ha db fe hy;go_enter func136,ntmps136;go_wp2_with fail
     refine (C1 _).mono ?_;rintro e w1 ⟨rfl,rfl⟩;go_wp2;go_ret3
     exact ⟨by rw [HQ.ah];rfl,⟨dW _ _⟩⟩
    ·have h5':((y:Int)>125)=False:=dR (by omega)
     have hI:¬ (aQ (o:Int)=true∧0<bs.length∧125<bs.getD 0 0 % 128):=fun h=>by rw [hx,hy] at h;exact h5 h.2.2
     go_enter func136,ntmps136;go_wp2_with fail
     refine (C1 _).mono ?_;rintro e w1 ⟨rfl,rfl⟩;clear C1 hc bL ha db fe hx dv h5 hy;rcases jP bs with he | he | he
     ·obtain ⟨n,j,ii⟩:∃ n j,bK bs=(n,j,0):=⟨(bK bs).1,(bK bs).2.1,by rw [← he]⟩
      have HQ:Sl (kE o bs=(n,j,0)):=⟨by unfold kE;rw [if_neg hI,ii];rfl⟩;have C2:=fun W hW hS=>qE (.slice (some ⟨sb,so,none⟩) bl cap) bs n j 0 W hW hS bB hm ii
      rw [show ((0:Nat):Int)=0 from rfl] at C2;clear he ii hm bB hv hI;go_wp2_with fail
      refine (C2 _ HG.ah HV.ah).mono ?_;rintro e w1 ⟨rfl,HX⟩;go_wp2;go_ret3
      exact ⟨by rw [HQ.ah];rfl,HX⟩
     ·obtain ⟨n,j,ii⟩:∃ n j,bK bs=(n,j,80):=⟨(bK bs).1,(bK bs).2.1,by rw [← he]⟩
      have HQ:Sl (kE o bs=(0,0,90)):=⟨by unfold kE;rw [if_neg hI,ii];rfl⟩;have C2:=fun W hW hS=>qE (.slice (some ⟨sb,so,none⟩) bl cap) bs n j 80 W hW hS bB hm ii
      rw [show ((80:Nat):Int)=80 from rfl] at C2;clear he ii hm bB hv hI;go_wp2_with fail
      refine (C2 _ HG.ah HV.ah).mono ?_;rintro e w1 ⟨rfl,HX⟩;go_wp2;go_ret3
      exact ⟨by rw [HQ.ah];rfl,HX⟩
     ·obtain ⟨n,j,ii⟩:∃ n j,bK bs=(n,j,81):=⟨(bK bs).1,(bK bs).2.1,by rw [← he]⟩
      have HQ:Sl (kE o bs=(0,0,91)):=⟨by unfold kE;rw [if_neg hI,ii];rfl⟩;have C2:=fun W hW hS=>qE (.slice (some ⟨sb,so,none⟩) bl cap) bs n j 81 W hW hS bB hm ii
      rw [show ((81:Nat):Int)=81 from rfl] at C2;clear he ii hm bB hv hI;go_wp2_with fail
      refine (C2 _ HG.ah HV.ah).mono ?_;rintro e w1 ⟨rfl,HX⟩;go_wp2;go_ret3
      exact ⟨by rw [HQ.ah];rfl,HX⟩
   ·obtain rfl:bl=0:=by omega
    have hI:¬ (aQ (o:Int)=true∧0<bs.length∧125<bs.getD 0 0 % 128):=fun h=>by omega
    go_enter func136,ntmps136;go_wp2_with fail
    refine (C1 _).mono ?_;rintro e w1 ⟨rfl,rfl⟩;clear C1 hc bL ha db fe h0;rcases jP bs with he | he | he
    ·obtain ⟨n,j,ii⟩:∃ n j,bK bs=(n,j,0):=⟨(bK bs).1,(bK bs).2.1,by rw [← he]⟩
     have HQ:Sl (kE o bs=(n,j,0)):=⟨by unfold kE;rw [if_neg hI,ii];rfl⟩;have C2:=fun W hW hS=>qE (.slice a0 0 cap) bs n j 0 W hW hS bB hm ii
     rw [show ((0:Nat):Int)=0 from rfl] at C2;clear he ii hm bB hv hI;go_wp2_with fail
     refine (C2 _ HG.ah HV.ah).mono ?_;rintro e w1 ⟨rfl,HX⟩;go_wp2;go_ret3
     exact ⟨by rw [HQ.ah];rfl,HX⟩
    ·obtain ⟨n,j,ii⟩:∃ n j,bK bs=(n,j,80):=⟨(bK bs).1,(bK bs).2.1,by rw [← he]⟩
     have HQ:Sl (kE o bs=(0,0,90)):=⟨by unfold kE;rw [if_neg hI,ii];rfl⟩;have C2:=fun W hW hS=>qE (.slice a0 0 cap) bs n j 80 W hW hS bB hm ii
     rw [show ((80:Nat):Int)=80 from rfl] at C2;clear he ii hm bB hv hI;go_wp2_with fail
     refine (C2 _ HG.ah HV.ah).mono ?_;rintro e w1 ⟨rfl,HX⟩;go_wp2;go_ret3
     exact ⟨by rw [HQ.ah];rfl,HX⟩
    ·obtain ⟨n,j,ii⟩:∃ n j,bK bs=(n,j,81):=⟨(bK bs).1,(bK bs).2.1,by rw [← he]⟩
     have HQ:Sl (kE o bs=(0,0,91)):=⟨by unfold kE;rw [if_neg hI,ii];rfl⟩;have C2:=fun W hW hS=>qE (.slice a0 0 cap) bs n j 81 W hW hS bB hm ii
     rw [show ((81:Nat):Int)=81 from rfl] at C2;clear he ii hm bB hv hI;go_wp2_with fail
     refine (C2 _ HG.ah HV.ah).mono ?_;rintro e w1 ⟨rfl,HX⟩;go_wp2;go_ret3
     exact ⟨by rw [HQ.ah];rfl,HX⟩
def Ot (f:Fr):Value:=.agg (zV f.aN f.op f.af (f.key.getD 0 0) (f.key.getD 1 0) (f.key.getD 2 0) (f.key.getD 3 0) (aF f.data))
def lN (r:Fr×Nat×Nat):Value:=.tuple #[Ot r.1,.int .i64 ((r.2.1:Nat):Int),.int .i64 ((r.2.2:Nat):Int)]
theorem aW (h:cs.size=8):(prog.info? 61).map (·.size)=some cs.size:=by rw [h];kernel_rfl
theorem dw {fn:Func} {p u x:Tmp} (h:fn.results=#[.cell p 61,.tmp u,.tmp x]) (tmps:Array Value) (w:World) (g:Nat) (t:TypeId) (cs:Array Value) (fr:Nat×Nat)
 (hp:tmps.getD p undef=.pointer (some ⟨g,0,none⟩)) (hg:w.heap[g]? = some (.cells cs t fr)) (hs:cs.size=8) :
 (results fn tmps).run prog w=.ok (.tuple #[.agg cs,tmps.getD u undef,tmps.getD x undef]) w:=by
 have hi:(prog.info? 61).map (·.size)=some cs.size:=aW hs;have A3:tmps[p]?.getD undef=.pointer (some ⟨g,0,none⟩):=by simpa using hp
 simp only [results,h];simp [Result.andThen,A3,asAddr,UR (P:=prog) w g t 61 cs fr _ hg underlying61 rfl hi]
def iH (aN:Bool) (op:Int) (m:Bool) (p n:Nat) (r:List Nat):Fr×Nat×Nat :=
 if m then
  (if r.length<4+n then (dn,0,90) else (⟨aN,op,true,r.take 4,fC (r.take 4) 0 ((r.drop 4).take n)⟩,p+4+n,0))
 else if r.length<n then (dn,0,90) else (⟨aN,op,false,bn,r.take n⟩,p+n,0)
theorem yJ (x y n k:Nat) (r:List Nat):rest x y n k r=iH (decide (128≤x)) ((x % 16:Nat):Int) (decide (128≤y)) (1+k) n r:=by
 unfold rest iH;by_cases h:128≤y
 ·rw [if_pos h,if_pos (iG h)]
 ·rw [if_neg h,if_neg (show ¬ (decide (128≤y)=true) from by rw [iQ h];decide)]
open Go.RowKit aO aC jF
theorem oZ {g:Nat} {c0 c1 c2 c3 c4 c5 c6 c7:Value} (h:W.heap[g]? = some (.cells #[c0,c1,c2,c3,c4,c5,c6,c7] 61 (0,0))) :
 W.cell? ⟨g,0,none⟩=some c0∧W.cell? ⟨g,1,none⟩=some c1∧W.cell? ⟨g,2,none⟩=some c2∧W.cell? ⟨g,3,none⟩=some c3∧W.cell? ⟨g,4,none⟩=some c4∧W.cell? ⟨g,5,none⟩=some c5∧W.cell? ⟨g,6,none⟩=some c6∧W.cell? ⟨g,7,none⟩=some c7:=by
 refine ⟨?_,?_,?_,?_,?_,?_,?_,?_⟩<;>(rw [jg _ _ _ _ _ _ h];rfl)
theorem BH {g:Nat} (ho:o.op=.load 61 x) (hx:ev x=.pointer (some ⟨g,0,none⟩)) (hs:cs.size=8) (h:W.heap[g]? = some (.cells cs 61 (0,0))) :
 (execOp ev o).run prog W=.ok (.value (.agg cs)) W:=by
 unfold execOp;simp only [ho,hx,Instr.loadAt,Instr.sureAddr,rE,Sem.run_pure,Result.andThen_ok,UR W g 61 61 _ (0,0) _ h underlying61 rfl (aW hs)]
theorem below_setRow {g:Nat} (h:Below B w W) (hg:B≤g) (cs:Array Value):Below B w (W.setRow g cs) :=
 ⟨h.os,h.tape,h.output,by simpa [World.setRow] using h.size,fun k hk=>by rw [qC _ _ _ _ (by omega)];exact h.block k hk⟩
theorem wM {L cap:Nat} {bs:List Nat} (h:bJ W (.slice (some ⟨sb,so,none⟩) L cap) bs) (i k c of:Nat) (A4:0<k→so+i=of) (hk:i+k≤L) (hc:k≤c) (hl:bs.length=L):bJ W (.slice (some ⟨sb,of,none⟩) k c) ((bs.drop i).take k):=by
 obtain ⟨a,c',xz,xD,he,h1,h2,h3⟩:=h;have bt:((bs.drop i).take k).length=k:=by rw [kQ,iP];omega
 injection he with ea eb ec
 refine ⟨_,c,sb,of,by rw [bt],by rw [bt];exact hc,fun _=>rfl,fun j hj=>?_⟩;rw [bt] at hj;have:=h2 (by omega);rw [this] at ea;injection ea with ea
 injection ea with e1 e2
 subst e1 e2;have h4:=h3 (i+j) (by omega);rw [← A4 (by omega),show so+i+j=so+(i+j) by omega,h4];simp only [iw,NP hj,LW]
theorem aZ (f:Bool) (o:Int) (m:Bool) (a b c d:Int) (s:ByteArray):(#[.bool f,.int .i64 o,.bool m,.int .u8 a,.int .u8 b,.int .u8 c,.int .u8 d,.string s]:Array Value).all (·.oneCell')=true:=by simp [Value.oneCell']
theorem F5 (l:List Nat) (h:4≤l.length):∃ a b c d,l.take 4=[a,b,c,d]:=by
 match l,h with
 | a :: b :: c :: d :: _,_=>exact ⟨a,b,c,d,rfl⟩
theorem tK {y z:Operand} {L cap j k:Nat} (of:Nat) (A4:(if cap=i then so else so+i)=of) (ho:o.op=.slice 49 x (some y) (some z) none) (hx:ev x=.slice (some ⟨sb,so,none⟩) L cap) (hy:ev y=.int .i64 (i:Int)) (hz:ev z=.int .i64 (j:Int)) (hk:j-i=k) (hij:i≤j) (hj:j≤cap) :
 (execOp ev o).run prog W=.ok (.value (.slice (some ⟨sb,of,none⟩) k (cap-i))) W:=by
 subst hk A4;simp only [execOp,ho,hx,hy,hz,Dy,Option.map_none];by_cases hc:cap=i
 ·subst hc
  rw [if_pos rfl];go_simp
 ·rw [if_neg hc]
  go_simp
theorem RV {of:Nat} {aN m:Bool} {op:Int} {s:ByteArray} {a:Nat} (h:W.heap[B]? = some (.cells #[.bool aN,.int .i64 op,.bool m,.int .u8 0,.int .u8 0,.int .u8 0,.int .u8 0,.string s] 61 (0,0))) (hs:bJ W (.slice (some ⟨sb,of,none⟩) 4 c4) [a,b,c,d]) :
 (Builtin.copy_ #[49,49] 3 #[.slice (some ⟨B,3,none⟩) 4 4,.slice (some ⟨sb,of,none⟩) 4 c4]).run prog W=.ok (.int .i64 4) (W.setRow B #[.bool aN,.int .i64 op,.bool m,.int .u8 (a:Int),.int .u8 (b:Int),.int .u8 (c:Int),.int .u8 (d:Int),.string s]):=by
 obtain ⟨ad,c',xz,xD,he,h1,h2,h3⟩:=hs;injection he with ea eb ec
 rw [h2 (by simp)] at ea;injection ea with ea
 injection ea with e1 e2
 subst e1 e2;have:=run_copy_row (P:=prog) W 49 49 3 5 B 3 4 4 ⟨sb,of,none⟩ 4 c4 _ 61 (dZ [a,b,c,d]) underlying49 size5 h (by rfl) (fun j v hv=>by
  have hj:j<4:=(LV.1 hv).1;rw [DD,h3 j hj,← hv,jl _ _ hj]) (by simp) (oM _)
 exact this
theorem Ou {of:Nat} : (Builtin.copy_ #[49,49] 3 #[.slice (some ⟨B,3,none⟩) 4 4,.slice (some ⟨sb,of,none⟩) 0 c4]).run prog W=.ok (.int .i64 0) W :=
 run_copy_none (P:=prog) W 49 49 3 5 _ _ 4 4 0 c4 underlying49 size5 rfl
theorem J7 (aN:Bool) (op:Int) (m:Bool) (sb so L cap p n:Nat) (bs:List Nat) (w:World) (hv:bJ w (.slice (some ⟨sb,so,none⟩) L cap) bs) (hl:bs.length=L) (bB:aU 256 bs) (hm:L≤100000) (hp:p≤L) (hn:n≤9223372036854775807) :
 Calls prog 137 #[.agg #[.bool aN,.int .i64 op,.bool m,.int .u8 0,.int .u8 0,.int .u8 0,.int .u8 0,.string {data:=#[]}],.slice (some ⟨sb,so,none⟩) L cap,.int .i64 (p:Int),.int .u64 (n:Int)] w fun e w'=>e=.returned (lN (iH aN op m p n (bs.drop p)))∧Sl (Below w.heap.size w w'):=by
 have HV:=Sl.mk hv;have hLc:L≤cap:=by obtain ⟨_,c',_,_,he,h1,_⟩:=hv;injection he with _ _ ec;omega
 clear hv;cases m with
 | true =>
   obtain ⟨w1,bA⟩:=zX (w.alloc (.cells #[.bool aN,.int .i64 op,.bool true,.int .u8 0,.int .u8 0,.int .u8 0,.int .u8 0,.string {data:=#[]}] 61));have tS:w1.heap.size=w.heap.size+1:=by rw [← bA];exact aP _ _
   obtain ⟨w2,cE⟩:=zX (w1.alloc (.cells zZ 61));have bk:Sl (Below w.heap.size w w2):=⟨by rw [← cE,← bA];exact (fQ w _).ah.alloc (by rw [aP];omega) _⟩;have nj:Sl (w2.heap[w.heap.size]? = some (.cells #[.bool aN,.int .i64 op,.bool true,.int .u8 0,.int .u8 0,.int .u8 0,.int .u8 0,.string {data:=#[]}] 61 (0,0))):=⟨by rw [← cE,gJ _ _ _ (by omega),← bA];exact dQ _ _⟩;have kl:Sl (w2.heap[w.heap.size+1]? = some (.cells zZ 61 (0,0))):=⟨by rw [← cE,← tS];exact dQ _ _⟩;obtain ⟨p0,p1,p2,p3,p4,p5,p6,p7⟩:=oZ nj.ah;obtain ⟨q,hq⟩:=zX (p+4);have C1:=fun W=>yI aN op true 0 0 0 0 {data:=#[]} 4 W rfl
   have z1:IntKind.i64.wrap ((p:Int)+4)=(q:Int):=by rw [lZ];omega
   rw [show ((4:Nat):Int)=4 from rfl] at C1;go_enter func137,ntmps137;go_wp2_with fail
   refine (C1 _).mono ?_;rintro e w3 ⟨rfl,cI⟩;have bv:Sl (Below w.heap.size w w3):=⟨bk.ah.trans (cI.ah.mono bk.ah.size)⟩;have wN:Sl (w3.heap[w.heap.size]? = some (.cells #[.bool aN,.int .i64 op,.bool true,.int .u8 0,.int .u8 0,.int .u8 0,.int .u8 0,.string {data:=#[]}] 61 (0,0))):=⟨ay nj.ah cI.ah⟩;have dg:Sl (w3.heap[w.heap.size+1]? = some (.cells zZ 61 (0,0))):=⟨ay kl.ah cI.ah⟩;have HV3:Sl (bJ w3 (.slice (some ⟨sb,so,none⟩) L cap) bs):=⟨HV.ah.below (aY _) bv.ah⟩;clear cI bk nj kl C1 p0 p1 p2 p3 p4 p5 p6 p7;by_cases hL:L<q
   ·have hLq:((L:Int)<(q:Int))=True:=eq_true (by omega)
    have HQ:Sl (iH aN op true p n (bs.drop p)=(dn,0,90)):=⟨by unfold iH;rw [if_pos rfl,if_pos (by rw [iP];omega)]⟩;clear hL;have HI:=aW (cs:=zZ) rfl;go_wp2_with (refine fG rfl 61 (.tmp 8) (.tmp 30) rfl (w.heap.size+1) zZ rfl rfl 61 zZ dg.ah HI rfl (aZ _ _ _ _ _ _ _ _) ?_)
    go_wp2;refine gX (dw rfl _ _ (w.heap.size+1) 61 _ (0,0) rfl (gY _ _ _ _ _ _ dg.ah) rfl) rfl ?_;rw [HQ.ah];exact ⟨rfl,⟨below_setRow bv.ah (by omega) _⟩⟩
   ·have hLq:((L:Int)<(q:Int))=False:=dR (by omega)
    obtain ⟨r,hr⟩:=zX (L-q);have z2:IntKind.i64.wrap ((L:Int)-(q:Int))=(r:Int):=by rw [lZ];omega
    have z3:IntKind.u64.wrap (r:Int)=(r:Int):=by rw [FP];omega
    by_cases qk:r<n
    ·have No:((r:Int)<(n:Int))=True:=eq_true (by omega)
     have HQ:Sl (iH aN op true p n (bs.drop p)=(dn,0,90)):=⟨by unfold iH;rw [if_pos rfl,if_pos (by rw [iP];omega)]⟩;clear qk hL;have HI:=aW (cs:=zZ) rfl;go_wp2_with (refine fG rfl 61 (.tmp 8) (.tmp 30) rfl (w.heap.size+1) zZ rfl rfl 61 zZ dg.ah HI rfl (aZ _ _ _ _ _ _ _ _) ?_)
     go_wp2;refine gX (dw rfl _ _ (w.heap.size+1) 61 _ (0,0) rfl (gY _ _ _ _ _ _ dg.ah) rfl) rfl ?_;rw [HQ.ah];exact ⟨rfl,⟨below_setRow bv.ah (by omega) _⟩⟩
    ·have No:((r:Int)<(n:Int))=False:=dR (by omega)
     obtain ⟨en,xF⟩:=zX (q+n);have hpq:p≤q:=by omega
     have hqc:q≤cap:=by omega
     have Li:q≤en:=by omega
     have YK:en≤cap:=by omega
     obtain ⟨Al,Gk⟩:∃ Al,(if cap=p then so else so+p)=Al:=⟨_,rfl⟩;obtain ⟨uL,A5⟩:∃ uL,(if cap=q then so else so+q)=uL:=⟨_,rfl⟩;have z4:IntKind.i64.wrap (n:Int)=(n:Int):=by rw [lZ];omega
     have z5:IntKind.i64.wrap ((q:Int)+(n:Int))=(en:Int):=by rw [lZ];omega
     go_upto_region 4 with fail
     obtain ⟨Rw,hR⟩:=zX w3.drew;have aM:Sl (Below w.heap.size w Rw):=⟨by rw [← hR];exact bv.ah.drew⟩;have uR:Sl (Rw.heap[w.heap.size]? = some (.cells #[.bool aN,.int .i64 op,.bool true,.int .u8 0,.int .u8 0,.int .u8 0,.int .u8 0,.string {data:=#[]}] 61 (0,0))):=⟨by rw [← hR];exact wN.ah⟩;have gP:Sl (Rw.heap[w.heap.size+1]? = some (.cells zZ 61 (0,0))):=⟨by rw [← hR];exact dg.ah⟩;have Lk:Sl (bJ Rw (.slice (some ⟨sb,so,none⟩) L cap) bs):=⟨HV.ah.below (aY _) aM.ah⟩;have al:Below w.heap.size w Rw:=aM.ah;refine Ai ?_;refine Ah (S:=fun W=>Below w.heap.size w W) (by kernel_rfl) ?_;change wpAnyH _ _ _ _ _ _ _ _ w3.drew;rw [hR];clear hR bv wN dg HV3;refine zT 0 (some 31) (.fieldAddr 61 (.tmp 4) 3) _ al ?_;simp only [zA,zB,zS];refine zT 1 (some 32) (.slice 59 (.tmp 31) none none none) _ al ?_;simp only [zA,zB,zS];refine zT 2 (some 33) (.move (.tmp 1)) _ al ?_;simp only [zA,zB,zS];refine zT 3 (some 34) (.move (.tmp 2)) _ al ?_;simp only [zA,zB,zS];refine zT 4 (some 35) (.move (.tmp 11)) _ al ?_;simp only [zA,zB,zS];refine zT 5 (some 36) (.slice 49 (.tmp 33) (some (.tmp 34)) (some (.tmp 35)) none) (.slice (some ⟨sb,Al,none⟩) 4 (cap-p)) al ?_ (hy:=fun o' ho W hS=>tK Al Gk ho (by rfl) (by rfl) (by rfl) (by omega) hpq hqc);simp only [zA,zB,zS];obtain ⟨a,b,c,d,lP⟩:=F5 (bs.drop p) (by rw [iP];omega);have im:aU 256 [a,b,c,d]:=by rw [← lP];exact (bB.drop p).take 4
     obtain ⟨w4,cS⟩:=zX (Rw.setRow w.heap.size #[.bool aN,.int .i64 op,.bool true,.int .u8 (a:Int),.int .u8 (b:Int),.int .u8 (c:Int),.int .u8 (d:Int),.string {data:=#[]}]);have An:(Builtin.copy_ #[49,49] 3 #[.slice (some ⟨w.heap.size,3,none⟩) 4 4,.slice (some ⟨sb,Al,none⟩) 4 (cap-p)]).run prog Rw=.ok (.int .i64 4) w4:=by
      rw [← cS];exact RV uR.ah (by rw [← lP];exact wM Lk.ah p 4 _ Al (fun _=>by rw [← Gk,if_neg (by omega)]) (by omega) (by omega) hl)
     have br:Sl (Below w.heap.size w w4):=⟨by rw [← cS];exact below_setRow aM.ah (aY _) _⟩;have YL:Sl (w4.heap[w.heap.size]? = some (.cells #[.bool aN,.int .i64 op,.bool true,.int .u8 (a:Int),.int .u8 (b:Int),.int .u8 (c:Int),.int .u8 (d:Int),.string {data:=#[]}] 61 (0,0))):=⟨by rw [← cS];exact gY _ _ _ _ _ _ uR.ah⟩;have iN:Sl (w4.heap[w.heap.size+1]? = some (.cells zZ 61 (0,0))):=⟨by rw [← cS,qC _ _ _ _ (by omega)];exact gP.ah⟩;refine zR 6 (some 37) (.call {callee:=.builtin .copy,args:=#[.tmp 32,.tmp 36],argTypes:=#[49,49]}) 3 (.int .i64 4) w4 br.ah ?_ (hy:=fun o' ho ht=>by simp only [execOp,ho,ht,resolve,invoke,builtin,rE,Sem.run_pure,Result.andThen_ok,UW,JJ,NT];refine (lG (fun r=>Result.andThen r _) An).trans ?_;rfl);simp only [zA,zB,zS];refine zE (by kernel_rfl) ?_;clear aM uR gP Lk al An cS;have HV4:Sl (bJ w4 (.slice (some ⟨sb,so,none⟩) L cap) bs):=⟨HV.ah.below (aY _) br.ah⟩;go_upto_region 6 with fail
     obtain ⟨Rw,hR⟩:=zX w4.drew;have al:Below w.heap.size w Rw:=by rw [← hR];exact br.ah.drew
     have uR:Rw.heap[w.heap.size]? = some (.cells #[.bool aN,.int .i64 op,.bool true,.int .u8 (a:Int),.int .u8 (b:Int),.int .u8 (c:Int),.int .u8 (d:Int),.string {data:=#[]}] 61 (0,0)):=by rw [← hR];exact YL.ah
     have gP:Sl (Rw.heap[w.heap.size+1]? = some (.cells zZ 61 (0,0))):=⟨by rw [← hR];exact iN.ah⟩;have Lk:Sl (bJ Rw (.slice (some ⟨sb,so,none⟩) L cap) bs):=⟨HV.ah.below (aY _) al⟩;refine Ai ?_;refine Ah (S:=fun W=>Below w.heap.size w W) (by kernel_rfl) ?_;change wpAnyH _ _ _ _ _ _ _ _ w4.drew;rw [hR];clear hR br YL iN HV4;refine zT 1 (some 43) (.move (.tmp 1)) _ al ?_;simp only [zA,zB,zS];refine zT 2 (some 44) (.move (.tmp 11)) _ al ?_;simp only [zA,zB,zS];refine zT 3 (some 45) (.move (.tmp 12)) _ al ?_;simp only [zA,zB,zS];refine zT 4 (some 46) (.slice 49 (.tmp 43) (some (.tmp 44)) (some (.tmp 45)) none) (.slice (some ⟨sb,uL,none⟩) n (cap-q)) al ?_ (hy:=fun o' ho W hS=>tK uL A5 ho (by rfl) (by rfl) (by rfl) (by omega) Li YK);simp only [zA,zB,zS];refine zR 0 (some 42) (.load 61 (.tmp 4)) 61 (.agg #[.bool aN,.int .i64 op,.bool true,.int .u8 (a:Int),.int .u8 (b:Int),.int .u8 (c:Int),.int .u8 (d:Int),.string {data:=#[]}]) Rw al ?_ (hy:=fun o' ho _=>BH ho (by rfl) rfl uR);simp only [zA,zB,zS];refine zC 5 (some 47) (.call {callee:=.value (.func 161),args:=#[.tmp 42,.tmp 46],argTypes:=#[61,49]}) 161 #[.agg #[.bool aN,.int .i64 op,.bool true,.int .u8 (a:Int),.int .u8 (b:Int),.int .u8 (c:Int),.int .u8 (d:Int),.string {data:=#[]}],.slice (some ⟨sb,uL,none⟩) n (cap-q)] ?_;refine (mg aN op true a b c d {data:=#[]} sb uL n (cap-q) ((bs.drop q).take n) Rw im (wM Lk.ah q n (cap-q) uL (fun _=>by rw [← A5,if_neg (by omega)]) (by omega) (by omega) hl) ((bB.drop q).take n) (by rw [kQ,iP];omega) (by omega)).mono ?_;rintro e X ⟨gt,ot,ct,rfl,cC,df⟩;have cT:Below w.heap.size w X:=al.trans (df.ah.mono al.size);have Gr:X.heap[w.heap.size]? = some (.cells #[.bool aN,.int .i64 op,.bool true,.int .u8 (a:Int),.int .u8 (b:Int),.int .u8 (c:Int),.int .u8 (d:Int),.string {data:=#[]}] 61 (0,0)):=ay uR df.ah;have kt:Sl (X.heap[w.heap.size+1]? = some (.cells zZ 61 (0,0))):=⟨ay gP.ah df.ah⟩;obtain ⟨DT,YM⟩:=zX (tb true [a,b,c,d] ((bs.drop q).take n));have HQ:Sl (iH aN op true p n (bs.drop p)=(⟨aN,op,true,[a,b,c,d],DT⟩,en,0)):=⟨by unfold iH;rw [if_pos rfl,if_neg (by rw [iP];omega),lP,← YM,QN,hq,xF];rfl⟩;rw [YM] at cC;have eh:=cC.ah.conv;obtain ⟨w5,dq⟩:=zX (X.setCell ⟨w.heap.size,7,none⟩ (.string (aF DT)));have px:X.frozen? ⟨w.heap.size,7,none⟩=false:=kT _ _ _ _ _ Gr;have A6:X.cell? ⟨w.heap.size,7,none⟩=some (.string {data:=#[]}):=(oZ Gr).2.2.2.2.2.2.2;have HY5:Sl (w5.heap[w.heap.size]? = some (.cells #[.bool aN,.int .i64 op,.bool true,.int .u8 (a:Int),.int .u8 (b:Int),.int .u8 (c:Int),.int .u8 (d:Int),.string (aF DT)] 61 (0,0))):=⟨by rw [← dq,lF _ _ _ _ _ _ Gr];rfl⟩;have o3:Sl (w5.heap[w.heap.size+1]? = some (.cells zZ 61 (0,0))):=⟨by rw [← dq,pI _ _ _ _ (by show w.heap.size+1≠w.heap.size;omega)];exact kt.ah⟩;have ch:Sl (Below w.heap.size w w5):=⟨by rw [← dq];exact cT.setCell (aY _) _⟩;refine ⟨_,rfl,cT,?_⟩;simp only [zA,zB,zS]
     refine zR 6 (some 48) (.convert 49 9 (.tmp 47)) 9 (.string (aF DT)) X cT ?_ (hy:=fun o' ho _=>by simp only [execOp,ho];simp only [rE,Sem.run_pure];refine (lG (fun r=>Result.andThen r _) eh).trans ?_;rfl);simp only [zA,zB,zS];refine zT 7 (some 49) (.fieldAddr 61 (.tmp 4) 4) _ cT ?_;simp only [zA,zB,zS];refine zW 8 none (.store 9 (.tmp 49) (.tmp 48)) 0 w5 ch.ah ?_ (hy:=fun o' ho ht=>by simp only [execOp,ho];go_simp;first | done | rw [dq] | rfl);simp only [Act.put];refine zE (by kernel_rfl) ?_;have HI:=aW (cs:=#[.bool aN,.int .i64 op,.bool true,.int .u8 (a:Int),.int .u8 (b:Int),.int .u8 (c:Int),.int .u8 (d:Int),.string (aF DT)]) rfl;obtain ⟨h0,h1,h2,h3,h4,h5,h6,h7⟩:=oZ HY5.ah;clear cC eh px A6 dq kt Gr cT df;go_wp2_with (refine fG rfl 61 (.tmp 8) (.tmp 50) rfl (w.heap.size+1) #[.bool aN,.int .i64 op,.bool true,.int .u8 (a:Int),.int .u8 (b:Int),.int .u8 (c:Int),.int .u8 (d:Int),.string (aF DT)] rfl rfl 61 zZ o3.ah HI rfl (aZ _ _ _ _ _ _ _ _) ?_)
     go_wp2;refine gX (dw rfl _ _ (w.heap.size+1) 61 _ (0,0) rfl (gY _ _ _ _ _ _ o3.ah) rfl) rfl ?_;rw [HQ.ah];exact ⟨rfl,⟨below_setRow ch.ah (by omega) _⟩⟩
 | false =>
   obtain ⟨w1,bA⟩:=zX (w.alloc (.cells #[.bool aN,.int .i64 op,.bool false,.int .u8 0,.int .u8 0,.int .u8 0,.int .u8 0,.string {data:=#[]}] 61));have tS:w1.heap.size=w.heap.size+1:=by rw [← bA];exact aP _ _
   obtain ⟨w2,cE⟩:=zX (w1.alloc (.cells zZ 61));have bk:Sl (Below w.heap.size w w2):=⟨by rw [← cE,← bA];exact (fQ w _).ah.alloc (by rw [aP];omega) _⟩;have nj:Sl (w2.heap[w.heap.size]? = some (.cells #[.bool aN,.int .i64 op,.bool false,.int .u8 0,.int .u8 0,.int .u8 0,.int .u8 0,.string {data:=#[]}] 61 (0,0))):=⟨by rw [← cE,gJ _ _ _ (by omega),← bA];exact dQ _ _⟩;have kl:Sl (w2.heap[w.heap.size+1]? = some (.cells zZ 61 (0,0))):=⟨by rw [← cE,← tS];exact dQ _ _⟩;obtain ⟨p0,p1,p2,p3,p4,p5,p6,p7⟩:=oZ nj.ah;have C1:=fun W=>yI aN op false 0 0 0 0 {data:=#[]} 0 W rfl
   have z1:IntKind.i64.wrap (p:Int)=(p:Int):=by rw [lZ];omega
   rw [show ((0:Nat):Int)=0 from rfl] at C1;go_enter func137,ntmps137;go_wp2_with fail
   refine (C1 _).mono ?_;rintro e w3 ⟨rfl,cI⟩;have bv:Sl (Below w.heap.size w w3):=⟨bk.ah.trans (cI.ah.mono bk.ah.size)⟩;have wN:Sl (w3.heap[w.heap.size]? = some (.cells #[.bool aN,.int .i64 op,.bool false,.int .u8 0,.int .u8 0,.int .u8 0,.int .u8 0,.string {data:=#[]}] 61 (0,0))):=⟨ay nj.ah cI.ah⟩;have dg:Sl (w3.heap[w.heap.size+1]? = some (.cells zZ 61 (0,0))):=⟨ay kl.ah cI.ah⟩;have HV3:Sl (bJ w3 (.slice (some ⟨sb,so,none⟩) L cap) bs):=⟨HV.ah.below (aY _) bv.ah⟩;clear cI bk nj kl C1 p0 p1 p2 p3 p4 p5 p6 p7;by_cases hL:L<p
   ·have hLq:((L:Int)<(p:Int))=True:=eq_true (by omega)
    have HQ:Sl (iH aN op false p n (bs.drop p)=(dn,0,90)):=⟨by unfold iH;rw [if_neg (by decide),if_pos (by rw [iP];omega)]⟩;clear hL;have HI:=aW (cs:=zZ) rfl;go_wp2_with (refine fG rfl 61 (.tmp 8) (.tmp 30) rfl (w.heap.size+1) zZ rfl rfl 61 zZ dg.ah HI rfl (aZ _ _ _ _ _ _ _ _) ?_)
    go_wp2;refine gX (dw rfl _ _ (w.heap.size+1) 61 _ (0,0) rfl (gY _ _ _ _ _ _ dg.ah) rfl) rfl ?_;rw [HQ.ah];exact ⟨rfl,⟨below_setRow bv.ah (by omega) _⟩⟩
   ·have hLq:((L:Int)<(p:Int))=False:=dR (by omega)
    obtain ⟨r,hr⟩:=zX (L-p);have z2:IntKind.i64.wrap ((L:Int)-(p:Int))=(r:Int):=by rw [lZ];omega
    have z3:IntKind.u64.wrap (r:Int)=(r:Int):=by rw [FP];omega
    by_cases qk:r<n
    ·have No:((r:Int)<(n:Int))=True:=eq_true (by omega)
     have HQ:Sl (iH aN op false p n (bs.drop p)=(dn,0,90)):=⟨by unfold iH;rw [if_neg (by decide),if_pos (by rw [iP];omega)]⟩;clear qk hL;have HI:=aW (cs:=zZ) rfl;go_wp2_with (refine fG rfl 61 (.tmp 8) (.tmp 30) rfl (w.heap.size+1) zZ rfl rfl 61 zZ dg.ah HI rfl (aZ _ _ _ _ _ _ _ _) ?_)
     go_wp2;refine gX (dw rfl _ _ (w.heap.size+1) 61 _ (0,0) rfl (gY _ _ _ _ _ _ dg.ah) rfl) rfl ?_;rw [HQ.ah];exact ⟨rfl,⟨below_setRow bv.ah (by omega) _⟩⟩
    ·have No:((r:Int)<(n:Int))=False:=dR (by omega)
     obtain ⟨en,xF⟩:=zX (p+n);have hpq:p≤p:=by omega
     have hqc:p≤cap:=by omega
     have Li:p≤en:=by omega
     have YK:en≤cap:=by omega
     obtain ⟨Al,Gk⟩:∃ Al,(if cap=p then so else so+p)=Al:=⟨_,rfl⟩;obtain ⟨uL,A5⟩:∃ uL,(if cap=p then so else so+p)=uL:=⟨_,rfl⟩;have z4:IntKind.i64.wrap (n:Int)=(n:Int):=by rw [lZ];omega
     have z5:IntKind.i64.wrap ((p:Int)+(n:Int))=(en:Int):=by rw [lZ];omega
     go_upto_region 4 with fail
     obtain ⟨Rw,hR⟩:=zX w3.drew;have aM:Sl (Below w.heap.size w Rw):=⟨by rw [← hR];exact bv.ah.drew⟩;have uR:Sl (Rw.heap[w.heap.size]? = some (.cells #[.bool aN,.int .i64 op,.bool false,.int .u8 0,.int .u8 0,.int .u8 0,.int .u8 0,.string {data:=#[]}] 61 (0,0))):=⟨by rw [← hR];exact wN.ah⟩;have gP:Sl (Rw.heap[w.heap.size+1]? = some (.cells zZ 61 (0,0))):=⟨by rw [← hR];exact dg.ah⟩;have Lk:Sl (bJ Rw (.slice (some ⟨sb,so,none⟩) L cap) bs):=⟨HV.ah.below (aY _) aM.ah⟩;have al:Below w.heap.size w Rw:=aM.ah;refine Ai ?_;refine Ah (S:=fun W=>Below w.heap.size w W) (by kernel_rfl) ?_;change wpAnyH _ _ _ _ _ _ _ _ w3.drew;rw [hR];clear hR bv wN dg HV3;refine zT 0 (some 31) (.fieldAddr 61 (.tmp 4) 3) _ al ?_;simp only [zA,zB,zS];refine zT 1 (some 32) (.slice 59 (.tmp 31) none none none) _ al ?_;simp only [zA,zB,zS];refine zT 2 (some 33) (.move (.tmp 1)) _ al ?_;simp only [zA,zB,zS];refine zT 3 (some 34) (.move (.tmp 2)) _ al ?_;simp only [zA,zB,zS];refine zT 4 (some 35) (.move (.tmp 11)) _ al ?_;simp only [zA,zB,zS];refine zT 5 (some 36) (.slice 49 (.tmp 33) (some (.tmp 34)) (some (.tmp 35)) none) (.slice (some ⟨sb,Al,none⟩) 0 (cap-p)) al ?_ (hy:=fun o' ho W hS=>tK Al Gk ho (by rfl) (by rfl) (by rfl) (by omega) hpq hqc);simp only [zA,zB,zS];obtain ⟨w4,cS⟩:=zX Rw;have An:(Builtin.copy_ #[49,49] 3 #[.slice (some ⟨w.heap.size,3,none⟩) 4 4,.slice (some ⟨sb,Al,none⟩) 0 (cap-p)]).run prog Rw=.ok (.int .i64 0) w4:=by
      rw [← cS];exact Ou
     have br:Sl (Below w.heap.size w w4):=⟨by rw [← cS];exact aM.ah⟩;have YL:Sl (w4.heap[w.heap.size]? = some (.cells #[.bool aN,.int .i64 op,.bool false,.int .u8 0,.int .u8 0,.int .u8 0,.int .u8 0,.string {data:=#[]}] 61 (0,0))):=⟨by rw [← cS];exact uR.ah⟩;have iN:Sl (w4.heap[w.heap.size+1]? = some (.cells zZ 61 (0,0))):=⟨by rw [← cS];exact gP.ah⟩;refine zR 6 (some 37) (.call {callee:=.builtin .copy,args:=#[.tmp 32,.tmp 36],argTypes:=#[49,49]}) 3 (.int .i64 0) w4 br.ah ?_ (hy:=fun o' ho ht=>by simp only [execOp,ho,ht,resolve,invoke,builtin,rE,Sem.run_pure,Result.andThen_ok,UW,JJ,NT];refine (lG (fun r=>Result.andThen r _) An).trans ?_;rfl);simp only [zA,zB,zS];refine zE (by kernel_rfl) ?_;clear aM uR gP Lk al An cS;have HV4:Sl (bJ w4 (.slice (some ⟨sb,so,none⟩) L cap) bs):=⟨HV.ah.below (aY _) br.ah⟩;go_upto_region 6 with fail
     obtain ⟨Rw,hR⟩:=zX w4.drew;have al:Below w.heap.size w Rw:=by rw [← hR];exact br.ah.drew
     have uR:Rw.heap[w.heap.size]? = some (.cells #[.bool aN,.int .i64 op,.bool false,.int .u8 0,.int .u8 0,.int .u8 0,.int .u8 0,.string {data:=#[]}] 61 (0,0)):=by rw [← hR];exact YL.ah
     have gP:Sl (Rw.heap[w.heap.size+1]? = some (.cells zZ 61 (0,0))):=⟨by rw [← hR];exact iN.ah⟩;have Lk:Sl (bJ Rw (.slice (some ⟨sb,so,none⟩) L cap) bs):=⟨HV.ah.below (aY _) al⟩;refine Ai ?_;refine Ah (S:=fun W=>Below w.heap.size w W) (by kernel_rfl) ?_;change wpAnyH _ _ _ _ _ _ _ _ w4.drew;rw [hR];clear hR br YL iN HV4;refine zT 1 (some 43) (.move (.tmp 1)) _ al ?_;simp only [zA,zB,zS];refine zT 2 (some 44) (.move (.tmp 11)) _ al ?_;simp only [zA,zB,zS];refine zT 3 (some 45) (.move (.tmp 12)) _ al ?_;simp only [zA,zB,zS];refine zT 4 (some 46) (.slice 49 (.tmp 43) (some (.tmp 44)) (some (.tmp 45)) none) (.slice (some ⟨sb,uL,none⟩) n (cap-p)) al ?_ (hy:=fun o' ho W hS=>tK uL A5 ho (by rfl) (by rfl) (by rfl) (by omega) Li YK);simp only [zA,zB,zS];refine zR 0 (some 42) (.load 61 (.tmp 4)) 61 (.agg #[.bool aN,.int .i64 op,.bool false,.int .u8 0,.int .u8 0,.int .u8 0,.int .u8 0,.string {data:=#[]}]) Rw al ?_ (hy:=fun o' ho _=>BH ho (by rfl) rfl uR);simp only [zA,zB,zS];refine zC 5 (some 47) (.call {callee:=.value (.func 161),args:=#[.tmp 42,.tmp 46],argTypes:=#[61,49]}) 161 #[.agg #[.bool aN,.int .i64 op,.bool false,.int .u8 0,.int .u8 0,.int .u8 0,.int .u8 0,.string {data:=#[]}],.slice (some ⟨sb,uL,none⟩) n (cap-p)] ?_;refine (mg aN op false 0 0 0 0 {data:=#[]} sb uL n (cap-p) ((bs.drop p).take n) Rw (fun x hx=>by simp at hx;omega) (wM Lk.ah p n (cap-p) uL (fun _=>by rw [← A5,if_neg (by omega)]) (by omega) (by omega) hl) ((bB.drop p).take n) (by rw [kQ,iP];omega) (by omega)).mono ?_;rintro e X ⟨gt,ot,ct,rfl,cC,df⟩;have cT:Below w.heap.size w X:=al.trans (df.ah.mono al.size);have Gr:X.heap[w.heap.size]? = some (.cells #[.bool aN,.int .i64 op,.bool false,.int .u8 0,.int .u8 0,.int .u8 0,.int .u8 0,.string {data:=#[]}] 61 (0,0)):=ay uR df.ah;have kt:Sl (X.heap[w.heap.size+1]? = some (.cells zZ 61 (0,0))):=⟨ay gP.ah df.ah⟩;obtain ⟨DT,YM⟩:=zX (tb false [0,0,0,0] ((bs.drop p).take n));have HQ:Sl (iH aN op false p n (bs.drop p)=(⟨aN,op,false,bn,DT⟩,en,0)):=⟨by unfold iH;rw [if_neg (by decide),if_neg (by rw [iP];omega),← YM,xF];rfl⟩;rw [YM] at cC;have eh:=cC.ah.conv;obtain ⟨w5,dq⟩:=zX (X.setCell ⟨w.heap.size,7,none⟩ (.string (aF DT)));have px:X.frozen? ⟨w.heap.size,7,none⟩=false:=kT _ _ _ _ _ Gr;have A6:X.cell? ⟨w.heap.size,7,none⟩=some (.string {data:=#[]}):=(oZ Gr).2.2.2.2.2.2.2;have HY5:Sl (w5.heap[w.heap.size]? = some (.cells #[.bool aN,.int .i64 op,.bool false,.int .u8 0,.int .u8 0,.int .u8 0,.int .u8 0,.string (aF DT)] 61 (0,0))):=⟨by rw [← dq,lF _ _ _ _ _ _ Gr];rfl⟩;have o3:Sl (w5.heap[w.heap.size+1]? = some (.cells zZ 61 (0,0))):=⟨by rw [← dq,pI _ _ _ _ (by show w.heap.size+1≠w.heap.size;omega)];exact kt.ah⟩;have ch:Sl (Below w.heap.size w w5):=⟨by rw [← dq];exact cT.setCell (aY _) _⟩;refine ⟨_,rfl,cT,?_⟩;simp only [zA,zB,zS];refine zR 6 (some 48) (.convert 49 9 (.tmp 47)) 9 (.string (aF DT)) X cT ?_ (hy:=fun o' ho _=>by simp only [execOp,ho];simp only [rE,Sem.run_pure];refine (lG (fun r=>Result.andThen r _) eh).trans ?_;rfl);simp only [zA,zB,zS]
     refine zT 7 (some 49) (.fieldAddr 61 (.tmp 4) 4) _ cT ?_;simp only [zA,zB,zS];refine zW 8 none (.store 9 (.tmp 49) (.tmp 48)) 0 w5 ch.ah ?_ (hy:=fun o' ho ht=>by simp only [execOp,ho];go_simp;first | done | rw [dq] | rfl);simp only [Act.put];refine zE (by kernel_rfl) ?_;have HI:=aW (cs:=#[.bool aN,.int .i64 op,.bool false,.int .u8 0,.int .u8 0,.int .u8 0,.int .u8 0,.string (aF DT)]) rfl;obtain ⟨h0,h1,h2,h3,h4,h5,h6,h7⟩:=oZ HY5.ah;clear cC eh px A6 dq kt Gr cT df;go_wp2_with (refine fG rfl 61 (.tmp 8) (.tmp 50) rfl (w.heap.size+1) #[.bool aN,.int .i64 op,.bool false,.int .u8 0,.int .u8 0,.int .u8 0,.int .u8 0,.string (aF DT)] rfl rfl 61 zZ o3.ah HI rfl (aZ _ _ _ _ _ _ _ _) ?_)
     go_wp2;refine gX (dw rfl _ _ (w.heap.size+1) 61 _ (0,0) rfl (gY _ _ _ _ _ _ o3.ah) rfl) rfl ?_;rw [HQ.ah];exact ⟨rfl,⟨below_setRow ch.ah (by omega) _⟩⟩
end
section
variable {W:World} {ev:Operand→Value} {o:Oper} {x:Operand} {xs:List Nat}
theorem J8 {sb so L cap k:Nat} (of:Nat) (A4:(if cap=1 then so else so+1)=of) (ho:o.op=.slice 49 x (some (.const (.int .i64 1))) none none) (hx:ev x=.slice (some ⟨sb,so,none⟩) L cap) (hk:L-1=k) (hL:1≤L∧L≤cap) (mS:ev (.const (.int .i64 1))=.int .i64 1) :
 (execOp ev o).run prog W=.ok (.value (.slice (some ⟨sb,of,none⟩) k (cap-1))) W:=by
 subst hk A4;obtain ⟨hL1,hL2⟩:=hL;simp only [execOp,ho,hx,mS,Dy,Option.map_none];by_cases hc:cap=1
 ·subst hc
  rw [if_pos rfl];go_simp
  intro h;omega
 ·rw [if_neg hc]
  go_simp
  intro h;omega
theorem yK {y:Operand} {g:Nat} {oB cells:Array Value} (ho:o.op=.store 61 x y) (hx:ev x=.pointer (some ⟨g,0,none⟩)) (hy:ev y=.agg cells) (hg:W.heap[g]? = some (.cells oB 61 (0,0))) (hs:oB.size=8∧cells.size=8) (h1:cells.all (·.oneCell')=true) :
 (execOp ev o).run prog W=.ok .skip (W.setRow g cells):=by
 unfold execOp;simp only [ho,hx,hy,Instr.storeAt,Instr.sureAddr,rE,Sem.run_pure,Result.andThen_ok,run_storeVar_row W g 61 61 oB cells hg (aW hs.2) (hs.1.trans hs.2.symm) h1]
theorem ME (x:Nat) (h:x<256):gG x=!(W9 (decide (128≤x)) ((x % 128:Nat):Int))∧(gG x=false→(aQ ((x % 128:Nat):Int)=true↔8≤x % 16)∧x % 128=x % 16):=by
 have:∀ c:Fin 256,gG c.val=!(W9 (decide (128≤c.val)) ((c.val % 128:Nat):Int))∧(gG c.val=false→(aQ ((c.val % 128:Nat):Int)=true↔8≤c.val % 16)∧c.val % 128=c.val % 16):=by decide +kernel
 exact this ⟨x,h⟩
theorem jR (x:Nat) (xs:List Nat) (ae:Int):eX (x :: xs) ae=if gG x then (dn,0,91)
 else if 0<xs.length∧8≤x % 16∧125<xs.getD 0 0 % 128 then (dn,0,91)
 else if (bK xs).2.2=81 then (dn,0,91)
 else if (bK xs).2.2=80 then (dn,0,90)
 else if ae<((bK xs).1:Int) then (dn,0,92)
 else rest x (xs.getD 0 0) (bK xs).1 (bK xs).2.1 (xs.drop (bK xs).2.1):=rfl
theorem wO {x:Nat} (ae:Int) (h:gG x=true):eX (x :: xs) ae=(dn,0,91):=by rw [jR,if_pos h]
theorem RX {x:Nat} (ae:Int) (hx:x<256) (h:gG x=false):eX (x :: xs) ae=if (kE (x % 128) xs).2.2=0 then (if ae<(((kE (x % 128) xs).1:Nat):Int) then (dn,0,92) else rest x (xs.getD 0 0) (kE (x % 128) xs).1 (kE (x % 128) xs).2.1 (xs.drop (kE (x % 128) xs).2.1)) else (dn,0,(kE (x % 128) xs).2.2):=by
 have h2:=((ME x hx).2 h).1;rw [jR,if_neg (show ¬ gG x=true from by rw [h];decide)];unfold kE;by_cases c1:aQ ((x % 128:Nat):Int)=true∧0<xs.length∧125<xs.getD 0 0 % 128
 ·rw [if_pos c1,if_pos ⟨c1.2.1,h2.1 c1.1,c1.2.2⟩];rfl
 ·rw [if_neg c1,if_neg (fun hh=>c1 ⟨h2.2 hh.2.1,hh.1,hh.2.2⟩)]
  by_cases c2:(bK xs).2.2=81
  ·rw [if_pos c2,if_pos c2];rfl
  ·rw [if_neg c2,if_neg c2]
   by_cases c3:(bK xs).2.2=80
   ·rw [if_pos c3,if_pos c3];rfl
   ·rw [if_neg c3,if_neg c3]
    have c4:(bK xs).2.2=0:=by rcases jP xs with h | h | h<;>omega
    rw [if_pos c4]
theorem Vj (o:Nat) (bs:List Nat):(kE o bs).2.1≤bs.length∧(bs=[]→(kE o bs).2.2≠0):=by
 unfold kE;have:=yF bs;refine ⟨?_,fun hb=>?_⟩
 ·split
  ·exact ku _
  ·split
   ·exact ku _
   ·split
    ·exact ku _
    ·exact this
 ·subst hb;rw [if_neg (fun h=>absurd h.2.1 (by decide)),if_neg (by decide),if_pos (by rfl)];decide
theorem RY (sb so L cap:Nat) (bs:List Nat) (ae:Int) (w:World) (hg:bD w) (hv:bJ w (.slice (some ⟨sb,so,none⟩) L cap) bs) (fe:bs.length=L) (bB:aU 256 bs) (hm:L≤100000) (kw:ae≤9223372036854775807) :
 Calls prog 109 #[.slice (some ⟨sb,so,none⟩) L cap,.int .i64 ae] w fun e w'=>e=.returned (lN (eX bs ae))∧Sl (Below w.heap.size w w'):=by
 have HG:=Sl.mk hg;have HV:=Sl.mk hv;have hLc:L≤cap:=by obtain ⟨_,c',_,_,he,h1,_⟩:=hv;injection he with _ _ ec;omega
 obtain ⟨w1,bA⟩:=zX (w.alloc (.cells zZ 61));have bi:Sl (Below w.heap.size w w1):=⟨by rw [← bA];exact (fQ w _).ah⟩;have my:Sl (w1.heap[w.heap.size]? = some (.cells zZ 61 (0,0))):=⟨by rw [← bA];exact dQ _ _⟩;by_cases h0:L=0
 ·subst h0
  obtain rfl:bs=[]:=yA fe;have HQ:Sl (eX [] ae=(dn,0,90)):=⟨rfl⟩;clear hg hv bB hm kw fe hLc;go_enter func109,ntmps109;have HI:=aW (cs:=zZ) rfl;go_wp2_with (refine fG rfl 61 (.tmp 4) (.tmp 14) rfl w.heap.size zZ rfl rfl 61 zZ my.ah HI rfl (aZ _ _ _ _ _ _ _ _) ?_)
  refine gX (dw rfl _ _ w.heap.size 61 _ (0,0) rfl (gY _ _ _ _ _ _ my.ah) rfl) rfl ?_;rw [HQ.ah];exact ⟨rfl,⟨below_setRow bi.ah (aY _) _⟩⟩
 obtain ⟨x,xs,rfl⟩:∃ x xs,bs=x :: xs:=by
  cases bs with
  | nil=>exact absurd fe.symm h0
  | cons x xs=>exact ⟨x,xs,rfl⟩
 have hL1:L-1=xs.length:=by rw [← fe];simp
 have qn:∀ i,i<L→w.cell? ⟨sb,so+i,none⟩=some (.int .u8 (((x :: xs).getD i 0:Nat):Int)):=by
  obtain ⟨a,c',xz,xD,he,h1,h2,h3⟩:=hv;injection he with ea eb ec
  rw [h2 (by simp)] at ea;injection ea with ea
  injection ea with e1 e2
  subst e1 e2;exact fun i hi=>h3 i (by omega)
 have sr:w.cell? ⟨sb,so,none⟩=some (.int .u8 (x:Int)):=qn 0 (by omega);have py:sb<w.heap.size:=zk sr;have dv:x<256:=bB x (by simp);have Nt:=ME x dv;have o0:=vg x dv;have Bb:=FZ x dv;obtain ⟨o,ho⟩:=zX (x % 128);have ahl:o<128:=by omega
 rw [ho] at o0 Nt;obtain ⟨aN,iA⟩:=zX (decide (128≤x));have xL:((((if 128≤x then 128 else 0:Nat):Int)) != 0)=aN:=by
  rw [← iA];by_cases h:128≤x
  ·rw [if_pos h,iG h];rfl
  ·rw [if_neg h,iQ h];rfl
 obtain ⟨ax,V0⟩:∃ ax:Nat,(if 128≤x then 128 else 0:Nat)=ax:=⟨_,rfl⟩;rw [V0] at Bb xL;rw [iA] at Nt;have hwo:IntKind.i64.wrap (o:Int)=(o:Int):=by rw [lZ];omega
 obtain ⟨ob,xS⟩:=zX (W9 aN (o:Int));have C23:∀ W,Calls prog 135 #[.bool aN,.int .i64 (o:Int)] W fun e w'=>e=.returned (.bool ob)∧W=w':=fun W=>by rw [← xS];exact Es aN (o:Int) W
 have hLq:((L:Int)==0)=false:=by simp;omega
 have h0L:0<L:=by omega
 go_enter func109,ntmps109;go_upto_region 3 with fail
 obtain ⟨Rw,hR⟩:=zX w1.drew;have al:Below w.heap.size w Rw:=by rw [← hR];exact bi.ah.drew
 have gP:Rw.heap[w.heap.size]? = some (.cells zZ 61 (0,0)):=by rw [← hR];exact my.ah
 refine Ai ?_;refine Ah (S:=fun W=>Below w.heap.size w W) (by kernel_rfl) ?_;change wpAnyH _ _ _ _ _ _ _ _ w1.drew;rw [hR];clear hR bi my;refine zT 0 (some 15) (.move (.tmp 0)) _ al ?_;simp only [zA,zB,zS];refine zT 1 (some 16) (.indexAddr 49 (.tmp 15) (.const (.int .i64 0))) _ al ?_;simp only [zA,zB,zS];refine zT 2 (some 17) (.load 5 (.tmp 16)) _ al ?_ (hy:=fun o' ho W hS=>by have kx:W.cell? ⟨sb,so,none⟩=some (.int .u8 (x:Int)):=(hS.cell py).trans sr;simp only [execOp,ho];go_simp;try rfl);simp only [zA,zB,zS];refine zT 3 (some 18) (.binOp .and 5 (.tmp 17) (.const (.int .u8 128)) 5) _ al ?_;simp only [zA,zB,zS];refine zT 4 (some 19) (.binOp .neq 5 (.tmp 18) (.const (.int .u8 0)) 5) _ al ?_;simp only [zA,zB,zS];refine zT 5 (some 20) (.move (.tmp 0)) _ al ?_;simp only [zA,zB,zS];refine zT 6 (some 21) (.indexAddr 49 (.tmp 20) (.const (.int .i64 0))) _ al ?_;simp only [zA,zB,zS];refine zT 7 (some 22) (.load 5 (.tmp 21)) _ al ?_ (hy:=fun o' ho W hS=>by have kx:W.cell? ⟨sb,so,none⟩=some (.int .u8 (x:Int)):=(hS.cell py).trans sr;simp only [execOp,ho];go_simp;try rfl);simp only [zA,zB,zS];refine zT 8 (some 23) (.binOp .andNot 5 (.tmp 22) (.const (.int .u8 128)) 5) _ al ?_;simp only [zA,zB,zS];refine zT 9 (some 24) (.convert 5 3 (.tmp 23)) _ al ?_;simp only [zA,zB,zS];refine zT 10 (some 25) (.build 61 #[(0,.tmp 19),(1,.tmp 24)]) _ al ?_;simp only [zA,zB,zS];obtain ⟨w2,cE⟩:=zX (Rw.alloc (.cells zZ 61));obtain ⟨fb,il⟩:=zX Rw.heap.size;have bk:Sl (Below w.heap.size w w2):=⟨by rw [← cE];exact al.alloc al.size _⟩;have nz:w2.heap[fb]? = some (.cells zZ 61 (0,0)):=by rw [← cE,← il];exact dQ _ _
 have eW:w.heap.size<fb:=by rw [← il];exact (zl gP)
 have kl:w2.heap[w.heap.size]? = some (.cells zZ 61 (0,0)):=by rw [← cE,gJ _ _ _ (by omega)];exact gP
 refine zR 11 (some 7) (.alloc 61) 0 (.pointer (some ⟨fb,0,none⟩)) w2 bk.ah ?_ (hy:=fun o' ho _=>by simp only [execOp,ho];go_simp;first | done | (refine ⟨?_,?_⟩<;>first | rw [il] | rw [cE] | rfl) | (rw [il];done) | (rw [cE,il];done) | rfl);simp only [zA,zB,zS];obtain ⟨w3,cH⟩:=zX (w2.setRow fb #[.bool aN,.int .i64 (o:Int),.bool false,.int .u8 0,.int .u8 0,.int .u8 0,.int .u8 0,.string {data:=#[]}]);have bv:Sl (Below w.heap.size w w3):=⟨by rw [← cH];exact below_setRow bk.ah (by omega) _⟩;have o4:Sl (w3.heap[fb]? = some (.cells #[.bool aN,.int .i64 (o:Int),.bool false,.int .u8 0,.int .u8 0,.int .u8 0,.int .u8 0,.string {data:=#[]}] 61 (0,0))):=⟨by rw [← cH];exact gY _ _ _ _ _ _ nz⟩;have dg:Sl (w3.heap[w.heap.size]? = some (.cells zZ 61 (0,0))):=⟨by rw [← cH,qC _ _ _ _ (by omega)];exact kl⟩;have ko:=Sl.mk eW;refine zW 12 none (.store 61 (.tmp 7) (.tmp 25)) 0 w3 bv.ah ?_ (hy:=fun o' ho ht=>by rw [← cH];exact yK ho (by rfl) (by rfl) nz ⟨rfl,rfl⟩ (aZ _ _ _ _ _ _ _ _));simp only [Act.put];refine zE (by kernel_rfl) ?_;clear al gP cE il bk nz kl cH;obtain ⟨e0,e1,e2,e3,e4,e5,e6,e7⟩:=oZ o4.ah;go_wp2_with fail
 refine (C23 _).mono ?_;rintro e w' ⟨rfl,rfl⟩;cases ob with
 | false =>
   have cX:gG x=true:=by rw [Nt.1,xS];rfl
   have HQ:Sl (eX (x :: xs) ae=(dn,0,91)):=⟨wO ae cX⟩;have HI:=aW (cs:=zZ) rfl;go_wp2_with (refine fG rfl 61 (.tmp 4) (.tmp 32) rfl w.heap.size zZ rfl rfl 61 zZ dg.ah HI rfl (aZ _ _ _ _ _ _ _ _) ?_)
   refine gX (dw rfl _ _ w.heap.size 61 _ (0,0) rfl (gY _ _ _ _ _ _ dg.ah) rfl) rfl ?_;rw [HQ.ah];exact ⟨rfl,⟨below_setRow bv.ah (aY _) _⟩⟩
 | true =>
   have cX:gG x=false:=by rw [Nt.1,xS];rfl
   obtain ⟨l,hl⟩:=zX xs.length;rw [hl] at hL1;obtain ⟨⟨n,k,e⟩,cD⟩:∃ r,kE o xs=r:=⟨_,rfl⟩;have lp:=RX (xs:=xs) ae dv cX;rw [ho,cD] at lp;have cV:=Vj o xs;rw [cD] at cV;obtain ⟨Nx,GC⟩:∃ Nx,(if cap=1 then so else so+1)=Nx:=⟨_,rfl⟩;have C24:∀ W,Below w.heap.size w W→Calls prog 136 #[.int .i64 (o:Int),.slice (some ⟨sb,Nx,none⟩) l (cap-1)] W fun e' w'=>e'=.returned (.tuple #[.int .u64 (n:Int),.int .i64 (k:Int),.int .i64 (e:Int)])∧Sl (Below W.heap.size W w'):=fun W hW=>by
    have hs:=wM (HV.ah.below (aY _) hW) 1 l (cap-1) Nx (fun _=>by rw [← GC,if_neg (by omega)]) (by omega) (by omega) fe;rw [show (((x :: xs).drop 1).take l)=xs by rw [WY,Af];exact nC (by omega)] at hs;have:=J6 o _ xs W (HG.ah.below hW HG.ah.size) hs (fun y hy=>bB y (uK _ hy)) (by omega);rw [cD] at this;exact this
   go_upto_region 6 with fail
   obtain ⟨Rw,hR⟩:=zX w3.drew;have al:Below w.heap.size w Rw∧Rw.heap[fb]? = some (.cells #[.bool aN,.int .i64 (o:Int),.bool false,.int .u8 0,.int .u8 0,.int .u8 0,.int .u8 0,.string {data:=#[]}] 61 (0,0)):=⟨by rw [← hR];exact bv.ah.drew,by rw [← hR];exact o4.ah⟩;have gP:Sl (Rw.heap[w.heap.size]? = some (.cells zZ 61 (0,0))):=⟨by rw [← hR];exact dg.ah⟩;refine Ai ?_;refine Ah (S:=fun W=>Below w.heap.size w W∧W.heap[fb]? = some (.cells #[.bool aN,.int .i64 (o:Int),.bool false,.int .u8 0,.int .u8 0,.int .u8 0,.int .u8 0,.string {data:=#[]}] 61 (0,0))) (by kernel_rfl) ?_;change wpAnyH _ _ _ _ _ _ _ _ w3.drew;rw [hR];clear hR bv o4 dg;refine zT 0 (some 34) (.fieldAddr 61 (.tmp 7) 1) _ al ?_;simp only [zA,zB,zS];refine zT 1 (some 35) (.load 3 (.tmp 34)) _ al ?_ (hy:=fun o' ho W hS=>by have NA:=(oZ hS.2).2.1;simp only [execOp,ho];go_simp;try rfl);simp only [zA,zB,zS];refine zT 2 (some 36) (.move (.tmp 0)) _ al ?_;simp only [zA,zB,zS];refine zT 3 (some 37) (.slice 49 (.tmp 36) (some (.const (.int .i64 1))) none none) (.slice (some ⟨sb,Nx,none⟩) l (cap-1)) al ?_ (hy:=fun o' ho W hS=>J8 Nx GC ho (by rfl) hL1 ⟨h0L,hLc⟩ (by rfl));simp only [zA,zB,zS];refine zC 4 (some 38) (.call {callee:=.value (.func 136),args:=#[.tmp 35,.tmp 37],argTypes:=#[3,49]}) 136 #[.int .i64 (o:Int),.slice (some ⟨sb,Nx,none⟩) l (cap-1)] ?_;refine (C24 Rw al.1).mono ?_;rintro e X ⟨rfl,df⟩;have cT:Below w.heap.size w X∧X.heap[fb]? = some (.cells #[.bool aN,.int .i64 (o:Int),.bool false,.int .u8 0,.int .u8 0,.int .u8 0,.int .u8 0,.string {data:=#[]}] 61 (0,0)):=⟨al.1.trans (df.ah.mono al.1.size),ay al.2 df.ah⟩;have kt:Sl (X.heap[w.heap.size]? = some (.cells zZ 61 (0,0))):=⟨ay gP.ah df.ah⟩;refine ⟨_,rfl,cT,?_⟩;simp only [zA,zB,zS];refine zT 5 (some 33) (.move (.tmp 38)) _ cT ?_;simp only [zA,zB,zS];refine zT 6 (some 39) (.extract (.tmp 33) 0) _ cT ?_;simp only [zA,zB,zS];refine zT 7 (some 40) (.extract (.tmp 33) 1) _ cT ?_;simp only [zA,zB,zS];refine zT 8 (some 41) (.extract (.tmp 33) 2) _ cT ?_;simp only [zA,zB,zS];refine zT 9 (some 8) (.assign (.tmp 39)) _ cT ?_;simp only [zA,zB,zS];refine zT 10 (some 9) (.assign (.tmp 40)) _ cT ?_;simp only [zA,zB,zS];refine zT 11 (some 10) (.assign (.tmp 41)) _ cT ?_;simp only [zA,zB,zS];refine zE (by kernel_rfl) ?_;have cq:=Sl.mk cT.1;have jt:=Sl.mk cT.2;clear al gP cT df;by_cases ur:e=0
   ·subst ur
    have M5:0<l:=by
     have:=cV.2;cases xs with
     | nil=>exact absurd rfl (this rfl)
     | cons y ys=>rw [← hl];simp
    obtain ⟨y,hy⟩:=zX (xs.getD 0 0);have YN:y<256:=by rw [← hy];exact aU.getD (fun z hz=>bB z (uK _ hz)) (by omega) 0
    have qr:w.cell? ⟨sb,so+1,none⟩=some (.int .u8 (y:Int)):=by rw [qn 1 (by omega),← hy];rfl
    have YO:x % 16=o:=by have:=(Nt.2 cX).2;omega
    have iS:Sl (eX (x :: xs) ae=if ae<(n:Int) then (dn,0,92) else iH aN (o:Int) (decide (128≤y)) (1+k) n ((x :: xs).drop (1+k))):=⟨by
     rw [lp,if_pos rfl,yJ,YO,iA,hy,show (x :: xs).drop (1+k)=xs.drop k by rw [Nat.add_comm];rfl]⟩
    have mt:k≤l:=by have:=cV.1;omega
    clear lp cV cD qn sr o0 Bb Nt xS C23 C24 xL V0 cX hy YO hv bA hg e0 e1 e2 e3 e4 e5 e6 e7 hl GC iA ho hwo;by_cases hneg:ae<0
    ·have nf:(ae<0)=True:=eq_true hneg
     have HQ:Sl (eX (x :: xs) ae=(dn,0,92)):=⟨by rw [iS.ah];exact if_pos (by omega)⟩;clear hneg;have HI:=aW (cs:=zZ) rfl;go_wp2_with (refine fG rfl 61 (.tmp 4) (.tmp 54) rfl w.heap.size zZ rfl rfl 61 zZ kt.ah HI rfl (aZ _ _ _ _ _ _ _ _) ?_)
     refine gX (dw rfl _ _ w.heap.size 61 _ (0,0) rfl (gY _ _ _ _ _ _ kt.ah) rfl) rfl ?_;rw [HQ.ah];exact ⟨rfl,⟨below_setRow cq.ah (aY _) _⟩⟩
    ·have nf:(ae<0)=False:=dR hneg
     obtain ⟨mo,rfl⟩:=JH (show 0≤ae by omega);have hmw:IntKind.u64.wrap (mo:Int)=(mo:Int):=by rw [FP];omega
     by_cases eJ:mo<n
     ·have mw:((n:Int)>(mo:Int))=True:=eq_true (by omega)
      have HQ:Sl (eX (x :: xs) (mo:Int)=(dn,0,92)):=⟨by rw [iS.ah];exact if_pos (by omega)⟩;clear hneg;have HI:=aW (cs:=zZ) rfl;go_wp2_with (refine fG rfl 61 (.tmp 4) (.tmp 54) rfl w.heap.size zZ rfl rfl 61 zZ kt.ah HI rfl (aZ _ _ _ _ _ _ _ _) ?_)
      refine gX (dw rfl _ _ w.heap.size 61 _ (0,0) rfl (gY _ _ _ _ _ _ kt.ah) rfl) rfl ?_;rw [HQ.ah];exact ⟨rfl,⟨below_setRow cq.ah (aY _) _⟩⟩
     ·have mw:((n:Int)>(mo:Int))=False:=dR (by omega)
      have HQ:Sl (eX (x :: xs) (mo:Int)=iH aN (o:Int) (decide (128≤y)) (1+k) n ((x :: xs).drop (1+k))):=⟨by rw [iS.ah,if_neg (by omega)]⟩;have dC:1+k≤L:=by omega
      have GD:n≤9223372036854775807:=by omega
      have cy:X.cell? ⟨sb,so+1,none⟩=some (.int .u8 (y:Int)):=(cq.ah.cell py).trans qr;obtain ⟨f0,f1,f2,f3,f4,f5,f6,f7⟩:=oZ jt.ah;have z2:X.frozen? ⟨fb,2,none⟩=false:=kT _ _ _ _ _ jt.ah;have Nn:IntKind.i64.wrap (1+(k:Int))=((1+k:Nat):Int):=by rw [lZ];omega
      obtain ⟨pk,Ln⟩:=zX (1+k);rw [Ln] at Nn;have h1L:1<L:=by omega
      obtain ⟨mk,pA⟩:=zX (decide (128≤y));obtain ⟨w4,cS⟩:=zX (X.setCell ⟨fb,2,none⟩ (.bool mk));have br:Sl (Below w.heap.size w w4):=⟨by rw [← cS];exact cq.ah.setCell (by show w.heap.size≤fb;have:=ko.ah;omega) _⟩;have DE:Sl (w4.heap[fb]? = some (.cells #[.bool aN,.int .i64 (o:Int),.bool mk,.int .u8 0,.int .u8 0,.int .u8 0,.int .u8 0,.string {data:=#[]}] 61 (0,0))):=⟨by rw [← cS,lF _ _ _ _ _ _ jt.ah];rfl⟩;have iN:Sl (w4.heap[w.heap.size]? = some (.cells zZ 61 (0,0))):=⟨by rw [← cS,pI _ _ _ _ (by show w.heap.size≠fb;have:=ko.ah;omega)];exact kt.ah⟩;obtain ⟨g0,g1,g2,g3,g4,g5,g6,g7⟩:=oZ DE.ah;rw [pA,Ln] at HQ;have o0:=FZ y YN;have C25:=fun W hW=>J7 aN (o:Int) mk sb so L cap pk n (x :: xs) W hW fe bB hm (by omega) GD
      clear hneg eJ dC GD iS;cases mk with
      | true =>
        have sA:128≤y:=QE pA;rw [if_pos sA] at o0;clear sA pA;rw [show (((128:Nat):Int))=128 from rfl] at o0;go_wp2_with fail
        refine (C25 _ (HV.ah.below (aY _) br.ah)).mono ?_;rintro e w5 ⟨rfl,eT⟩;have ch:Sl (Below w.heap.size w w5):=⟨br.ah.trans (eT.ah.mono br.ah.size)⟩;have o3:Sl (w5.heap[w.heap.size]? = some (.cells zZ 61 (0,0))):=⟨ay iN.ah eT.ah⟩;clear eT;obtain ⟨r,hr⟩:=zX (iH aN (o:Int) true pk n ((x :: xs).drop pk));rw [hr] at HQ ⊢;clear hr;obtain ⟨⟨rf,ro,rm,rk,rd⟩,rn,re⟩:=r;have HI:=aW (cs:=(zV rf ro rm (rk.getD 0 0) (rk.getD 1 0) (rk.getD 2 0) (rk.getD 3 0) (aF rd))) rfl;unfold lN Ot;go_wp2_with (refine fG rfl 61 (.tmp 4) (.tmp 67) rfl w.heap.size (zV rf ro rm (rk.getD 0 0) (rk.getD 1 0) (rk.getD 2 0) (rk.getD 3 0) (aF rd)) rfl rfl 61 zZ o3.ah HI rfl (aZ _ _ _ _ _ _ _ _) ?_)
        refine gX (dw rfl _ _ w.heap.size 61 _ (0,0) rfl (gY _ _ _ _ _ _ o3.ah) rfl) rfl ?_;rw [HQ.ah];exact ⟨rfl,⟨below_setRow ch.ah (aY _) _⟩⟩
      | false =>
        have sA:¬ 128≤y:=of_decide_eq_false pA;rw [if_neg sA] at o0;clear sA pA;rw [show (((0:Nat):Int))=0 from rfl] at o0;go_wp2_with fail
        refine (C25 _ (HV.ah.below (aY _) br.ah)).mono ?_;rintro e w5 ⟨rfl,eT⟩;have ch:Sl (Below w.heap.size w w5):=⟨br.ah.trans (eT.ah.mono br.ah.size)⟩;have o3:Sl (w5.heap[w.heap.size]? = some (.cells zZ 61 (0,0))):=⟨ay iN.ah eT.ah⟩;clear eT;obtain ⟨r,hr⟩:=zX (iH aN (o:Int) false pk n ((x :: xs).drop pk));rw [hr] at HQ ⊢;clear hr;obtain ⟨⟨rf,ro,rm,rk,rd⟩,rn,re⟩:=r;have HI:=aW (cs:=(zV rf ro rm (rk.getD 0 0) (rk.getD 1 0) (rk.getD 2 0) (rk.getD 3 0) (aF rd))) rfl;unfold lN Ot;go_wp2_with (refine fG rfl 61 (.tmp 4) (.tmp 67) rfl w.heap.size (zV rf ro rm (rk.getD 0 0) (rk.getD 1 0) (rk.getD 2 0) (rk.getD 3 0) (aF rd)) rfl rfl 61 zZ o3.ah HI rfl (aZ _ _ _ _ _ _ _ _) ?_)
        refine gX (dw rfl _ _ w.heap.size 61 _ (0,0) rfl (gY _ _ _ _ _ _ o3.ah) rfl) rfl ?_;rw [HQ.ah];exact ⟨rfl,⟨below_setRow ch.ah (aY _) _⟩⟩
   ·have ajO:((e:Int) != 0)=true:=by simp;omega
    have HQ:Sl (eX (x :: xs) ae=(dn,0,e)):=⟨by rw [lp];exact if_neg ur⟩;clear lp cV cD qn sr o0 Bb Nt xS C23 C24 xL V0 cX hv bA hg e0 e1 e2 e3 e4 e5 e6 e7 hl GC iA ho hwo ur;have HI:=aW (cs:=zZ) rfl;go_wp2_with (refine fG rfl 61 (.tmp 4) (.tmp 44) rfl w.heap.size zZ rfl rfl 61 zZ kt.ah HI rfl (aZ _ _ _ _ _ _ _ _) ?_)
    refine gX (dw rfl _ _ w.heap.size 61 _ (0,0) rfl (gY _ _ _ _ _ _ kt.ah) rfl) rfl ?_;rw [HQ.ah];exact ⟨rfl,⟨below_setRow cq.ah (aY _) _⟩⟩
open Go.RowKit aO aC jF
theorem F7 {w:World} (cs:Array Value) (h:Below w.heap.size w W):Below w.heap.size w ((W.alloc (.cells zZ 61)).setRow W.heap.size cs)∧((W.alloc (.cells zZ 61)).setRow W.heap.size cs).heap[W.heap.size]? = some (.cells cs 61 (0,0)) :=
 ⟨below_setRow (h.alloc h.size _) h.size _,gY _ _ _ _ _ _ (dQ W _)⟩
theorem mh (W:World) (cs:Array Value):Below W.heap.size W ((W.alloc (.cells zZ 61)).setRow W.heap.size cs):=(F7 cs (dW _ _)).1
open Go.RowKit aO aC jF
open Go.RowKit aO aC jF
end
end Go.Proofs.YtlahonjmfecikaaGreatDoor.gK
namespace aV
open aO aC
section
variable {a:List Nat} {af:Bool} {ae:Int} {f:Fr}
def one (s:List Nat) (af:Bool) (ae:Int):Fr×Nat×Nat :=
 match s with
 | []=>(dn,0,90)
 | x :: xs =>
   if gG x then (dn,0,91)
   else if 0<xs.length∧decide (128≤xs.getD 0 0)≠af then (dn,0,100)
   else eX (x :: xs) ae
theorem iR (x:Nat) (xs:List Nat) (af:Bool) (ae:Int):one (x :: xs) af ae=if gG x then (dn,0,91) else if 0<xs.length∧decide (128≤xs.getD 0 0)≠af then (dn,0,100) else eX (x :: xs) ae:=rfl
theorem wP:type_of% @Go.Proofs.YtlahonjmfecikaaGreatDoor.gK.jR:=@Go.Proofs.YtlahonjmfecikaaGreatDoor.gK.jR
theorem yL (x:Nat) (ae:Int):(eX [x] ae).2.2=if gG x then 91 else 90:=by
 rw [wP];by_cases h:gG x=true
 ·rw [if_pos h,if_pos h]
 ·rw [if_neg h,if_neg h];rfl
theorem Xu (b:List Nat) (af:Bool) (ae:Int) (h:(one a af ae).2.2≠90):one (a++b) af ae=one a af ae:=by
 cases a with
 | nil=>exact absurd rfl h
 | cons x xs =>
   rw [DK,iR,iR];rw [iR] at h;by_cases h1:gG x=true
   ·rw [if_pos h1,if_pos h1]
   rw [if_neg h1] at h ⊢;rw [if_neg h1];by_cases h2:0<xs.length∧decide (128≤xs.getD 0 0)≠af
   ·have hg:(xs++b).getD 0 0=xs.getD 0 0:=by
     rw [iw,Ec h2.1,← iw]
    rw [if_pos h2,if_pos ⟨by rw [jB];omega,by rw [hg];exact h2.2⟩]
   ·rw [if_neg h2] at h ⊢
    cases xs with
    | nil =>
      rw [yL,if_neg h1] at h;exact absurd rfl h
    | cons y ys =>
      have h3:¬ (0<(y :: ys++b).length∧decide (128≤(y :: ys++b).getD 0 0)≠af):=fun hh=>h2 ⟨by simp,hh.2⟩
      rw [if_neg h3,← DK];exact Xo b ae h
theorem MF (a:List Nat) (af:Bool) (ae:Int):(one a af ae).2.2=0∨(∃ e,one a af ae=(dn,0,e)∧(e=90∨e=91∨e=92∨e=100)):=by
 cases a with
 | nil=>exact .inr ⟨90,rfl,.inl rfl⟩
 | cons x xs =>
   rw [iR];by_cases h1:gG x=true
   ·rw [if_pos h1];exact .inr ⟨91,rfl,by omega⟩
   rw [if_neg h1];by_cases h2:0<xs.length∧decide (128≤xs.getD 0 0)≠af
   ·rw [if_pos h2];exact .inr ⟨100,rfl,by omega⟩
   ·rw [if_neg h2]
    rcases L9 (x :: xs) ae with h | ⟨e,h,he⟩
    ·exact .inl h
    ·exact .inr ⟨e,h,by omega⟩
theorem J9 {n:Nat} (h:one a af ae=(f,n,0)):eX a ae=(f,n,0)∧0<a.length:=by
 cases a with
 | nil=>injection h with _ h;injection h with _ h;cases h
 | cons x xs =>
   rw [iR] at h;by_cases h1:gG x=true
   ·rw [if_pos h1] at h;injection h with _ h;injection h with _ h;cases h
   rw [if_neg h1] at h;by_cases h2:0<xs.length∧decide (128≤xs.getD 0 0)≠af
   ·rw [if_pos h2] at h;injection h with _ h;injection h with _ h;cases h
   ·rw [if_neg h2] at h;exact ⟨h,by simp⟩
def F8:Nat→List Nat→Bool→Int→List Fr×Nat×Nat
 | 0,s,_,_=>([],0,s.length)
 | k+1,s,af,ae =>
   if (one s af ae).2.2=90 then ([],0,s.length)
   else if (one s af ae).2.2≠0 then ([],(one s af ae).2.2,0)
   else ((one s af ae).1 :: (F8 k (s.drop (one s af ae).2.1) af ae).1,(F8 k (s.drop (one s af ae).2.1) af ae).2)
theorem yM (k:Nat) (s:List Nat) (af:Bool) (ae:Int):F8 (k+1) s af ae =
 if (one s af ae).2.2=90 then ([],0,s.length)
 else if (one s af ae).2.2≠0 then ([],(one s af ae).2.2,0)
 else ((one s af ae).1 :: (F8 k (s.drop (one s af ae).2.1) af ae).1,(F8 k (s.drop (one s af ae).2.1) af ae).2):=rfl
def all (s:List Nat) (af:Bool) (ae:Int):List Fr×Nat×Nat:=F8 s.length s af ae
theorem qH (hs:∀ y∈a,y<256) (h:(one a af ae).2.2=0):2≤(one a af ae).2.1∧(one a af ae).2.1≤a.length:=by
 obtain ⟨⟨f,n,e⟩,ho⟩:∃ r,one a af ae=r:=⟨_,rfl⟩;rw [ho] at h ⊢;simp only at h;subst h;obtain ⟨_,_,h3,h4,_⟩:=JQ hs (J9 ho).1;exact ⟨h4,h3⟩
theorem Et (af:Bool) (ae:Int):∀ (k:Nat) (s:List Nat),(∀ y∈s,y<256)→s.length≤k→F8 (k+1) s af ae=F8 k s af ae
 | 0,s,_,h=>by
   obtain rfl:s=[]:=yA (by omega);rfl
 | k+1,s,hs,h=>by
   have e1:=yM (k+1) s af ae;have e2:=yM k s af ae;rw [e1,e2];by_cases h1:(one s af ae).2.2=90
   ·rw [if_pos h1,if_pos h1]
   rw [if_neg h1,if_neg h1];by_cases h2:(one s af ae).2.2≠0
   ·rw [if_pos h2,if_pos h2]
   rw [if_neg h2,if_neg h2];have h3:=qH hs (by omega:(one s af ae).2.2=0);have ih:=Et af ae k (s.drop (one s af ae).2.1) (fun y hy=>hs y (Ef hy)) (by rw [iP];omega);rw [ih]
theorem zo (af:Bool) (ae:Int) (s:List Nat) (hs:∀ y∈s,y<256):∀ k,s.length≤k→F8 k s af ae=all s af ae:=by
 intro k hk;obtain ⟨d,rfl⟩:∃ d,k=s.length+d:=⟨k-s.length,by omega⟩;clear hk
 induction d with
 | zero=>rfl
 | succ d ih=>rw [← UO,Et af ae _ s hs (by omega)];exact ih
theorem dX (s:List Nat) (af:Bool) (ae:Int) (hs:∀ y∈s,y<256):all s af ae =
 if (one s af ae).2.2=90 then ([],0,s.length)
 else if (one s af ae).2.2≠0 then ([],(one s af ae).2.2,0)
 else ((one s af ae).1 :: (all (s.drop (one s af ae).2.1) af ae).1,(all (s.drop (one s af ae).2.1) af ae).2):=by
 rw [← zo af ae s hs (s.length+1) (by omega),yM];by_cases h1:(one s af ae).2.2=90
 ·rw [if_pos h1,if_pos h1]
 rw [if_neg h1,if_neg h1];by_cases h2:(one s af ae).2.2≠0
 ·rw [if_pos h2,if_pos h2]
 rw [if_neg h2,if_neg h2,zo af ae _ (fun y hy=>hs y (Ef hy)) _ (by rw [iP];omega)]
theorem jK (af:Bool) (ae:Int):∀ (k:Nat) (s:List Nat),s.length≤k→(∀ y∈s,y<256)→(all s af ae).2.2≤s.length
 | 0,s,h,hs=>by
   obtain rfl:s=[]:=yA (by omega);exact ku _
 | k+1,s,h,hs=>by
   rw [dX s af ae hs];by_cases h1:(one s af ae).2.2=90
   ·rw [if_pos h1];exact aY _
   rw [if_neg h1];by_cases h2:(one s af ae).2.2≠0
   ·rw [if_pos h2];exact ku _
   rw [if_neg h2];have h3:=qH hs (by omega:(one s af ae).2.2=0);have ih:=jK af ae k (s.drop (one s af ae).2.1) (by rw [iP];omega) (fun y hy=>hs y (Ef hy));rw [iP] at ih
   show (all (s.drop (one s af ae).2.1) af ae).2.2≤s.length
   omega
theorem jL (af:Bool) (ae:Int) (b:List Nat) (hb:∀ y∈b,y<256):∀ (k:Nat) (a:List Nat),a.length≤k→(∀ y∈a,y<256)→all (a++b) af ae =
 if (all a af ae).2.1=0 then ((all a af ae).1++(all (a.drop (a.length-(all a af ae).2.2)++b) af ae).1,(all (a.drop (a.length-(all a af ae).2.2)++b) af ae).2) else all a af ae
 | 0,a,h,ha=>by
   obtain rfl:a=[]:=yA (by omega);rfl
 | k+1,a,h,ha=>by
   have hab:∀ y∈a++b,y<256:=fun y hy=>by rcases sN.1 hy with hy | hy;exact ha y hy;exact hb y hy
   by_cases h1:(one a af ae).2.2=90
   ·have e:all a af ae=([],0,a.length):=by rw [dX a af ae ha,if_pos h1]
    rw [e];simp
   ·have ho:=Xu b af ae h1
    by_cases h2:(one a af ae).2.2≠0
    ·have e:all a af ae=([],(one a af ae).2.2,0):=by rw [dX a af ae ha,if_neg h1,if_pos h2]
     rw [e,if_neg h2,dX _ af ae hab,ho,if_neg h1,if_pos h2]
    ·have h3:=qH ha (by omega:(one a af ae).2.2=0)
     obtain ⟨n,hn⟩:=zX ((one a af ae).2.1);have e:all a af ae=((one a af ae).1 :: (all (a.drop n) af ae).1,(all (a.drop n) af ae).2):=by rw [dX a af ae ha,if_neg h1,if_neg h2,hn]
     have e2:all (a++b) af ae=((one a af ae).1 :: (all (a.drop n++b) af ae).1,(all (a.drop n++b) af ae).2):=by
      rw [dX _ af ae hab,ho,if_neg h1,if_neg h2,hn,List.drop_append_of_le_length (by omega)]
     have ih:=jL af ae b hb k (a.drop n) (by rw [iP];omega) (fun y hy=>ha y (Ef hy));have hl:=jK af ae (a.drop n).length (a.drop n) (aY _) (fun y hy=>ha y (Ef hy));rw [iP] at hl;rw [e2,ih,e];by_cases h4:(all (a.drop n) af ae).2.1=0
     ·rw [if_pos h4,if_pos h4]
      have h5:(a.drop n).drop ((a.drop n).length-(all (a.drop n) af ae).2.2)=a.drop (a.length-(all (a.drop n) af ae).2.2):=by
       rw [QN,iP];congr 1;omega
      rw [h5];rfl
     ·rw [if_neg h4,if_neg h4]
theorem rM (af:Bool) (ae:Int):∀ (k:Nat) (s:List Nat),s.length≤k→(∀ y∈s,y<256)→(all s af ae).2.1=0→(one (s.drop (s.length-(all s af ae).2.2)) af ae).2.2=90
 | 0,s,h,hs,h0=>by
   obtain rfl:s=[]:=yA (by omega);rfl
 | k+1,s,h,hs,h0=>by
   by_cases h1:(one s af ae).2.2=90
   ·rw [show all s af ae=([],0,s.length) by rw [dX s af ae hs,if_pos h1]]
    simpa using h1
   by_cases h2:(one s af ae).2.2≠0
   ·rw [show all s af ae=([],(one s af ae).2.2,0) by rw [dX s af ae hs,if_neg h1,if_pos h2]] at h0
    exact absurd h0 h2
   have h3:=qH hs (by omega:(one s af ae).2.2=0);obtain ⟨n,hn⟩:=zX ((one s af ae).2.1);rw [hn] at h3;have e:all s af ae=((one s af ae).1 :: (all (s.drop n) af ae).1,(all (s.drop n) af ae).2):=by rw [dX s af ae hs,if_neg h1,if_neg h2,hn]
   rw [e] at h0 ⊢;have ih:=rM af ae k (s.drop n) (by rw [iP];omega) (fun y hy=>hs y (Ef hy)) h0;have hl:=jK af ae (s.drop n).length (s.drop n) (aY _) (fun y hy=>hs y (Ef hy));rw [iP] at hl;rw [QN,iP] at ih;have h5:n+(s.length-n-(all (s.drop n) af ae).2.2)=s.length-(all (s.drop n) af ae).2.2:=by omega
   rw [h5] at ih;exact ih
theorem pV (hf:dF f=true) (hm:f.af=af) (hk:f.key.length=4) (hd:(f.data.length:Int)≤ae) (kw:ae≤9223372036854775807) (dY:List Nat):one (aT f++dY) af ae=(f,size f,0):=by
 have hn:f.data.length≤9223372036854775807:=by omega
 have hg:=Rf hf hn hk dY ae;rw [if_neg (by omega)] at hg;obtain ⟨b1,_⟩:=oK hf;obtain ⟨l1,_⟩:=pN hn;have lE:0<(iJ f.data.length).length:=by rw [ji hn];split<;>(try split)<;>omega
 have ht:∃ y ys,aT f=kD f :: y :: ys∧decide (128≤y)=f.af:=by
  unfold aT nU;obtain ⟨L,hL⟩:=zX (iJ f.data.length);rw [hL] at lE l1 ⊢;cases L with
  | nil=>cases lE
  | cons y ys =>
    have hy:y<128:=l1;by_cases h:f.af=true
    ·rw [if_pos h,if_pos h]
     exact ⟨y+128,ys++f.key++fC f.key 0 f.data,by simp,by rw [h];exact iG (by omega)⟩
    ·rw [if_neg h,if_neg h]
     exact ⟨y,ys++f.data,by simp,by rw [Bool.eq_false_iff.2 h];exact iQ (by omega)⟩
 obtain ⟨y,ys,e,hy⟩:=ht;rw [e] at hg ⊢;rw [DK] at hg ⊢;rw [iR,if_neg (by rw [b1];decide),if_neg (fun hh=>hh.2 (by show decide (128≤y)=af;rw [hy,hm]))];exact hg
end
end aV
namespace Go.Proofs.YtlahonjmfecikaaGreatDoor.jS
open Go.RowKit aO aC aV jF gK
section
variable {fs l:List Fr} {u v v0 v1:Value} {w w' W W' w0 Z w1:World} {r base b bj L y p k:Nat} {cs:Array Value} {x:Operand} {f:Fr} {o:Oper} {a:Option Addr} {bs ys T:List Nat} {af:Bool} {ae:Int} {ev:Operand→Value} {xs:List Value}
def cv (f:Fr):List Value:=[.bool f.aN,.int .i64 f.op,.bool f.af,.int .u8 ((f.key.getD 0 0:Nat):Int),.int .u8 ((f.key.getD 1 0:Nat):Int),.int .u8 ((f.key.getD 2 0:Nat):Int),.int .u8 ((f.key.getD 3 0:Nat):Int),.string (aF f.data)]
theorem F9 (f:Fr):Ot f=.agg (cv f).toArray:=rfl
def rO (fs:List Fr):List Value:=fs.flatMap cv
theorem lQ (f:Fr) (fs:List Fr):rO (f :: fs)=cv f++rO fs:=rfl
theorem eG (fs:List Fr):(rO fs).length=fs.length*8:=by
 induction fs with
 | nil=>rfl
 | cons f fs ih=>rw [lQ,jB,ih];simp [cv];omega
theorem oh (a b:List Fr):rO (a++b)=rO a++rO b:=by simp [rO]
theorem Xv (f:Fr):∀ u∈cv f,u.oneCell'=true:=fun u hu=>by
 simp only [cv,DN,pJ,or_false] at hu;rcases hu with rfl | rfl | rfl | rfl | rfl | rfl | rfl | rfl<;>rfl
theorem MG:∀ u∈rO fs,u.oneCell'=true:=fun u hu=>by
 simp only [rO,List.mem_flatMap] at hu;obtain ⟨f,_,hf⟩:=hu;exact Xv f u hf
theorem qI:∀ (fs:List Fr) (i:Nat),i<fs.length→∀ j,j<8→(rO fs)[i*8+j]? = (cv (fs.getD i dn))[j]?
 | [],i,hi,_,_=>by simp at hi
 | f :: fs,0,_,j,hj=>by
   rw [lQ,Nat.zero_mul,vT,Ec (by simpa [cv] using hj)];rfl
 | f :: fs,i+1,hi,j,hj=>by
   rw [lQ,show (i+1)*8+j=i*8+j+8 from by omega,QC (by simp [cv])];have:=qI fs i (by simpa using hi) j hj;simpa [cv] using this
theorem RZ {j:Nat} (h:(rO fs)[j]? = some u):j / 8<fs.length∧(cv (fs.getD (j / 8) dn))[j % 8]? = some u:=by
 have hj:j<(rO fs).length:=(LV.1 h).1;rw [eG] at hj;refine ⟨by omega,?_⟩;rw [← qI fs (j / 8) (by omega) (j % 8) (by omega),← h];congr 1;omega
def gZ (W:World) (base:Nat) (v:Value) (fs:List Fr):Prop:=W.ownsRow base 61 8 v fs.length (rO fs)
def aS (W:World) (v:Value) (fs:List Fr):Prop :=
 ∃ (a:Option Addr) (cap sb so:Nat),v=.slice a fs.length cap∧fs.length≤cap∧(0<fs.length→a=some ⟨sb,so,none⟩)∧∀ i,i<fs.length→∀ j,j<8→W.cell? ⟨sb,so+i*8+j,none⟩=(cv (fs.getD i dn))[j]?
theorem wQ (f:Fr) (j:Nat) (hj:j<8):∃ u,(cv f)[j]? = some u:=⟨_,lD (by simpa [cv] using hj)⟩
theorem aS.below (h:aS w v fs) (hb:Below w.heap.size w w'):aS w' v fs:=by
 obtain ⟨a,cap,sb,so,h1,hc,h3,h4⟩:=h;refine ⟨a,cap,sb,so,h1,hc,h3,fun i hi j hj=>?_⟩;have g:=h4 i hi j hj;obtain ⟨u,hu⟩:=wQ (fs.getD i dn) j hj;rw [hu] at g ⊢;have k0:=zk g;rw [hb.cell (p:=⟨sb,so+i*8+j,none⟩) k0];exact g
theorem aS.grown {r:Option Nat} (h:aS w v fs) (hg:w.grownBy w' r) (eW:∀ g,v.ownBlock=some g→some g≠r):aS w' v fs:=by
 obtain ⟨a,cap,sb,so,rfl,hc,h3,h4⟩:=h;refine ⟨a,cap,sb,so,rfl,hc,h3,fun i hi j hj=>?_⟩;have g:=h4 i hi j hj;obtain ⟨u,hu⟩:=wQ (fs.getD i dn) j hj;rw [hu] at g ⊢;have k0:sb<w.heap.size:=zk g;obtain rfl:=h3 (by omega);have hb:w'.heap[sb]? = w.heap[sb]?:=hg.block sb k0 (eW sb rfl);rw [DV (w:=w) hb];exact g
theorem gZ.below (h:gZ w base v l) (hb:Below w.heap.size w w'):gZ w' base v l:=pO h hb
theorem Si (R:World) (base:Nat):gZ R base (.slice none 0 0) []:=US _ _ _ _
theorem gZ.slice (h:gZ W base v l):∃ a c,v=.slice a l.length c:=by
 obtain ⟨_,h2⟩:=h;rcases h2 with ⟨rfl,hz⟩ | ⟨g,cap,fI,rfl,_⟩
 ·rw [hz];exact ⟨_,_,rfl⟩
 ·exact ⟨_,_,rfl⟩
theorem gZ.jr (ho:gZ W base v fs):aS W v fs:=by
 obtain ⟨h1,h2⟩:=ho;rcases h2 with ⟨rfl,hz⟩ | ⟨g,cap,fI,rfl,hg,hh,qr,Dd,gh,GE⟩
 ·exact ⟨none,0,0,0,by rw [hz],by omega,fun h=>by omega,fun i hi=>by omega⟩
 ·refine ⟨some ⟨g,0,none⟩,cap,g,0,rfl,qr,fun _=>rfl,fun i hi j hj=>?_⟩
  have k:=qI fs i hi j hj;rw [vT,← k,jg _ _ _ _ _ _ hh,← GE,NP (by omega)];simp
theorem gZ.ge (h:gZ W base v l) {g:Nat} (hg:v.ownBlock=some g):base≤g:=by
 obtain ⟨_,h2⟩:=h;rcases h2 with ⟨rfl,_⟩ | ⟨k,cap,fI,rfl,hk,_⟩
 ·cases hg
 ·have:k=g:=by simpa [Value.ownBlock] using hg
  omega
theorem gZ.kind {g:Nat} {t:TypeId} (ho:gZ W base v l) (h:W.heap[g]? = some (.cells cs t (0,0))) (ht:t≠61):v.ownBlock≠some g:=fun e=>by
 obtain ⟨_,h2⟩:=ho;rcases h2 with ⟨rfl,_⟩ | ⟨k,cap,fI,rfl,_,hh,_⟩
 ·cases e
 ·obtain rfl:k=g:=by simpa [Value.ownBlock] using e
  rw [h] at hh;injection hh with hh
  injection hh with _ h4
  exact ht h4
theorem gZ.Eu {B:Nat} (h:gZ W base v l) (hB:Below B w0 W) (hg:W.grownBy W' v.ownBlock) (hb:B≤base) (hs:B≤W.heap.size):Below B w0 W' :=
 hB.grown hg hs (fun _ hk=>jd hb (h.ge hk))
theorem info43:∃ i,prog.info? 61=some i∧i.zero=some (.agg #[.bool false,.int .i64 0,.bool false,.int .u8 0,.int .u8 0,.int .u8 0,.int .u8 0,.string ByteArray.empty])∧i.size=8∧i.bytes=40:=by
 have h5:(prog.info? 61).map (fun i=>(i.zero,i.size,i.bytes))=some (some (.agg #[.bool false,.int .i64 0,.bool false,.int .u8 0,.int .u8 0,.int .u8 0,.int .u8 0,.string ByteArray.empty]),8,40):=by kernel_rfl
 cases hi:prog.info? 61 with
 | none=>rw [hi] at h5;cases h5
 | some i =>
   rw [hi] at h5;simp only [Dy,Option.some.injEq,Prod.mk.injEq] at h5;exact ⟨i,rfl,h5.1,h5.2.1,h5.2.2⟩
theorem tN {P:Program} (base:Nat) (t ty e:TypeId) (i:TypeInfo) (z:Value) (size bytes:Nat) (ht:P.underlying t=some (.slice e)) (hi:P.info? e=some i) (hz:i.zero=some z)
 (Lo:i.size=size) (hby:i.bytes=bytes) (hzs:z.cells.size=size) (gh:0<size)
 (v:Value) (n:Nat) (xs:List Value) (ef:w.ownsRow base e size v n xs)
 (a:Addr) (m c:Nat) (o5:List Value) (hl:o5.length=m*size) (ky:∀ j u,o5[j]? = some u→w.cell? (a.add j)=some u) (h1:∀ u∈o5,u.oneCell'=true)
 (Lq:n+m≤maxLen) (qs:(n+m)*bytes≤140737488355328) (eE:base≤w.heap.size) :
 ∃ v' w',(Builtin.append_ #[t,t] ty #[v,.slice (some a) m c]).run P w=.ok v' w'∧w'.ownsRow base e size v' (n+m) (xs++o5)∧w.grownBy w' v.ownBlock ∧
   (v'.ownBlock=v.ownBlock∨v'.ownBlock=some w.heap.size):=by
 obtain ⟨v',w',hr,h2,h3,_⟩:=run_append_own (P:=P) w base t ty e i z size bytes ht hi hz Lo hby hzs gh v n xs ef a m c o5 hl ky h1 Lq qs eE;refine ⟨v',w',hr,h2,h3,?_⟩;subst Lo hby
 rcases ef.2 with ⟨rfl,rfl⟩ | ⟨g,cap,fI,rfl,NB,hg,Vv,qt,cU,YP⟩
 ·have hx:xs=[]:=yA (by simpa using ef.1)
  subst hx;obtain ⟨v2,w2,eA,h4,_,h5⟩:=run_append_own (P:=P) w w.heap.size t ty e i z i.size i.bytes ht hi hz rfl rfl hzs gh _ 0 [] (US w w.heap.size e i.size) a m c o5 hl ky h1 Lq qs (aY _);rw [hr] at eA;injection eA with e1 e2
  subst e1 e2;by_cases hm:m=0
  ·rw [h5.2 ⟨rfl,hm⟩];exact .inl rfl
  ·have K9:=run_append_nil (P:=P) w t ty e i z ht hi hz a m c o5 hl ky (by omega) (by unfold maxLen at Lq;omega) (by have hb:=qs;simp only [vT] at hb;omega)
   rw [hr] at K9;injection K9 with e1 e2
   rw [e1];exact .inr rfl
 ·by_cases hroom:n+m≤cap
  ·have km:n*i.size+o5.length≤fI.size:=by rw [hl,cU,← Nat.add_mul];exact Nat.mul_le_mul_right _ hroom
   have eA:=run_append_room (P:=P) (ty:=ty) w t e i ht hi g n cap fI hg a m c o5 hl ky h1 hroom km;rw [hr] at eA;injection eA with e1 e2
   rw [e1];exact .inl rfl
  ·have holds:∀ j u,xs[j]? = some u→w.cell? ((⟨g,0,none⟩:Addr).add j)=some u:=ef.cells (g:=g) rfl
   have eA:=run_append_grow (P:=P) w t ty e i z ht hi hz ⟨g,0,none⟩ n cap xs ef.1 holds a m c o5 hl ky (by omega) (by unfold maxLen at Lq;omega) (growslice_fits (by omega) qs);rw [hr] at eA;injection eA with e1 e2
   rw [e1];exact .inr rfl
theorem MH {x:Value} {m:List Fr} (ef:gZ Z base v0 m) (hx:aS Z x l) (hl:m.length+l.length≤1000000) (eE:base≤Z.heap.size) :
 ∃ v1 w1,(Builtin.append_ #[34,34] 34 #[v0,x]).run prog Z=.ok v1 w1∧gZ w1 base v1 (m++l)∧Z.grownBy w1 v0.ownBlock∧(v1.ownBlock=v0.ownBlock∨v1.ownBlock=some Z.heap.size):=by
 obtain ⟨i0,kn,ic,eI,dz⟩:=info43;obtain ⟨ad,cap,sb,so,rfl,db,mx,bL⟩:=hx;have key:∀ a:Addr,(0<l.length→a=⟨sb,so,none⟩)→∃ v1 w1,(Builtin.append_ #[34,34] 34 #[v0,.slice (some a) l.length cap]).run prog Z=.ok v1 w1∧gZ w1 base v1 (m++l)∧Z.grownBy w1 v0.ownBlock∧(v1.ownBlock=v0.ownBlock∨v1.ownBlock=some Z.heap.size):=fun a ha=>by
  obtain ⟨v',w',h1,h2,h3,h4⟩:=tN (P:=prog) (w:=Z) base 34 34 61 i0 _ 8 40 underlying34 kn ic eI dz rfl (by decide) v0 m.length (rO m) ef a l.length cap (rO l) (eG l) (fun j u hu=>by
   obtain ⟨hi,h⟩:=RZ hu;obtain rfl:=ha (by omega);have g1:=bL _ hi (j % 8) (by omega);rw [DD,← h,← g1];congr 2;omega) MG (by unfold maxLen;omega) (by omega) eE
  refine ⟨v',w',h1,?_,h3,h4⟩;unfold gZ;rw [jB,oh];exact h2
 cases ad with
 | some a=>exact key a (fun h=>by have:=mx h;injection this)
 | none =>
   have hz:l.length=0:=by
    by_cases h:0<l.length
    ·have:=mx h;cases this
    ·omega
   have hf:l=[]:=yA hz;subst hf;refine ⟨v0,Z,?_,by rw [yC];exact ef,iV _ _,.inl rfl⟩;rcases ef.2 with ⟨rfl,_⟩ | ⟨g,c,fI,rfl,_,_,Vv,_⟩
   ·simp [Builtin.append_,run_underlying underlying34,sizeOf,typeInfo,kn,Builtin.lenOf,Builtin.firstCells]
   ·simp [Builtin.append_,run_underlying underlying34,sizeOf,typeInfo,kn,Builtin.lenOf,Builtin.firstCells,storeCells]
    intro hc;exact absurd hc (by omega)
theorem mP {g:Nat} {t:TypeId} (h:W.heap[g]? = some (.cells cs t (0,0))) (hc:cs=(cv f).toArray):aS W (.slice (some ⟨g,0,none⟩) 1 1) [f]:=by
 subst hc;refine ⟨_,1,g,0,rfl,aY _,fun _=>rfl,fun i hi j hj=>?_⟩;obtain rfl:i=0:=by simpa using hi
 rw [jg _ _ _ _ _ _ h,Ed];congr 1;omega
theorem nK {aR:Array Oper} {rest:List Oper} {a:Act} {Q:Exit→Act→World→Prop} (fS:o.guard=none) (s x:Operand)
 (ho:o.op=.call {callee:=.builtin .append,args:=#[s,x],argTypes:=#[34,34]}) (Nm:o.type=34) (base:Nat) (v u:Value) (fs gs:List Fr) (hs:a.eval s=v) (ef:gZ w base v fs)
 (hx:a.eval x=u) (hu:aS w u gs) (hl:fs.length+gs.length≤1000000) (eE:base≤w.heap.size)
 (h:∀ v' w',Sl (gZ w' base v' (fs++gs))→Sl (w.grownBy w' v.ownBlock)→wpList prog aR Q rest (a.put o.dst v') w'):wpList prog aR Q (o :: rest) a w:=by
 obtain ⟨v1,w1,gd,h1,h2,_⟩:=MH ef hu hl eE;refine wpList_plain fS fun K hK=>?_
 unfold Oper.wp;have hy:(execOp a.eval o).run prog w=.ok (.value v1) w1:=by
  simp [execOp,ho,Nm,resolve,invoke,builtin,hs,hx,gd,Result.andThen]
 rw [hy,Xp];exact hK _ _ (h v1 w1 ⟨h1⟩ ⟨h2⟩)
open Go.RowKit aO aC aV jF gK
structure dG (w0 W:World) (b:Nat) (af:Bool) (ae:Int) (part:List Nat) (bj:Nat) (v:Value):Prop where
 X:W.heap[b]? = some (.cells #[.bool af,.int .i64 ae,v,.int .i64 (bj:Int)] 119 (0,0))
 O:W.ownsRow w0.heap.size 5 1 v part.length (dZ part)
 B:w0.heap.size≤b
 L:Below w0.heap.size w0 W
def ob (v:Value) (b:Nat):Nat:=v.ownBlock.getD b
section
variable {w0 W W':World} {b:Nat} {af:Bool} {ae:Int} {part:List Nat} {bj:Nat} {v:Value}
theorem dG.lt (h:dG w0 W b af ae part bj v):b<W.heap.size:=(zl h.X)
theorem dG.below (h:dG w0 W b af ae part bj v) (k:Below W.heap.size W W'):dG w0 W' b af ae part bj v :=
 ⟨ay h.X k,pO h.O k,h.B,h.L.trans (k.mono h.L.size)⟩
theorem dG.slice (h:dG w0 W b af ae part bj v):∃ a c,v=.slice a part.length c∧part.length≤c:=by
 rcases h.O.2 with ⟨rfl,hz⟩ | ⟨g,cap,fI,rfl,_,_,hc,_⟩
 ·rw [hz];exact ⟨_,_,rfl,aY _⟩
 ·exact ⟨_,_,rfl,hc⟩
theorem Sj (h:W.ownsRow base 5 1 v bs.length (dZ bs)):bJ W v bs:=by
 by_cases hp:0<bs.length
 ·obtain ⟨_,_,_,_,k⟩:=tq h hp;exact k
 ·obtain rfl:bs=[]:=yA (by omega)
  rcases h.2 with ⟨rfl,hz⟩ | ⟨g,cap,fI,rfl,_,_,hc,_⟩
  ·exact ⟨none,0,0,0,rfl,aY _,fun h=>absurd h (by decide),fun i hi=>absurd hi (by simp)⟩
  ·exact ⟨_,cap,g,0,rfl,hc,fun _=>rfl,fun i hi=>absurd hi (by simp)⟩
theorem dG.src (h:dG w0 W b af ae part bj v):bJ W v part:=Sj h.O
theorem dG.cells (h:dG w0 W b af ae part bj v):W.cell? ⟨b,0,none⟩=some (.bool af)∧W.cell? ⟨b,1,none⟩=some (.int .i64 ae)∧W.cell? ⟨b,2,none⟩=some v∧W.cell? ⟨b,3,none⟩=some (.int .i64 (bj:Int)):=by
 refine ⟨?_,?_,?_,?_⟩<;>(rw [jg _ _ _ _ _ _ h.X];rfl)
theorem dG.fF (h:dG w0 W b af ae part bj v) (i:Nat):W.frozen? ⟨b,i,none⟩=false:=kT _ _ _ _ _ h.X
end
theorem Gf (af:Bool) (ae:Int) (w0 w:World) (hL:Below w0.heap.size w0 w) (hm:125≤ae∧ae≤65536) :
 Calls prog 38 #[.bool af,.int .i64 ae] w fun e w'=>e=.returned (.tuple #[.pointer (some ⟨w.heap.size,0,none⟩),.int .i64 0])∧Sl (dG w0 w' w.heap.size af ae [] 0 (.slice none 0 0))∧Sl (Below w.heap.size w w'):=by
 have h1:(ae<125)=False:=dR (by omega);have h2:(ae>65536)=False:=dR (by omega);have HL:=Sl.mk hL;clear hm hL;go_enter func38,ntmps38;go_wp2;go_ret2;exact ⟨rfl,⟨⟨aI _ _ _ rfl,US _ _ _ _,HL.ah.size,HL.ah.alloc HL.ah.size _⟩⟩,⟨(dW _ _).alloc (aY _) _⟩⟩
theorem BI {part:List Nat} (h:dG w0 W b af ae part bj v) :
 Calls prog 67 #[.pointer (some ⟨b,0,none⟩)] W fun e w'=>e=.returned (.int .i64 (part.length:Int))∧W=w':=by
 obtain ⟨a,c,rfl,_⟩:=h.slice;obtain ⟨_,_,c2,_⟩:=h.cells;clear h;obtain ⟨n,hn⟩:=zX part.length;rw [hn] at c2 ⊢;clear hn;go_enter func67,ntmps67;go_wp2;go_ret;exact ⟨rfl,rfl⟩
theorem Ko {part:List Nat} (h:dG w0 W b af ae part bj v) (y:Nat) (hy:y<256) :
 Calls prog 108 #[.pointer (some ⟨b,0,none⟩),.int .u8 (y:Int)] W fun e w'=>e=.returned (.bool (decide (128≤y) != af))∧W=w':=by
 obtain ⟨c0,_,_,_⟩:=h.cells;have ha:=FZ y hy;clear h;have xL:((((if 128≤y then 128 else 0:Nat):Int)) != 0)=decide (128≤y):=by
  by_cases h:128≤y
  ·rw [if_pos h,iG h];rfl
  ·rw [if_neg h,iQ h];rfl
 obtain ⟨ax,V0⟩:∃ ax:Nat,(if 128≤y then 128 else 0:Nat)=ax:=⟨_,rfl⟩;obtain ⟨d,hd⟩:=zX (decide (128≤y));rw [V0] at ha xL;rw [hd] at xL ⊢;clear V0 hd;go_enter func108,ntmps108;go_wp2;go_ret;exact ⟨rfl,rfl⟩
open Go.RowKit aO aC aV jF gK
theorem Ov (a:Option Addr) (cap:Nat) (ae:Int) (w:World):Calls prog 109 #[.slice a 0 cap,.int .i64 ae] w fun e w'=>e=.returned (lN (eX [] ae))∧Sl (Below w.heap.size w w'):=by
 obtain ⟨w1,bA⟩:=zX (w.alloc (.cells zZ 61));have bi:Sl (Below w.heap.size w w1):=⟨by rw [← bA];exact (fQ w _).ah⟩;have my:Sl (w1.heap[w.heap.size]? = some (.cells zZ 61 (0,0))):=⟨by rw [← bA];exact dQ _ _⟩;have HQ:Sl (eX [] ae=(dn,0,90)):=⟨rfl⟩;go_enter func109,ntmps109;have HI:=aW (cs:=zZ) rfl;go_wp2_with (refine fG rfl 61 (.tmp 4) (.tmp 14) rfl w.heap.size zZ rfl rfl 61 zZ my.ah HI rfl (aZ _ _ _ _ _ _ _ _) ?_)
 refine gX (dw rfl _ _ w.heap.size 61 _ (0,0) rfl (gY _ _ _ _ _ _ my.ah) rfl) rfl ?_;rw [HQ.ah];exact ⟨rfl,⟨below_setRow bi.ah (aY _) _⟩⟩
theorem Ib (a:Option Addr) (L cap:Nat) (bs:List Nat) (ae:Int) (w:World) (hg:bD w) (hv:bJ w (.slice a L cap) bs) (fe:bs.length=L) (bB:aU 256 bs) (hm:L≤100000) (kw:ae≤9223372036854775807) :
 Calls prog 109 #[.slice a L cap,.int .i64 ae] w fun e w'=>e=.returned (lN (eX bs ae))∧Sl (Below w.heap.size w w'):=by
 by_cases h0:L=0
 ·subst h0
  obtain rfl:bs=[]:=yA fe;exact Ov a cap ae w
 ·have NN:=hv
  obtain ⟨a',c',sb,so,he,_,ha,_⟩:=NN;injection he with e1 e2 e3
  rw [ha (by omega)] at e1;subst e1;exact RY sb so L cap bs ae w hg hv fe bB hm kw
theorem Sm {sb so cap:Nat} (ho:o.op=.slice 49 x none (some (.const (.int .i64 1))) none) (hx:ev x=.slice (some ⟨sb,so,none⟩) L cap) (mS:ev (.const (.int .i64 1))=.int .i64 1) (hc:1≤cap) :
 (execOp ev o).run prog W=.ok (.value (.slice (some ⟨sb,so,none⟩) 1 cap)) W:=by
 simp only [execOp,ho,hx,mS,Dy,Option.map_none];have GF:(1:Int)≤(cap:Int):=by omega
 go_simp
theorem yN (h:bs.length≤1) (af:Bool) (ae:Int):one bs af ae=eX bs ae:=by
 match bs,h with
 | [],_=>rfl
 | [x],_ =>
   by_cases hb:gG x=true
   ·rw [iR,if_pos hb,wP,if_pos hb]
   ·rw [iR,if_neg hb,if_neg (fun hh=>absurd hh.1 (by decide))]
theorem Ic {x:Nat} (h:(decide (128≤y) != af)=false) (ae:Int):one (x :: y :: ys) af ae=eX (x :: y :: ys) ae:=by
 by_cases hb:gG x=true
 ·rw [iR,if_pos hb,wP,if_pos hb]
 ·rw [iR,if_neg hb,if_neg (fun hh=>hh.2 (by simpa using h))]
theorem BJ {x:Nat} (hb:gG x=false) (h:(decide (128≤y) != af)=true) (ae:Int):one (x :: y :: ys) af ae=(dn,0,100):=by
 rw [iR,if_neg (by rw [hb];decide),if_pos ⟨by simp,by simpa using h⟩]
theorem jT (f:Fr):∃ rf ro rm,∃ ka kb kc kd:Nat,∃ rd,Ot f=(.agg (zV rf ro rm ka kb kc kd rd)):=⟨_,_,_,_,_,_,_,_,rfl⟩
theorem wJ {part:List Nat} (hs:dG w0 W b af ae part bj v) (a:Option Addr) (L cap:Nat) (bs:List Nat) (hg:bD w0) (hv:bJ W (.slice a L cap) bs) (fe:bs.length=L) (bB:aU 256 bs) (hm:L≤100000) (kw:ae≤9223372036854775807) :
 Calls prog 83 #[.pointer (some ⟨b,0,none⟩),.slice a L cap] W fun e w'=>e=.returned (lN (one bs af ae))∧Sl (Below W.heap.size W w'):=by
 have HG:=Sl.mk hg;have HV:=Sl.mk hv;have gN:=Sl.mk hs;obtain ⟨f,n,k,tT⟩:∃ f n k,eX bs ae=(f,n,k):=⟨_,_,_,rfl⟩;obtain ⟨rf,ro,rm,ka,kb,kc,kd,rd,cK⟩:=jT f;have FW:∀ V,bD V→bJ V (.slice a L cap) bs→Calls prog 109 #[.slice a L cap,.int .i64 ae] V fun e w'=>e=.returned (.tuple #[.agg (zV rf ro rm ka kb kc kd rd),.int .i64 (n:Int),.int .i64 (k:Int)])∧Sl (Below V.heap.size V w'):=fun V h1 h2=>by
  have:=Ib a L cap bs ae V h1 h2 fe bB hm kw;rw [tT,lN,cK] at this;exact this
 obtain ⟨wa,cz⟩:=zX (W.alloc (.cells zZ 61));have bi:Sl (Below W.heap.size W wa):=⟨by rw [← cz];exact (fQ W _).ah⟩;have my:Sl (wa.heap[W.heap.size]? = some (.cells zZ 61 (0,0))):=⟨by rw [← cz];exact dQ _ _⟩;have kz:Sl (dG w0 wa b af ae part bj v):=⟨hs.below bi.ah⟩;obtain ⟨_,c1,_,_⟩:=kz.ah.cells;by_cases hL:L≤1
 ·have hq:((L:Int)>1)=False:=dR (by omega)
  have HQ:Sl (lN (one bs af ae)=.tuple #[.agg (zV rf ro rm ka kb kc kd rd),.int .i64 (n:Int),.int .i64 (k:Int)]):=⟨by
   rw [yN (by omega),tT,lN,cK]⟩
  clear tT cK hs hg hv fe bB hm kw hL;go_enter func83,ntmps83;go_wp2_with fail
  refine (FW wa (HG.ah.below kz.ah.L HG.ah.size) (HV.ah.below (aY _) bi.ah)).mono ?_;rintro e w4 ⟨rfl,cx⟩;have br:Sl (Below W.heap.size W w4):=⟨bi.ah.trans (cx.ah.mono bi.ah.size)⟩;have iN:Sl (w4.heap[W.heap.size]? = some (.cells zZ 61 (0,0))):=⟨ay my.ah cx.ah⟩;clear FW cx;have HI:=aW (cs:=(zV rf ro rm ka kb kc kd rd)) rfl;go_wp2_with (refine fG rfl 61 (.tmp 4) (.tmp 42) rfl W.heap.size (zV rf ro rm ka kb kc kd rd) rfl rfl 61 zZ iN.ah HI rfl (aZ _ _ _ _ _ _ _ _) ?_)
  refine gX (dw rfl _ _ W.heap.size 61 _ (0,0) rfl (gY _ _ _ _ _ _ iN.ah) rfl) rfl ?_;rw [HQ.ah];exact ⟨rfl,⟨below_setRow br.ah (aY _) _⟩⟩
 ·obtain ⟨x,y,ys,rfl⟩:∃ x y ys,bs=x :: y :: ys:=by
   match bs,fe with
   | x :: y :: ys,_=>exact ⟨x,y,ys,rfl⟩
   | [x],h=>simp at h;omega
   | [],h=>simp at h;omega
  have hq:((L:Int)>1)=True:=eq_true (by omega);have hy:y<256:=bB y (by simp);obtain ⟨sb,so,rfl,db,qr⟩:∃ sb so,a=some ⟨sb,so,none⟩∧L≤cap∧W.cell? ⟨sb,so+1,none⟩=some (.int .u8 (y:Int)):=by
   obtain ⟨a',c',sb,so,he,h1,h2,h3⟩:=hv;injection he with e1 e2 e3
   exact ⟨sb,so,by rw [e1];exact h2 (by simp),by omega,h3 1 (by simp)⟩
  have hcy:wa.cell? ⟨sb,so+1,none⟩=some (.int .u8 (y:Int)):=(bi.ah.cell (zk qr)).trans qr;have CU:=Ko kz.ah y hy;obtain ⟨u,hu⟩:=zX (decide (128≤y) != af);rw [hu] at CU;cases u with
  | false =>
    have HQ:Sl (lN (one (x :: y :: ys) af ae)=.tuple #[.agg (zV rf ro rm ka kb kc kd rd),.int .i64 (n:Int),.int .i64 (k:Int)]):=⟨by
     rw [Ic hu,tT,lN,cK]⟩
    clear tT cK hs hg hv fe bB hm kw hL hu qr hy;go_enter func83,ntmps83;go_wp2_with fail
    refine CU.mono ?_;rintro e w2 ⟨rfl,rfl⟩;go_wp2_with fail
    refine (FW wa (HG.ah.below kz.ah.L HG.ah.size) (HV.ah.below (aY _) bi.ah)).mono ?_;rintro e w4 ⟨rfl,cx⟩;have br:Sl (Below W.heap.size W w4):=⟨bi.ah.trans (cx.ah.mono bi.ah.size)⟩;have iN:Sl (w4.heap[W.heap.size]? = some (.cells zZ 61 (0,0))):=⟨ay my.ah cx.ah⟩;clear FW cx;have HI:=aW (cs:=(zV rf ro rm ka kb kc kd rd)) rfl;go_wp2_with (refine fG rfl 61 (.tmp 4) (.tmp 42) rfl W.heap.size (zV rf ro rm ka kb kc kd rd) rfl rfl 61 zZ iN.ah HI rfl (aZ _ _ _ _ _ _ _ _) ?_)
    refine gX (dw rfl _ _ W.heap.size 61 _ (0,0) rfl (gY _ _ _ _ _ _ iN.ah) rfl) rfl ?_;rw [HQ.ah];exact ⟨rfl,⟨below_setRow br.ah (aY _) _⟩⟩
  | true =>
    have HQ:Sl (gG x=true→lN (one (x :: y :: ys) af ae)=.tuple #[.agg zZ,.int .i64 0,.int .i64 91]):=⟨fun h=>by
     rw [iR,if_pos h];rfl⟩
    have lr:Sl (gG x=false→lN (one (x :: y :: ys) af ae)=.tuple #[.agg zZ,.int .i64 0,.int .i64 100]):=⟨fun h=>by
     rw [BJ h hu];rfl⟩
    obtain ⟨f1,n1,k1,gA⟩:∃ f n k,eX [x] ae=(f,n,k):=⟨_,_,_,rfl⟩;clear cK;obtain ⟨rf,ro,rm,ka,kb,kc,kd,rd,cK⟩:=jT f1;have HK:Sl ((gG x=true∧k1=91)∨(gG x=false∧k1=90)):=⟨by
     have:=yL x ae;rw [gA] at this;by_cases h:gG x=true
     ·rw [if_pos h] at this;exact .inl ⟨h,this⟩
     ·rw [if_neg h] at this;exact .inr ⟨by simpa using h,this⟩⟩
    have Ds:Sl (bJ wa (.slice (some ⟨sb,so,none⟩) 1 cap) [x]):=⟨by
     have h:=wM (hv.below (aY _) bi.ah) 0 1 cap so (fun _=>rfl) (by omega) (by omega) fe;exact h⟩
    have FO:∀ V,bD V→bJ V (.slice (some ⟨sb,so,none⟩) 1 cap) [x]→Calls prog 109 #[.slice (some ⟨sb,so,none⟩) 1 cap,.int .i64 ae] V fun e w'=>e=.returned (.tuple #[.agg (zV rf ro rm ka kb kc kd rd),.int .i64 (n1:Int),.int .i64 (k1:Int)])∧Sl (Below V.heap.size V w'):=fun V h1 h2=>by
     have:=Ib (some ⟨sb,so,none⟩) 1 cap [x] ae V h1 h2 rfl (fun z hz=>bB z (by simp at hz;simp [hz])) (by omega) kw;rw [gA,lN,cK] at this;exact this
    have db:1≤cap:=by omega
    clear tT cK gA hs hg hv fe bB hm kw hL hu qr hy FW;go_enter func83,ntmps83;go_wp2_with fail
    refine CU.mono ?_;rintro e w2 ⟨rfl,rfl⟩;clear CU;go_upto_region 2 with fail
    refine zG (S:=fun V=>Below wa.heap.size wa V) (by kernel_rfl) (fun R al=>?_);refine zT 0 (some 21) (.move (.tmp 1)) _ al ?_;simp only [zA,zB,zS];refine zT 1 (some 22) (.slice 49 (.tmp 21) none (some (.const (.int .i64 1))) none) (.slice (some ⟨sb,so,none⟩) 1 cap) al ?_ (hy:=fun o' ho W hS=>Sm ho (by rfl) (by rfl) db);simp only [zA,zB,zS];refine zT 2 (some 23) (.move (.tmp 0)) _ al ?_;simp only [zA,zB,zS];refine zT 3 (some 24) (.nilCheck (.tmp 23)) _ al ?_;simp only [zA,zB,zS];refine zT 4 (some 25) (.fieldAddr 119 (.tmp 24) 1) _ al ?_;simp only [zA,zB,zS];refine zT 5 (some 26) (.load 3 (.tmp 25)) _ al ?_ (hy:=fun o' ho W hS=>by obtain ⟨_,d1,_,_⟩:=(kz.ah.below (hS.mono (aY _))).cells;simp only [execOp,ho];go_simp;try rfl);simp only [zA,zB,zS];obtain ⟨Aw,hA⟩:=zX (R.alloc (.cells zZ 61));have ga:Below wa.heap.size wa Aw:=by rw [← hA];exact al.alloc al.size _
    refine qG (di:=some 7) (pT:=.alloc 61) (dj:=some 27) (p8:=.call {callee:=Callee.value (Operand.func 109),args:=#[Operand.tmp 22,Operand.tmp 26],argTypes:=#[49,3]}) (ti:=0) (tj:=109) 11 6 (.pointer (some ⟨R.heap.size,0,none⟩)) Aw 109 #[.slice (some ⟨sb,so,none⟩) 1 cap,.int .i64 ae] rfl rfl (by kernel_rfl) ?aej ?y6a ga ?first ?second;case aej=>intro o' ho ht;simp only [execOp,ho];go_simp;first | done | rw [hA] | rfl
    case y6a=>intro o' ho ht;simp only [execOp,ho];go_simp;try rfl
    case first =>
     simp only [zA,zB,zS];refine zC 6 (some 27) (.call {callee:=.value (.func 109),args:=#[.tmp 22,.tmp 26],argTypes:=#[49,3]}) 109 #[.slice (some ⟨sb,so,none⟩) 1 cap,.int .i64 ae] ?_;refine (FO Aw (HG.ah.below (kz.ah.below ga).L HG.ah.size) (Ds.ah.below (aY _) ga)).mono ?_;rintro e Zf ⟨rfl,eM⟩;have kf:Below wa.heap.size wa Zf:=ga.trans (eM.ah.mono ga.size);refine ⟨_,rfl,kf,?_⟩;simp only [zA,zB,zS];refine zT 7 (some 20) (.move (.tmp 27)) _ kf ?_;simp only [zA,zB,zS];refine zT 8 (some 28) (.extract (.tmp 20) 0) _ kf ?_;simp only [zA,zB,zS];refine zT 9 (some 29) (.extract (.tmp 20) 1) _ kf ?_;simp only [zA,zB,zS];refine zT 10 (some 30) (.extract (.tmp 20) 2) _ kf ?_;simp only [zA,zB,zS];have Wb:wa.heap.size≤R.heap.size:=al.size;have Wc:Zf.heap[R.heap.size]? = some (.cells zZ 61 (0,0)):=ay (by rw [← hA];exact dQ _ _) eM.ah;clear eM hA ga;obtain ⟨Yf,Lv⟩:=zX (Zf.setRow R.heap.size (zV rf ro rm ka kb kc kd rd));have kA:Below wa.heap.size wa Yf:=by rw [← Lv];exact below_setRow kf Wb _
     refine zW 12 none (.store 61 (.tmp 7) (.tmp 28)) 0 Yf kA ?_ (hy:=fun o' ho ht=>by rw [← Lv];exact yK ho (by rfl) (by rfl) Wc ⟨rfl,rfl⟩ (aZ _ _ _ _ _ _ _ _));simp only [Act.put];refine zT 13 (some 8) (.assign (.tmp 29)) _ kA ?_;simp only [zA,zB,zS];refine zT 14 (some 9) (.assign (.tmp 30)) _ kA ?_;simp only [zA,zB,zS];refine zE (by kernel_rfl) ?_;have hJ:Sl (Below W.heap.size W Yf):=⟨bi.ah.trans (kA.mono bi.ah.size)⟩;have xT:Sl (Yf.heap[W.heap.size]? = some (.cells zZ 61 (0,0))):=⟨ay my.ah kA⟩;clear al kf Wb Wc Lv kA;rcases HK.ah with ⟨hb,rfl⟩ | ⟨hb,rfl⟩
     ·have xV:(((91:Nat):Int)==91)=true:=rfl
      have HI:=aW (cs:=zZ) rfl;go_wp2_with (refine fG rfl 61 (.tmp 4) (.tmp 33) rfl W.heap.size zZ rfl rfl 61 zZ xT.ah HI rfl (aZ _ _ _ _ _ _ _ _) ?_)
      refine gX (dw rfl _ _ W.heap.size 61 _ (0,0) rfl (gY _ _ _ _ _ _ xT.ah) rfl) rfl ?_;rw [HQ.ah hb];exact ⟨rfl,⟨below_setRow hJ.ah (aY _) _⟩⟩
     ·have xV:(((90:Nat):Int)==91)=false:=rfl
      have HI:=aW (cs:=zZ) rfl;go_wp2_with (refine fG rfl 61 (.tmp 4) (.tmp 35) rfl W.heap.size zZ rfl rfl 61 zZ xT.ah HI rfl (aZ _ _ _ _ _ _ _ _) ?_)
      refine gX (dw rfl _ _ W.heap.size 61 _ (0,0) rfl (gY _ _ _ _ _ _ xT.ah) rfl) rfl ?_;rw [lr.ah hb];exact ⟨rfl,⟨below_setRow hJ.ah (aY _) _⟩⟩
    case second =>
     refine (FO R (HG.ah.below (kz.ah.below al).L HG.ah.size) (Ds.ah.below (aY _) al)).mono ?_;rintro e Xs ⟨rfl,eM⟩;have cC:Below wa.heap.size wa Xs:=al.trans (eM.ah.mono al.size);refine ⟨_,rfl,cC,?_⟩;simp only [zA,zB,zS];refine zT 7 (some 20) (.move (.tmp 27)) _ cC ?_;simp only [zA,zB,zS];refine zT 8 (some 28) (.extract (.tmp 20) 0) _ cC ?_;simp only [zA,zB,zS];refine zT 9 (some 29) (.extract (.tmp 20) 1) _ cC ?_;simp only [zA,zB,zS];refine zT 10 (some 30) (.extract (.tmp 20) 2) _ cC ?_;simp only [zA,zB,zS];obtain ⟨Zs,GJ⟩:=zX (Xs.alloc (.cells zZ 61));have uW:Below wa.heap.size wa Zs:=by rw [← GJ];exact cC.alloc cC.size _
     refine zR 11 (some 7) (.alloc 61) 0 (.pointer (some ⟨Xs.heap.size,0,none⟩)) Zs uW ?_ (hy:=fun o' ho _=>by simp only [execOp,ho];go_simp;first | done | rw [GJ] | rfl);simp only [zA,zB,zS];have Wd:wa.heap.size≤Xs.heap.size:=cC.size;have We:Zs.heap[Xs.heap.size]? = some (.cells zZ 61 (0,0)):=by rw [← GJ];exact dQ _ _
     clear eM cC GJ;obtain ⟨Ys,Lw⟩:=zX (Zs.setRow Xs.heap.size (zV rf ro rm ka kb kc kd rd));have kB:Below wa.heap.size wa Ys:=by rw [← Lw];exact below_setRow uW Wd _
     refine zW 12 none (.store 61 (.tmp 7) (.tmp 28)) 0 Ys kB ?_ (hy:=fun o' ho ht=>by rw [← Lw];exact yK ho (by rfl) (by rfl) We ⟨rfl,rfl⟩ (aZ _ _ _ _ _ _ _ _));simp only [Act.put];refine zT 13 (some 8) (.assign (.tmp 29)) _ kB ?_;simp only [zA,zB,zS];refine zT 14 (some 9) (.assign (.tmp 30)) _ kB ?_;simp only [zA,zB,zS];refine zE (by kernel_rfl) ?_;have hJ:Sl (Below W.heap.size W Ys):=⟨bi.ah.trans (kB.mono bi.ah.size)⟩;have xT:Sl (Ys.heap[W.heap.size]? = some (.cells zZ 61 (0,0))):=⟨ay my.ah kB⟩;clear al uW Wd We Lw kB;rcases HK.ah with ⟨hb,rfl⟩ | ⟨hb,rfl⟩
     ·have xV:(((91:Nat):Int)==91)=true:=rfl
      have HI:=aW (cs:=zZ) rfl;go_wp2_with (refine fG rfl 61 (.tmp 4) (.tmp 33) rfl W.heap.size zZ rfl rfl 61 zZ xT.ah HI rfl (aZ _ _ _ _ _ _ _ _) ?_)
      refine gX (dw rfl _ _ W.heap.size 61 _ (0,0) rfl (gY _ _ _ _ _ _ xT.ah) rfl) rfl ?_;rw [HQ.ah hb];exact ⟨rfl,⟨below_setRow hJ.ah (aY _) _⟩⟩
     ·have xV:(((90:Nat):Int)==91)=false:=rfl
      have HI:=aW (cs:=zZ) rfl;go_wp2_with (refine fG rfl 61 (.tmp 4) (.tmp 35) rfl W.heap.size zZ rfl rfl 61 zZ xT.ah HI rfl (aZ _ _ _ _ _ _ _ _) ?_)
      refine gX (dw rfl _ _ W.heap.size 61 _ (0,0) rfl (gY _ _ _ _ _ _ xT.ah) rfl) rfl ?_;rw [lr.ah hb];exact ⟨rfl,⟨below_setRow hJ.ah (aY _) _⟩⟩
open Go.RowKit aO aC aV jF gK
def jy (a:Option Addr) (r cap:Nat):Option Addr:=if cap=r then a else a.map (·.add r)
theorem vk {y:Operand} {cap:Nat} (ho:o.op=.slice 49 x (some y) none none) (hx:ev x=.slice a L cap) (hy:ev y=.int .i64 (r:Int)) (h:r≤L) :
 (execOp ev o).run prog W=.ok (.value (.slice (jy a r cap) (L-r) (cap-r))) W:=by
 have hs:=underlying49;obtain ⟨i0,hi,ic,eI,dz⟩:=rF;unfold execOp;simp only [ho,hx,hy,Option.map_none,Dy,rE];rw [run_sliceAt_slice (h:=hs),run_slice_l (ht:=hs) (h0:=by omega) (h1:=by omega)];simp [sizeOf,typeInfo,show prog.elem 49=5 from rfl,hi,eI,sliced,jy]
theorem bJ.from {cap:Nat} (h:bJ W (.slice a L cap) bs) (hr:r≤L) (hl:bs.length=L):bJ W (.slice (jy a r cap) (L-r) (cap-r)) (bs.drop r):=by
 obtain ⟨a',c',sb,so,he,h1,h2,h3⟩:=h;injection he with e1 e2 e3
 subst e1 e3;refine ⟨_,_,sb,so+r,by rw [iP,hl],by rw [iP];omega,fun hp=>?_,fun i hi=>?_⟩
 ·rw [iP] at hp
  unfold jy;rw [if_neg (by omega),h2 (by omega),Dy,DD]
 ·rw [iP] at hi
  rw [UO,h3 (r+i) (by omega)];congr 3;rw [iw,iw,LW]
theorem qJ {fn:Func} {p u:Tmp} (h:fn.results=#[.cell p 61,.tmp u]) (tmps:Array Value) (w:World) (g:Nat) (t:TypeId) (cs:Array Value) (fr:Nat×Nat)
 (hp:tmps.getD p undef=.pointer (some ⟨g,0,none⟩)) (hg:w.heap[g]? = some (.cells cs t fr)) (hs:cs.size=8) :
 (results fn tmps).run prog w=.ok (.tuple #[.agg cs,tmps.getD u undef]) w:=by
 have hi:(prog.info? 61).map (·.size)=some cs.size:=aW hs;have A3:tmps[p]?.getD undef=.pointer (some ⟨g,0,none⟩):=by simpa using hp
 simp only [results,h];simp [Result.andThen,A3,asAddr,UR (P:=prog) w g t 61 cs fr _ hg underlying61 rfl hi]
theorem BK {w2:World} {r:Option Nat} (h:w.grownBy w1 r) (k:Below w.heap.size w1 w2):w.grownBy w2 r :=
 ⟨k.os.trans h.os,k.tape.trans h.tape,k.output.trans h.output,jd h.size k.size,fun j hj eW=>(k.block j hj).trans (h.block j hj eW)⟩
theorem cell_of_one {g:Nat} {t:TypeId} (h:W.heap[g]? = some (.cells #[v] t (0,0))):W.cell? ⟨g,0,none⟩=some v:=by rw [jg _ _ _ _ _ _ h];rfl
theorem zq {g:Nat} {t:TypeId} (h:W.heap[g]? = some (.cells #[v] t (0,0))):W.frozen? ⟨g,0,none⟩=false:=kT _ _ _ _ _ h
theorem zu {g:Nat} {t:TypeId} (h:W.heap[g]? = some (.cells #[v] t (0,0))):(W.setCell ⟨g,0,none⟩ u).heap[g]? = some (.cells #[u] t (0,0)):=by
 rw [lF _ _ _ _ _ _ h];rfl
theorem Ie (hs:dG w0 W b af ae bs 0 v) (hg:bD w0) (C R r:Nat) (f:Fr) (n k:Nat) (hC:W.heap[C]? = some (.cells #[.pointer (some ⟨b,0,none⟩)] 77 (0,0))) (hR:W.heap[R]? = some (.cells #[.int .i64 (r:Int)] 3 (0,0)))
 (hr:r≤bs.length) (bB:aU 256 bs) (hm:bs.length≤100000) (kw:ae≤9223372036854775807) (h1:one (bs.drop r) af ae=(f,n,k)) (hn:r+n≤bs.length) :
 Calls prog 82 #[.pointer (some ⟨C,0,none⟩),.pointer (some ⟨R,0,none⟩)] W fun e w'=>e=.returned (.tuple #[Ot f,.int .i64 (k:Int)])∧Sl (w'.heap[R]? = some (.cells #[.int .i64 ((r+n:Nat):Int)] 3 (0,0)))∧Sl (W.grownBy w' (some R)):=by
 have HG:=Sl.mk hg;obtain ⟨rf,ro,rm,ka,kb,kc,kd,rd,cK⟩:=jT f;obtain ⟨a,cap,rfl,db⟩:=hs.slice;obtain ⟨L,hL⟩:=zX bs.length;rw [hL] at hs db hr hm hn;obtain ⟨a',NO⟩:=zX (jy a r cap);obtain ⟨wa,cz⟩:=zX (W.alloc (.cells zZ 61));have bi:Sl (Below W.heap.size W wa):=⟨by rw [← cz];exact (fQ W _).ah⟩;have my:Sl (wa.heap[W.heap.size]? = some (.cells zZ 61 (0,0))):=⟨by rw [← cz];exact dQ _ _⟩;have HSW:Sl (wa.heap.size=W.heap.size+1):=⟨by rw [← cz];exact aP _ _⟩;have kz:Sl (dG w0 wa b af ae bs 0 (.slice a L cap)):=⟨hs.below bi.ah⟩;have gp:Sl (wa.heap[R]? = some (.cells #[.int .i64 (r:Int)] 3 (0,0))):=⟨ay hR bi.ah⟩;have tU:Sl (R<W.heap.size):=⟨(zl hR)⟩;obtain ⟨_,_,GQ,_⟩:=kz.ah.cells;have qr:=cell_of_one (ay hC bi.ah);have mu:=cell_of_one gp.ah;have hCl:C<wa.heap.size:=zk qr;have fe:b<wa.heap.size:=zk GQ;have hRl:R<wa.heap.size:=zk mu;have Bk:∀ (V:World) (ev:Operand→Value) (o:Oper) (x y:Operand),o.op=.slice 49 x (some y) none none→ev x=.slice a L cap→ev y=.int .i64 (r:Int)→(execOp ev o).run prog V=.ok (.value (.slice a' (L-r) (cap-r))) V:=fun V ev o x y ho hx hy=>by
  rw [← NO];exact vk ho hx hy hr
 have CG:∀ V,Below wa.heap.size wa V→Calls prog 83 #[.pointer (some ⟨b,0,none⟩),.slice a' (L-r) (cap-r)] V fun e w'=>e=.returned (.tuple #[.agg (zV rf ro rm ka kb kc kd rd),.int .i64 (n:Int),.int .i64 (k:Int)])∧Sl (Below V.heap.size V w'):=fun V hB=>by
  have hS:=kz.ah.below hB;have j8:bJ V (.slice a' (L-r) (cap-r)) (bs.drop r):=by rw [← NO];exact bJ.from hS.src hr hL
  have:=wJ hS a' (L-r) (cap-r) (bs.drop r) HG.ah j8 (by rw [iP,hL]) (bB.drop r) (by omega) kw;rw [h1,lN,cK] at this;exact this
 clear NO h1 hs hC hR bB kw hg hL db;go_enter func82,ntmps82;go_upto_region 1 with fail
 refine zG (S:=fun V=>Below wa.heap.size wa V) (by kernel_rfl) (fun Rw al=>?_);refine zT 0 (some 8) (.load 77 (.tmp 0)) _ al ?_ (hy:=fun o' ho W hS=>by have kx:W.cell? ⟨C,0,none⟩=some (.pointer (some ⟨b,0,none⟩)):=(hS.cell hCl).trans qr;simp only [execOp,ho];go_simp;try rfl);simp only [zA,zB,zS];refine zT 1 (some 9) (.load 77 (.tmp 0)) _ al ?_ (hy:=fun o' ho W hS=>by have kx:W.cell? ⟨C,0,none⟩=some (.pointer (some ⟨b,0,none⟩)):=(hS.cell hCl).trans qr;simp only [execOp,ho];go_simp;try rfl);simp only [zA,zB,zS];refine zT 2 (some 10) (.nilCheck (.tmp 9)) _ al ?_;simp only [zA,zB,zS];refine zT 3 (some 11) (.fieldAddr 119 (.tmp 10) 2) _ al ?_;simp only [zA,zB,zS];refine zT 4 (some 12) (.load 49 (.tmp 11)) _ al ?_ (hy:=fun o' ho W hS=>by have kx:W.cell? ⟨b,2,none⟩=some (.slice a L cap):=(hS.cell fe).trans GQ;simp only [execOp,ho];go_simp;try rfl);simp only [zA,zB,zS];refine zT 5 (some 13) (.load 3 (.tmp 1)) _ al ?_ (hy:=fun o' ho W hS=>by have kx:W.cell? ⟨R,0,none⟩=some (.int .i64 (r:Int)):=(hS.cell hRl).trans mu;simp only [execOp,ho];go_simp;try rfl);simp only [zA,zB,zS];refine zT 6 (some 14) (.slice 49 (.tmp 12) (some (.tmp 13)) none none) (.slice a' (L-r) (cap-r)) al ?_ (hy:=fun o' ho W hS=>Bk W _ o' _ _ ho (by rfl) (by rfl));simp only [zA,zB,zS];obtain ⟨Aw,hA⟩:=zX (Rw.alloc (.cells zZ 61));have ga:Below wa.heap.size wa Aw:=by rw [← hA];exact al.alloc al.size _
 refine qG (di:=some 4) (pT:=.alloc 61) (dj:=some 15) (p8:=.call {callee:=Callee.value (Operand.func 83),args:=#[Operand.tmp 8,Operand.tmp 14],argTypes:=#[77,49]}) (ti:=0) (tj:=109) 12 7 (.pointer (some ⟨Rw.heap.size,0,none⟩)) Aw 83 #[.pointer (some ⟨b,0,none⟩),.slice a' (L-r) (cap-r)] rfl rfl (by kernel_rfl) ?ael ?y7a ga ?first ?second;case ael=>intro o' ho ht;simp only [execOp,ho];go_simp;first | done | rw [hA] | rfl
 case y7a=>intro o' ho ht;simp only [execOp,ho];go_simp;try rfl
 case first =>
  simp only [zA,zB,zS];refine zC 7 (some 15) (.call {callee:=.value (.func 83),args:=#[.tmp 8,.tmp 14],argTypes:=#[77,49]}) 83 #[.pointer (some ⟨b,0,none⟩),.slice a' (L-r) (cap-r)] ?_;refine (CG Aw ga).mono ?_;rintro e Zf ⟨rfl,eM⟩;have kf:Below wa.heap.size wa Zf:=ga.trans (eM.ah.mono ga.size);refine ⟨_,rfl,kf,?_⟩;simp only [zA,zB,zS];refine zT 8 (some 7) (.move (.tmp 15)) _ kf ?_;simp only [zA,zB,zS];refine zT 9 (some 16) (.extract (.tmp 7) 0) _ kf ?_;simp only [zA,zB,zS];refine zT 10 (some 17) (.extract (.tmp 7) 1) _ kf ?_;simp only [zA,zB,zS];refine zT 11 (some 18) (.extract (.tmp 7) 2) _ kf ?_;simp only [zA,zB,zS];have Wb:wa.heap.size≤Rw.heap.size:=al.size;have Wc:Zf.heap[Rw.heap.size]? = some (.cells zZ 61 (0,0)):=ay (by rw [← hA];exact dQ _ _) eM.ah;clear eM hA ga;obtain ⟨Yf,Lv⟩:=zX (Zf.setRow Rw.heap.size (zV rf ro rm ka kb kc kd rd));have kA:Below wa.heap.size wa Yf:=by rw [← Lv];exact below_setRow kf Wb _
  have G0:Sl (Yf.heap[Rw.heap.size]? = some (.cells (zV rf ro rm ka kb kc kd rd) 61 (0,0))):=⟨by rw [← Lv];exact gY _ _ _ _ _ _ Wc⟩;refine zW 13 none (.store 61 (.tmp 4) (.tmp 16)) 0 Yf kA ?_ (hy:=fun o' ho ht=>by rw [← Lv];exact yK ho (by rfl) (by rfl) Wc ⟨rfl,rfl⟩ (aZ _ _ _ _ _ _ _ _));simp only [Act.put];refine zT 14 (some 5) (.assign (.tmp 17)) _ kA ?_;simp only [zA,zB,zS];refine zT 15 (some 6) (.assign (.tmp 18)) _ kA ?_;simp only [zA,zB,zS];refine zE (by kernel_rfl) ?_;have hJ:Sl (Below W.heap.size W Yf):=⟨bi.ah.trans (kA.mono bi.ah.size)⟩;have xT:Sl (Yf.heap[W.heap.size]? = some (.cells zZ 61 (0,0))):=⟨ay my.ah kA⟩;have x7:Sl (Yf.heap[R]? = some (.cells #[.int .i64 (r:Int)] 3 (0,0))):=⟨ay gp.ah kA⟩;have hq:wa.heap.size≤Rw.heap.size:=Wb;have bz:R<W.heap.size:=tU.ah;have gh:wa.heap.size=W.heap.size+1:=HSW.ah;clear al kf Wb Wc Lv kA qr GQ mu hCl fe hRl CG;have lL:Sl (Rw.heap.size≠R):=⟨by omega⟩;obtain ⟨e0,e1,e2,e3,e4,e5,e6,e7⟩:=oZ G0.ah;have eW:=lL.ah;have eA:=cell_of_one x7.ah;have oE:=zq x7.ah;have HI:=aW (cs:=(zV rf ro rm ka kb kc kd rd)) rfl;have kl:Sl ((Yf.setCell ⟨R,0,none⟩ (.int .i64 ((r:Int)+(n:Int)))).heap[W.heap.size]? = some (.cells zZ 61 (0,0))):=⟨by rw [pI _ _ _ _ (by show W.heap.size≠R;omega)];exact xT.ah⟩;go_wp2_with (refine fG rfl 61 (.tmp 2) (.tmp 22) rfl W.heap.size (zV rf ro rm ka kb kc kd rd) rfl rfl 61 zZ kl.ah HI rfl (aZ _ _ _ _ _ _ _ _) ?_)
  refine gX (qJ rfl _ _ W.heap.size 61 _ (0,0) rfl (gY _ _ _ _ _ _ kl.ah) rfl) rfl ?_;refine ⟨by rw [cK];rfl,⟨?_⟩,⟨BK (dO (jI hJ.ah (some R)) (aH Yf R 0 _)) (below_setRow (dW _ _) (aY _) _)⟩⟩;rw [qC _ _ _ _ (by omega),zu x7.ah,Int.natCast_add]
 case second =>
  refine (CG Rw al).mono ?_;rintro e Xs ⟨rfl,eM⟩;have cC:Below wa.heap.size wa Xs:=al.trans (eM.ah.mono al.size);refine ⟨_,rfl,cC,?_⟩;simp only [zA,zB,zS];refine zT 8 (some 7) (.move (.tmp 15)) _ cC ?_;simp only [zA,zB,zS];refine zT 9 (some 16) (.extract (.tmp 7) 0) _ cC ?_;simp only [zA,zB,zS];refine zT 10 (some 17) (.extract (.tmp 7) 1) _ cC ?_;simp only [zA,zB,zS];refine zT 11 (some 18) (.extract (.tmp 7) 2) _ cC ?_;simp only [zA,zB,zS];obtain ⟨Zs,GJ⟩:=zX (Xs.alloc (.cells zZ 61));have uW:Below wa.heap.size wa Zs:=by rw [← GJ];exact cC.alloc cC.size _
  refine zR 12 (some 4) (.alloc 61) 0 (.pointer (some ⟨Xs.heap.size,0,none⟩)) Zs uW ?_ (hy:=fun o' ho _=>by simp only [execOp,ho];go_simp;first | done | rw [GJ] | rfl);simp only [zA,zB,zS];have Wd:wa.heap.size≤Xs.heap.size:=cC.size;have We:Zs.heap[Xs.heap.size]? = some (.cells zZ 61 (0,0)):=by rw [← GJ];exact dQ _ _
  clear eM cC GJ;obtain ⟨Ys,Lw⟩:=zX (Zs.setRow Xs.heap.size (zV rf ro rm ka kb kc kd rd));have kB:Below wa.heap.size wa Ys:=by rw [← Lw];exact below_setRow uW Wd _
  have G0:Sl (Ys.heap[Xs.heap.size]? = some (.cells (zV rf ro rm ka kb kc kd rd) 61 (0,0))):=⟨by rw [← Lw];exact gY _ _ _ _ _ _ We⟩;refine zW 13 none (.store 61 (.tmp 4) (.tmp 16)) 0 Ys kB ?_ (hy:=fun o' ho ht=>by rw [← Lw];exact yK ho (by rfl) (by rfl) We ⟨rfl,rfl⟩ (aZ _ _ _ _ _ _ _ _));simp only [Act.put];refine zT 14 (some 5) (.assign (.tmp 17)) _ kB ?_;simp only [zA,zB,zS];refine zT 15 (some 6) (.assign (.tmp 18)) _ kB ?_;simp only [zA,zB,zS];refine zE (by kernel_rfl) ?_;have hJ:Sl (Below W.heap.size W Ys):=⟨bi.ah.trans (kB.mono bi.ah.size)⟩;have xT:Sl (Ys.heap[W.heap.size]? = some (.cells zZ 61 (0,0))):=⟨ay my.ah kB⟩;have x7:Sl (Ys.heap[R]? = some (.cells #[.int .i64 (r:Int)] 3 (0,0))):=⟨ay gp.ah kB⟩;have hq:wa.heap.size≤Xs.heap.size:=Wd;have bz:R<W.heap.size:=tU.ah;have gh:wa.heap.size=W.heap.size+1:=HSW.ah;clear al uW Wd We Lw kB qr GQ mu hCl fe hRl CG;have lL:Sl (Xs.heap.size≠R):=⟨by omega⟩;obtain ⟨e0,e1,e2,e3,e4,e5,e6,e7⟩:=oZ G0.ah;have eW:=lL.ah;have eA:=cell_of_one x7.ah;have oE:=zq x7.ah;have HI:=aW (cs:=(zV rf ro rm ka kb kc kd rd)) rfl;have kl:Sl ((Ys.setCell ⟨R,0,none⟩ (.int .i64 ((r:Int)+(n:Int)))).heap[W.heap.size]? = some (.cells zZ 61 (0,0))):=⟨by rw [pI _ _ _ _ (by show W.heap.size≠R;omega)];exact xT.ah⟩;go_wp2_with (refine fG rfl 61 (.tmp 2) (.tmp 22) rfl W.heap.size (zV rf ro rm ka kb kc kd rd) rfl rfl 61 zZ kl.ah HI rfl (aZ _ _ _ _ _ _ _ _) ?_)
  refine gX (qJ rfl _ _ W.heap.size 61 _ (0,0) rfl (gY _ _ _ _ _ _ kl.ah) rfl) rfl ?_;refine ⟨by rw [cK];rfl,⟨?_⟩,⟨BK (dO (jI hJ.ah (some R)) (aH Ys R 0 _)) (below_setRow (dW _ _) (aY _) _)⟩⟩;rw [qC _ _ _ _ (by omega),zu x7.ah,Int.natCast_add]
open Go.RowKit aO aC aV jF gK
def PL (T:List Nat) (af:Bool) (ae:Int) (fs:List Fr) (f:Fr) (k r:Nat):Prop:=∃ r0 n,r=r0+n∧r≤T.length∧one (T.drop r0) af ae=(f,n,k)∧(k≠0→n=0)∧all T af ae=(fs++(all (T.drop r0) af ae).1,(all (T.drop r0) af ae).2)∧2*fs.length≤r0
theorem MI {s:List Nat} {n:Nat} (hs:aU 256 s) (h:one s af ae=(f,n,k)):n≤s.length∧(k≠0→n=0)∧(k=0→2≤n):=by
 rcases MF s af ae with h1 | ⟨e,h1,he⟩
 ·have h2:=qH hs h1
  rw [h] at h1 h2;simp only at h1 h2;exact ⟨h2.2,fun h3=>absurd h1 h3,fun _=>h2.1⟩
 ·rw [h] at h1
  injection h1 with _ h1
  injection h1 with h2 h3
  exact ⟨by omega,fun _=>h2,fun h4=>by omega⟩
theorem Sr (af:Bool) (ae:Int) (hs:aU 256 T):∃ f n k,one (T.drop 0) af ae=(f,n,k)∧n≤T.length∧PL T af ae [] f k n:=by
 obtain ⟨⟨f,n,k⟩,h⟩:∃ x,one T af ae=x:=⟨_,rfl⟩;obtain ⟨h1,h2,_⟩:=MI hs h;exact ⟨f,n,k,h,h1,0,n,by omega,h1,h,h2,by simp,by simp⟩
theorem Vk (hs:aU 256 T) (h:PL T af ae fs f 0 r) :
 ∃ f' n' k',one (T.drop r) af ae=(f',n',k')∧r+n'≤T.length∧PL T af ae (fs++[f]) f' k' (r+n'):=by
 obtain ⟨r0,n,rfl,hr,h1,_,h3,h4⟩:=h;obtain ⟨⟨f',n',k'⟩,h'⟩:∃ x,one (T.drop (r0+n)) af ae=x:=⟨_,rfl⟩;obtain ⟨g1,g2,_⟩:=MI (hs.drop _) h';have g3:=(MI (hs.drop _) h1).2.2 rfl;rw [iP] at g1;refine ⟨f',n',k',h',by omega,r0+n,n',rfl,by omega,h',g2,?_,by rw [jB];simp;omega⟩;rw [h3,dX (T.drop r0) af ae (hs.drop _),h1,if_neg (by simp),if_neg (by simp),QN];simp
theorem Vl (hs:aU 256 T) (h:PL T af ae fs f 90 r):all T af ae=(fs,0,T.length-r)∧r≤T.length:=by
 obtain ⟨r0,n,rfl,hr,h1,h2,h3,_⟩:=h;obtain rfl:=h2 (by decide);rw [h3,dX (T.drop r0) af ae (hs.drop _),h1,if_pos rfl,iP];simp at hr ⊢;omega
theorem Xw (hs:aU 256 T) (h:PL T af ae fs f k r) (h0:k≠0) (h9:k≠90):all T af ae=(fs,k,0):=by
 obtain ⟨r0,n,rfl,hr,h1,h2,h3,_⟩:=h;rw [h3,dX (T.drop r0) af ae (hs.drop _),h1,if_neg h9,if_pos h0];simp
theorem Ss {x:Value} {m l:List Nat} (ef:Z.ownsRow base 5 1 v m.length (dZ m)) (hx:bJ Z x l) (hl:m.length+l.length≤1000000) (eE:base≤Z.heap.size) :
 ∃ v1 w1,(Builtin.append_ #[49,49] 49 #[v,x]).run prog Z=.ok v1 w1∧w1.ownsRow base 5 1 v1 (m++l).length (dZ (m++l))∧Z.grownBy w1 v.ownBlock∧(v1.ownBlock=v.ownBlock∨v1.ownBlock=some Z.heap.size):=by
 obtain ⟨i0,kn,ic,eI,dz⟩:=rF;obtain ⟨a,cap,sb,so,rfl,hc,ha,bL⟩:=hx;cases a with
 | none =>
   have h0:l=[]:=by
    cases l with
    | nil=>rfl
    | cons x xs=>exact absurd (ha (by simp)) (by simp)
   subst h0;refine ⟨v,Z,?_,by rw [yC];exact ef,iV _ _,.inl rfl⟩;rcases ef.2 with ⟨rfl,_⟩ | ⟨g,c,fI,rfl,_,_,Vv,_⟩
   ·simp [Builtin.append_,run_underlying underlying49,sizeOf,typeInfo,kn,Builtin.lenOf,Builtin.firstCells]
   ·simp [Builtin.append_,run_underlying underlying49,sizeOf,typeInfo,kn,Builtin.lenOf,Builtin.firstCells,storeCells]
    intro hc;exact absurd hc (by omega)
 | some ad =>
   obtain ⟨v',w',h1,h2,h3,h4⟩:=tN (P:=prog) (w:=Z) base 49 49 5 i0 _ 1 1 underlying49 kn ic eI dz rfl (by decide) v m.length (dZ m) ef ad l.length cap (dZ l) (by simp) (fun j u hu=>by
    have hj:j<l.length:=by have:=(LV.1 hu).1;simpa using this
    have mx:=ha (by omega);injection mx with mx
    subst mx;rw [DD,bL j hj,← hu,jl l j hj]) (oM l) (by unfold maxLen;omega) (by omega) eE
   exact ⟨v',w',h1,by rw [jB,qB];exact h2,h3,h4⟩
theorem wR {y:Operand} {src:Value} {t:TypeId} (ho:o.op=.call {callee:=.builtin .append,args:=#[x,y],argTypes:=#[t,t]}) (ht:o.type=t) (hs:ev x=v0) (hx:ev y=src)
 (fX:(Builtin.append_ #[t,t] t #[v0,src]).run prog Z=.ok v1 w1):(execOp ev o).run prog Z=.ok (.value v1) w1:=by
 unfold execOp;simp only [ho,ht,resolve,invoke,builtin,rE,Sem.run_pure,Result.andThen_ok,UW,JJ,NT,hs,hx,fX]
theorem jA {g n:Nat} {t:TypeId} (ho:W.ownsRow base 5 1 v n xs) (h:W.heap[g]? = some (.cells cs t (0,0))) (ht:t≠5):v.ownBlock≠some g:=fun e=>by
 obtain ⟨_,h2⟩:=ho;rcases h2 with ⟨rfl,_⟩ | ⟨k,cap,fI,rfl,_,hh,_⟩
 ·cases e
 ·obtain rfl:k=g:=by simpa [Value.ownBlock] using e
  rw [h] at hh;injection hh with hh
  injection hh with _ h4
  exact ht h4
theorem wS {Lx e size n:Nat} (h:W.ownsRow base e size v n xs) (hb:Lx≤base):W.ownsRow Lx e size v n xs:=by
 refine ⟨h.1,?_⟩;rcases h.2 with hn | ⟨g,cap,fI,rfl,hg,r⟩
 ·exact .inl hn
 ·exact .inr ⟨g,cap,fI,rfl,jd hb hg,r⟩
theorem dG.grown {part:List Nat} {r:Option Nat} (h:dG w0 W b af ae part bj v) (g:W.grownBy W' r) (hb:∀ k,r=some k→k≠b∧v.ownBlock≠some k∧w0.heap.size≤k):dG w0 W' b af ae part bj v where
 X:=by rw [g.block b h.lt (fun e=>(hb b e.symm).1 rfl)];exact h.X
 O:=h.O.kept g (by cases r with
  | none=>cases hv:v.ownBlock<;>simp
  | some k=>exact .inr (hb k rfl).2.1)
 B:=h.B
 L:=h.L.grown g h.L.size (fun k hk=>(hb k hk).2.2)
theorem pW {r:Option Nat} (h:mO W w b p) (g:w.grownBy w' r) (hr:∀ k,r=some k→W.heap.size≤k):mO W w' b p :=
 ⟨g.os.trans h.os,g.tape.trans h.tape,g.output.trans h.output,jd h.size g.size,fun k hk h1 h2=>(g.block k (NQ hk h.size) (fun e=>by have:=hr k e.symm;omega)).trans (h.block k hk h1 h2)⟩
theorem pX (h:mO W w b p) (g:Below w.heap.size w w'):mO W w' b p:=pW h (jI g none) (fun k hk=>by cases hk)
theorem Ig {w2:World} {part:List Nat} (h:dG w0 W b af ae part bj v) (g:W.grownBy w2 v.ownBlock) (ho:w2.ownsRow w0.heap.size 5 1 v1 T.length (dZ T)) :
 dG w0 (w2.setCell ⟨b,2,none⟩ v1) b af ae T bj v1∧mO W (w2.setCell ⟨b,2,none⟩ v1) b (ob v b):=by
 have hk:=jA h.O h.X (by decide);have cG:w2.heap[b]? = some (.cells #[.bool af,.int .i64 ae,v,.int .i64 (bj:Int)] 119 (0,0)):=by rw [g.block b h.lt (fun e=>hk e.symm)];exact h.X
 have tW:=jA ho cG (by decide);have hL:Below w0.heap.size w0 w2:=h.L.grown g h.L.size (fun k hk=>by have:=(h.O.lt k hk).1;omega);refine ⟨⟨by rw [lF _ _ _ _ _ _ cG];rfl,ho.kept (aH w2 b 2 v1) (.inr tW),h.B,hL.grown (aH w2 b 2 v1) hL.size (fun k hk=>by injection hk with hk;have:=h.B;omega)⟩,?_⟩;have g2:=aH w2 b 2 v1;exact ⟨g2.os.trans g.os,g2.tape.trans g.tape,g2.output.trans g.output,jd g.size g2.size,fun k hk h1 h2=>(g2.block k (NQ hk g.size) (fun e=>h1 (by injection e))).trans (g.block k hk (fun e=>h2 (by unfold ob;rw [← e];rfl)))⟩
structure LR (w0 W:World) (b C R q B:Nat) (af:Bool) (ae:Int) (T:List Nat) (v v1:Value) (wr:World) (u:Value) (fs:List Fr) (f:Fr) (k r:Nat):Prop where
 hS:dG w0 wr b af ae T 0 v1
 hC:wr.heap[C]? = some (.cells #[.pointer (some ⟨b,0,none⟩)] 77 (0,0))
 hR:wr.heap[R]? = some (.cells #[.int .i64 (r:Int)] 3 (0,0))
 hQ:wr.heap[q]? = some (.cells (cv f).toArray 61 (0,0))
 hO:gZ wr B u fs
 hN:B≤wr.heap.size
 hK:W.heap.size≤R∧W.heap.size≤q∧q<B
 hT:mO W wr b (ob v b)
 hP:PL T af ae fs f k r
section
variable {w0 W wr:World} {b C R q B:Nat} {af:Bool} {ae:Int} {T:List Nat} {v v1 u:Value} {fs:List Fr} {f:Fr} {k r:Nat}
theorem LR.below (h:LR w0 W b C R q B af ae T v v1 wr u fs f k r) (g:Below wr.heap.size wr w'):LR w0 W b C R q B af ae T v v1 w' u fs f k r where
 hS:=h.hS.below g
 hC:=ay h.hC g
 hR:=ay h.hR g
 hQ:=ay h.hQ g
 hO:=h.hO.below g
 hN:=jd h.hN g.size
 hK:=h.hK
 hT:=pX h.hT g
 hP:=h.hP
theorem LR.told (h:LR w0 W b C R q B af ae T v v1 wr u fs f k r) (hW:w0.heap.size≤W.heap.size) (g:wr.grownBy w' u.ownBlock) :
 dG w0 w' b af ae T 0 v1∧w'.heap[C]? = some (.cells #[.pointer (some ⟨b,0,none⟩)] 77 (0,0))∧w'.heap[R]? = some (.cells #[.int .i64 (r:Int)] 3 (0,0))∧w'.heap[q]? = some (.cells (cv f).toArray 61 (0,0))∧B≤w'.heap.size∧mO W w' b (ob v b):=by
 obtain ⟨k1,k2,k3⟩:=h.hK;have kb:=h.hO.kind h.hS.X (by decide);have kc:=h.hO.kind h.hC (by decide);have kr:=h.hO.kind h.hR (by decide);have lt:∀ {j:Nat} {o:Obj},wr.heap[j]? = some o→j<wr.heap.size:=fun h=>(zl h)
 refine ⟨h.hS.grown g (fun k hk=>⟨fun e=>kb (by rw [← e];exact hk),fun e=>?_,by have:=h.hO.ge hk;omega⟩),?_,?_,?_,jd h.hN g.size,pW h.hT g (fun k hk=>by have:=h.hO.ge hk;omega)⟩
 ·rcases h.hO.2 with ⟨rfl,_⟩ | ⟨g',cap,fI,rfl,_,hh,_⟩
  ·cases hk
  ·obtain rfl:g'=k:=by simpa [Value.ownBlock] using hk
   exact jA h.hS.O hh (by decide) e
 ·rw [g.block _ (lt h.hC) (fun e=>kc e.symm)];exact h.hC
 ·rw [g.block _ (lt h.hR) (fun e=>kr e.symm)];exact h.hR
 ·rw [g.block _ (lt h.hQ) (fun e=>by have:=h.hO.ge e.symm;omega)];exact h.hQ
theorem LR.next {w2:World} {u':Value} {f':Fr} {k' r':Nat} (hS:dG w0 w1 b af ae T 0 v1) (hC:w1.heap[C]? = some (.cells #[.pointer (some ⟨b,0,none⟩)] 77 (0,0))) (hR:w2.heap[R]? = some (.cells #[.int .i64 (r':Int)] 3 (0,0))) (hU:w1.heap[R]? = some (.cells #[.int .i64 (r:Int)] 3 (0,0)))
 (hQ:w1.heap[q]? = some (.cells (cv f).toArray 61 (0,0))) (hO:gZ w1 B u' (fs++[f])) (hN:B≤w1.heap.size) (hK:W.heap.size≤R∧W.heap.size≤q∧q<B) (hT:mO W w1 b (ob v b)) (g:w1.grownBy w2 (some R)) (hP:PL T af ae (fs++[f]) f' k' r') (hW:w0.heap.size≤W.heap.size) :
 LR w0 W b C R q B af ae T v v1 (w2.setRow q (cv f').toArray) u' (fs++[f]) f' k' r':=by
 have lt:∀ {j:Nat} {o:Obj},w1.heap[j]? = some o→j<w1.heap.size:=fun h=>(zl h)
 have kq:R≠q:=fun e=>by rw [e,hQ] at hU;injection hU with h;injection h with _ h;exact absurd h (by decide)
 have kc:R≠C:=fun e=>by rw [e,hC] at hU;injection hU with h;injection h with _ h;exact absurd h (by decide)
 have kb:R≠b:=fun e=>by rw [e,hS.X] at hU;injection hU with h;injection h with _ h;exact absurd h (by decide)
 have kqb:q≠b:=fun e=>by rw [e,hS.X] at hQ;injection hQ with h;injection h with _ h;exact absurd h (by decide)
 have kqc:q≠C:=fun e=>by rw [e,hC] at hQ;injection hQ with h;injection h with _ h;exact absurd h (by decide)
 have S2:=hS.grown g (fun k hk=>by
  injection hk with hk
  subst hk;exact ⟨kb,jA hS.O hU (by decide),by omega⟩)
 have Q2:w2.heap[q]? = some (.cells (cv f).toArray 61 (0,0)):=by rw [g.block _ (lt hQ) (fun e=>kq (by injection e with e;exact e.symm))];exact hQ
 have g2:=bZ w2 q (cv f').toArray;have O2:gZ w2 B u' (fs++[f]):=hO.kept g (.inr (hO.kind hU (by decide)));exact {
  hS:=S2.grown g2 (fun k hk=>by
   injection hk with hk
   subst hk;exact ⟨kqb,jA S2.O Q2 (by decide),by omega⟩)
  hC:=by rw [qC _ _ _ _ (fun e=>kqc e.symm),g.block _ (lt hC) (fun e=>kc (by injection e with e;exact e.symm))];exact hC
  hR:=by rw [qC _ _ _ _ kq];exact hR
  hQ:=gY _ _ _ _ _ _ Q2
  hO:=O2.kept g2 (.inr (fun e=>by have:=O2.ge e;omega))
  hN:=jd hN (jd g.size g2.size)
  hK:=hK
  hT:=pW (pW hT g (fun k hk=>by injection hk with hk;omega)) g2 (fun k hk=>by injection hk with hk;omega)
  hP:=hP}
end
theorem LR.start {w4 w5:World} {C R:Nat} {r0:Int} {z:Array Value} (hS:dG w0 w4 b af ae T 0 v1) (hC:w4.heap[C]? = some (.cells #[.pointer (some ⟨b,0,none⟩)] 77 (0,0))) (hU:w4.heap[R]? = some (.cells #[.int .i64 r0] 3 (0,0))) (hR:w5.heap[R]? = some (.cells #[.int .i64 (r:Int)] 3 (0,0)))
 (hK:W.heap.size≤R) (hT:mO W w4 b (ob v b)) (g:w4.grownBy w5 (some R)) (hP:PL T af ae [] f k r) (hW:w0.heap.size≤W.heap.size) :
 LR w0 W b C R w5.heap.size (w5.heap.size+1) af ae T v v1 ((w5.alloc (.cells z 61)).setRow w5.heap.size (cv f).toArray) (.slice none 0 0) [] f k r:=by
 have lt:∀ {j:Nat} {o:Obj},w4.heap[j]? = some o→j<w4.heap.size:=fun h=>(zl h)
 have kc:R≠C:=fun e=>by rw [e,hC] at hU;injection hU with h;injection h with _ h;exact absurd h (by decide)
 have kb:R≠b:=fun e=>by rw [e,hS.X] at hU;injection hU with h;injection h with _ h;exact absurd h (by decide)
 have S2:=hS.grown g (fun k hk=>by
  injection hk with hk
  subst hk;exact ⟨kb,jA hS.O hU (by decide),by omega⟩)
 have BL:Below w5.heap.size w5 ((w5.alloc (.cells z 61)).setRow w5.heap.size (cv f).toArray):=below_setRow ((dW _ _).alloc (aY _) _) (aY _) _;have C2:w5.heap[C]? = some (.cells #[.pointer (some ⟨b,0,none⟩)] 77 (0,0)):=by rw [g.block _ (lt hC) (fun e=>kc (by injection e with e;exact e.symm))];exact hC
 have T2:=pW hT g (fun k hk=>by injection hk with hk;omega);exact {
  hS:=S2.below BL
  hC:=ay C2 BL
  hR:=ay hR BL
  hQ:=gY _ _ _ _ _ _ (aI _ _ _ rfl)
  hO:=Si _ _
  hN:=by have:=(bZ (w5.alloc (.cells z 61)) w5.heap.size (cv f).toArray).size;rw [aP] at this;exact this
  hK:=⟨hK,by have:=hT.size;have:=g.size;omega,by omega⟩
  hT:=pX T2 BL
  hP:=hP}
theorem Su (h:dG w0 W b af ae T 0 v1) (e:Nat) :
 dG w0 ((W.setCell ⟨b,3,none⟩ (.int .i64 (e:Int))).setCell ⟨b,2,none⟩ (.slice none 0 0)) b af ae [] e (.slice none 0 0)∧W.grownBy ((W.setCell ⟨b,3,none⟩ (.int .i64 (e:Int))).setCell ⟨b,2,none⟩ (.slice none 0 0)) (some b) ∧
  (W.setCell ⟨b,3,none⟩ (.int .i64 (e:Int))).cell? ⟨b,2,none⟩=some v1∧(W.setCell ⟨b,3,none⟩ (.int .i64 (e:Int))).frozen? ⟨b,2,none⟩=false:=by
 have h1:(W.setCell ⟨b,3,none⟩ (.int .i64 (e:Int))).heap[b]? = some (.cells #[.bool af,.int .i64 ae,v1,.int .i64 (e:Int)] 119 (0,0)):=by rw [lF _ _ _ _ _ _ h.X];rfl
 have g:=dO (aH W b 3 (.int .i64 (e:Int))) (aH (W.setCell ⟨b,3,none⟩ (.int .i64 (e:Int))) b 2 (.slice none 0 0));refine ⟨⟨by rw [lF _ _ _ _ _ _ h1];rfl,US _ _ _ _,h.B,h.L.grown g h.L.size (fun k hk=>by injection hk with hk;have:=h.B;omega)⟩,g,?_,kT _ _ _ _ _ h1⟩;rw [jg _ _ _ _ _ _ h1];rfl
theorem Sv {w2:World} {part:List Nat} (h:dG w0 W b af ae part bj v) (g:W.grownBy w2 none) (ho:w2.ownsRow w0.heap.size 5 1 v1 T.length (dZ T)) :
 dG w0 (w2.setCell ⟨b,2,none⟩ v1) b af ae T bj v1∧W.grownBy (w2.setCell ⟨b,2,none⟩ v1) (some b):=by
 have g':∀ r,W.grownBy w2 r:=fun r=>⟨g.os,g.tape,g.output,g.size,fun k hk _=>g.block k hk (by simp)⟩
 exact ⟨(Ig h (g' _) ho).1,dO (g' _) (aH _ _ _ _)⟩
theorem Ih (h:mO W w b p) (g:w.grownBy w' (some b)):mO W w' b p:=h.trans (mO.left g)
def Ox (v:Value):Nat:=match v with | .slice _ n _=>n | _=>0
theorem gZ.len (h:gZ W base v l):Ox v=l.length:=by
 obtain ⟨a,c,rfl⟩:=h.slice;rfl
theorem Xx (h:PL T af ae fs f k r):fs.length≤T.length∧r≤T.length:=by
 obtain ⟨r0,n,rfl,hr,_,_,_,h4⟩:=h;omega
end
end Go.Proofs.YtlahonjmfecikaaGreatDoor.jS
namespace Go.Proofs.YtlahonjmfecikaaGreatDoor
open Go.RowKit
section
variable {D:Nat→Bool} {ai:Array Bool} {j i fuel:Nat} {a:Act} {w:World} {d:Option Tmp}
def idle (D:Nat→Bool) (ai:Array Bool):Bool:=(List.range ai.size).all fun d=>!D d||!ai.getD d false
theorem xq:idle D ai=true↔∀ d,D d=true→ai.getD d false=false:=by
 unfold idle;rw [NR];refine ⟨fun h d hd=>?_,fun h d _=>?_⟩
 ·by_cases hs:d<ai.size
  ·have:=h d (List.mem_range.2 hs)
   simpa [hd] using this
  ·simp [Array.getElem?_eq_none (Nat.le_of_not_lt hs)]
 ·cases hd:D d with
  | false=>rfl
  | true=>simp [h d hd]
theorem IL (h:idle D ai=true) (hj:D j=false):idle D (ai.setIfInBounds j true)=true :=
 xq.2 fun d hd=>by rw [getD_set_ne false (fun e=>by rw [e,hd] at hj;cases hj)];exact xq.1 h d hd
theorem EJ (h:idle D (ai.setIfInBounds i true)=true):idle D ai=true :=
 xq.2 fun d hd=>by
  cases g:ai.getD d false with
  | false=>rfl
  | true=>exact absurd (getD_set_true (i:=i) g) (by rw [xq.1 h d hd];decide)
section
variable {P:Program} {md:Region.Mode} {aR:Array Oper} {Q:Exit→Act→World→Prop} {S:World→Prop} {D:Nat→Bool}
def gq (P:Program) (md:Region.Mode) (aR:Array Oper) (Q:Exit→Act→World→Prop) (S:World→Prop) (D:Nat→Bool) (fuel:Nat) (ai:Array Bool) (a:Act) (w:World):Prop :=
 match fuel with
 | 0=>Region.ready md aR ai=[]∧Q .normal a w
 | n+1=>(Region.ready md aR ai=[]→Q .normal a w)∧∀ k,k∈Region.ready md aR ai→wpOp P aR Q k (fun b u=>(idle D (ai.setIfInBounds k true)=true→S u)∧gq P md aR Q S D n (ai.setIfInBounds k true) b u) a w
theorem IM (fuel:Nat):∀ (ai:Array Bool) (a:Act) (w:World),gq P md aR Q S D fuel ai a w→wpAny P md aR Q fuel ai a w:=by
 induction fuel with
 | zero=>intro ai a w h;exact h
 | succ n ih=>intro ai a w h;exact ⟨h.1,fun k hk=>wpOp_mono (fun b u g=>ih _ b u g.2) (h.2 k hk)⟩
def waits (md:Region.Mode) (aR:Array Oper) (D:Nat→Bool) (i:Nat):Bool:=(List.range aR.size).all fun j=>!D j||match aR[j]? with
 | some o=>o.after.any (fun e=>Region.binds md e&&e.on==i)
 | none=>true
theorem KA {o:Oper} (h:waits md aR D i=true) (hj:aR[j]? = some o) (hd:D j=true):∃ e∈o.after,Region.binds md e=true∧e.on=i:=by
 unfold waits at h;rw [NR] at h;have g:=h j (List.mem_range.2 (zl hj));rw [hd,hj] at g;simp only [Bool.not_true,Bool.false_or] at g;obtain ⟨e,he,hb⟩:=Array.any_eq_true'.1 g;rw [JG,beq_iff_eq] at hb;exact ⟨e,he,hb⟩
theorem Cc {T:World→Prop} {oi:Oper} {v:Value} (hi:aR[i]? = some oi) (Zm:∀ (j:Nat) (o:Oper) cs b,aR[j]? = some o→o.op≠.select cs b) (hDi:D i=false)
 (n:Nat):∀ (ai:Array Bool) (a:Act) (w:World),((∀ u,T u)∨(waits md aR D i=true∧idle D ai=true∧∀ u,S u→T u))→Region.free md aR ai i=true→i∈Region.ready md aR ai→YieldsIf P aR T oi v a→T w→(idle D ai=true→S w) →
  gq P md aR (NoPanic Q) S D n (ai.setIfInBounds i true) (a.put oi.dst v) w→gq P md aR (NoPanic Q) S D (n+1) ai a w:=by
 induction n with
 | zero =>
   intro ai a w _ _ hr hy hT hS H;refine ⟨fun e=>by rw [e] at hr;exact absurd hr pJ,fun j hj=>?_⟩;by_cases e:j=i
   ·rw [e];exact hy.wpOp hi hT ⟨fun g=>hS (EJ g),H⟩
   ·exact absurd (ready_mono hj e) (by rw [H.1];exact pJ)
 | succ n ih =>
   intro ai a w hc hf hr hy hT hS H;refine ⟨fun e=>by rw [e] at hr;exact absurd hr pJ,fun j hj=>?_⟩;by_cases e:j=i
   ·rw [e];exact hy.wpOp hi hT ⟨fun g=>hS (EJ g),H⟩
   obtain ⟨W4,oj,hoj,dx⟩:=mem_ready.1 hj;have If:∀ e∈oj.after,Region.binds md e=true→e.on≠i:=fun x hx hb D2=>by
    have g1:=dx x hx hb;have g0:=(mem_ready.1 hr).1;rw [D2] at g1;rcases Nat.lt_or_ge i ai.size with h | h
    ·simp [h] at g0 g1
     rw [g0] at g1;cases g1
    ·simp [Array.getElem?_eq_none h] at g1
   have hcj:(∀ u,T u)∨(waits md aR D i=true∧idle D (ai.setIfInBounds j true)=true∧∀ u,S u→T u):=by
    rcases hc with hc | ⟨h1,h2,h3⟩
    ·exact .inl hc
    ·refine .inr ⟨h1,IL h2 ?_,h3⟩
     cases hd:D j with
     | false=>rfl
     | true =>
       obtain ⟨x,hx,hb,he⟩:=KA h1 hoj hd;exact absurd he (If x hx hb)
   have fX:=Region.free_spec hi hf j oj hoj e W4 If;have oE:Region.free md aR (ai.setIfInBounds j true) i=true:=by
    unfold Region.free at hf ⊢;rw [hi] at hf ⊢;simp only [NR,Bool.or_eq_true] at hf ⊢;intro k hk;rcases hf k hk with (g | g) | g
    ·exact .inl (.inl g)
    ·refine .inl (.inr ?_)
     by_cases ejk:j=k
     ·subst ejk;rw [W4] at g;cases g
     ·rw [getD_set_ne true ejk];exact g
    ·exact .inr g
   refine wpOp_mono (fun b u h3=>?_) (wpOp_putIf hoj fX (fun cs b=>Zm i oi cs b hi) (fun cs b=>Zm j oj cs b hoj) (fun _ _ _ h=>h) hy (H.2 j (ready_mono hj e)));have hSu:idle D (ai.setIfInBounds j true)=true→S u:=fun g=>h3.2.1 (by rw [Array.setIfInBounds_comm _ _ (Ne.symm e)];exact IL g hDi)
   have hTu:T u:=by
    rcases hcj with g | ⟨_,g2,g3⟩
    ·exact g u
    ·exact g3 u (hSu g2)
   exact ⟨hSu,ih _ b u hcj oE (ready_mono hr (Ne.symm e)) h3.1 hTu hSu (by rw [Array.setIfInBounds_comm _ _ e];exact h3.2.2)⟩
theorem KB {id:Nat} (hm:P.follows .mixedOrders=true) (h:gq P .any aR Q S D aR.size (Array.replicate aR.size false) a w.drew):(Code.region id aR true).wp P Q a w :=
 wp_region_any hm (IM _ _ _ _ h)
theorem OX (hr:Region.ready md aR ai=[]) (h:Q .normal a w):∀ fuel,gq P md aR Q S D fuel ai a w
 | 0=>⟨hr,h⟩
 | n+1=>⟨fun _=>h,fun k hk=>absurd hk (by rw [hr];exact pJ)⟩
theorem OY {op:Op} {g:Option (Nat×Bool)} (i:Nat) (v:Value) (hi:pR aR i d op g) (hw:jc aR a g=true)
 (hs:Region.noSelect aR=true) (hf:Region.free md aR ai i=true) (hr:(Region.ready md aR ai).contains i=true) (hc:(!D i&&waits md aR D i&&idle D ai)=true)
 (hy:∀ o:Oper,o.op=op→∀ w,S w→(execOp a.eval o).run P w=.ok (.value v) w) (hS:S w)
 (h:gq P md aR (NoPanic Q) S D fuel (ai.setIfInBounds i true) (a.put d v) w):gq P md aR (NoPanic Q) S D (fuel+1) ai a w:=by
 obtain ⟨o,ho,hd,cY,hg⟩:=uX hi;simp only [JG,Bool.not_eq_true'] at hc;refine Cc (T:=S) ho (Region.noSelect_spec hs) hc.1.1 fuel ai a w (.inr ⟨hc.1.2,hc.2,fun _ h=>h⟩) hf (by simpa using hr) (.inl ⟨fJ hg hw,hy o cY⟩) hS (fun _=>hS) ?_;rw [hd];exact h
theorem OZ {op:Op} {g:Option (Nat×Bool)} (i:Nat) (v:Value) (hi:pR aR i d op g) (hw:jc aR a g=true)
 (hs:Region.noSelect aR=true) (hf:Region.free md aR ai i=true) (hr:(Region.ready md aR ai).contains i=true) (hc:D i=false)
 (hy:∀ o:Oper,o.op=op→∀ w,(execOp a.eval o).run P w=.ok (.value v) w) (hS:S w)
 (h:gq P md aR (NoPanic Q) S D fuel (ai.setIfInBounds i true) (a.put d v) w):gq P md aR (NoPanic Q) S D (fuel+1) ai a w:=by
 obtain ⟨o,ho,hd,cY,hg⟩:=uX hi;refine Cc (T:=fun _=>True) ho (Region.noSelect_spec hs) hc fuel ai a w (.inl fun _=>trivial) hf (by simpa using hr) (.inl ⟨fJ hg hw,fun w _=>hy o cY w⟩) trivial (fun _=>hS) ?_;rw [hd];exact h
theorem rW {rs:List Nat} (hr:Region.ready md aR ai=rs) (eW:rs≠[])
 (h:∀ k∈rs,wpOp P aR Q k (fun b u=>(idle D (ai.setIfInBounds k true)=true→S u)∧gq P md aR Q S D fuel (ai.setIfInBounds k true) b u) a w):gq P md aR Q S D (fuel+1) ai a w :=
 ⟨fun e=>absurd (hr.symm.trans e) eW,hr ▸ h⟩
theorem kU {op:Op} {g:Option (Nat×Bool)} {t:TypeId} (i:Nat) (w':World) (hi:nX aR i d op g t) (hw:jc aR a g=true)
 (hr:Region.ready md aR ai=[i]) (hy:∀ o:Oper,o.op=op→o.type=t→(execOp a.eval o).run P w=.ok .skip w') (hD:idle D (ai.setIfInBounds i true)=false)
 (h:gq P md aR Q S D fuel (ai.setIfInBounds i true) (a.put d undef) w'):gq P md aR Q S D (fuel+1) ai a w:=by
 obtain ⟨o,ho,hd,cY,hg,ht⟩:=nY hi;refine rW hr (by simp) (fun k hk=>?_);rw [uF] at hk;subst hk;refine wpOp_step ho (fun K hK=>?_);rw [if_pos (fJ hg hw)];unfold Oper.wp;rw [hy o cY ht,Oper.upon_skip,hd];exact hK _ _ ⟨fun e=>absurd (e.symm.trans hD) (by decide),h⟩
theorem EK {op:Op} {g:Option (Nat×Bool)} (i:Nat) (f:FuncId) (args:Array Value) (hi:pR aR i d op g) (hw:jc aR a g=true)
 (hr:Region.ready md aR ai=[i]) (hy:∀ o:Oper,o.op=op→(execOp a.eval o).run P w=.ok (.enter f args) w) (hD:idle D (ai.setIfInBounds i true)=false)
 (h:Calls P f args w fun e w'=>∃ v,e=.returned v∧gq P md aR Q S D fuel (ai.setIfInBounds i true) (a.put d v) w'):gq P md aR Q S D (fuel+1) ai a w:=by
 obtain ⟨o,ho,hd,cY,hg⟩:=uX hi;refine rW hr (by simp) (fun k hk=>?_);rw [uF] at hk;subst hk;refine wpOp_step ho (fun K hK=>?_);rw [if_pos (fJ hg hw)];unfold Oper.wp;rw [hy o cY,Oper.upon_enter];refine h.mono ?_;rintro e w' ⟨v,rfl,h'⟩;rw [hd];exact hK _ _ ⟨fun e=>absurd (e.symm.trans hD) (by decide),h'⟩
end
end
section
variable {P:Program} {md:Region.Mode} {aR:Array Oper} {Q:Exit→Act→World→Prop} {S:World→Prop} {D:Nat→Bool} {fuel:Nat} {ai:Array Bool} {a:Act} {w:World}
theorem zU (i:Nat) (d:Option Tmp) (op:Op) (v:Value) (hS:S w) (h:gq P md aR (NoPanic Q) S D fuel (ai.setIfInBounds i true) (a.put d v) w) (g:Option (Nat×Bool):=none) (hi:pR aR i d op g:=by exact rfl)
 (hk:(jc aR a g&&(Region.noSelect aR&&(Region.free md aR ai i&&((Region.ready md aR ai).contains i&&(!D i&&waits md aR D i&&idle D ai)))))=true:=by kernel_rfl)
 (hy:∀ o:Oper,o.op=op→∀ w,S w→(execOp a.eval o).run P w=.ok (.value v) w:=by intro o' ho W hS;simp only [execOp,ho];go_simp;try rfl):gq P md aR (NoPanic Q) S D (fuel+1) ai a w:=by
 rw [Bool.and_eq_true,Bool.and_eq_true,Bool.and_eq_true,Bool.and_eq_true] at hk;exact OY i v hi hk.1 hk.2.1 hk.2.2.1 hk.2.2.2.1 hk.2.2.2.2 hy hS h
theorem zP (i:Nat) (d:Option Tmp) (op:Op) (v:Value) (hS:S w) (h:gq P md aR (NoPanic Q) S D fuel (ai.setIfInBounds i true) (a.put d v) w) (g:Option (Nat×Bool):=none) (hi:pR aR i d op g:=by exact rfl)
 (hk:(jc aR a g&&(Region.noSelect aR&&(Region.free md aR ai i&&((Region.ready md aR ai).contains i&&!D i))))=true:=by kernel_rfl)
 (hy:∀ o:Oper,o.op=op→∀ w,(execOp a.eval o).run P w=.ok (.value v) w:=by intro o' ho W;simp only [execOp,ho];go_simp;try rfl):gq P md aR (NoPanic Q) S D (fuel+1) ai a w:=by
 rw [Bool.and_eq_true,Bool.and_eq_true,Bool.and_eq_true,Bool.and_eq_true,Bool.not_eq_true'] at hk;exact OZ i v hi hk.1 hk.2.1 hk.2.2.1 hk.2.2.2.1 hk.2.2.2.2 hy hS h
theorem zH {id:Nat} (hm:P.follows .mixedOrders=true) (h:∀ R,Below w.heap.size w R→gq P .any aR (NoPanic Q) S D aR.size (Array.replicate aR.size false) a R):(Code.region id aR true).wp P Q a w :=
 wp_region_noPanic (KB hm (h w.drew (Below.refl _ _).drew))
theorem zF (hr:Region.ready md aR ai=[]) (h:Q .normal a w):gq P md aR (NoPanic Q) S D fuel ai a w:=OX hr (NoPanic.normal h) _
end
end Go.Proofs.YtlahonjmfecikaaGreatDoor
