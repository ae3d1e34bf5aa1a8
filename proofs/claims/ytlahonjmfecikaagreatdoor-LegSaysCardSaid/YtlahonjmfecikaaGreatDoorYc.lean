/- The texts below, joined. -/
import Derived.Test.YtlahonjmfecikaaGreatDoorYb
import Derived.Laws.StructEq
import Derived.Deep.DeepCutAuto
set_option maxRecDepth 100000
set_option linter.unusedVariables false
set_option linter.unusedSimpArgs false
set_option maxRecDepth 100000
namespace Go.Proofs.YtlahonjmfecikaaGreatDoor.Fra
open Go.RowKit MaskPlain FramePlain Mas
theorem bx_new (w:World) (cs:Array Value):(w.alloc (.cells cs 61)).heap[w.heap.size]? = some (.cells cs 61 (0,0)):=alloc_new _ _ _ rfl
theorem bx_below (w:World) (o:Obj):Sl (Below w.heap.size w (w.alloc o)):=⟨(Below.refl _ _).alloc (Nat.le_refl _) _⟩
def opn (fin:Bool) (op:Int):Bool:=if ctl op then fin else decide (0≤op)&&decide (op≤2)
theorem control_any (op:Int) (w:World):Calls Tryz.prog 138 #[.int .i64 op] w fun e w'=>e=.returned (.bool (ctl op))∧w=w':=by
 by_cases h8:op=8
 ·subst h8
  go_enter Tryz.func138,Tryz.ntmps138
  go_wp2
  go_ret
  exact ⟨rfl,rfl⟩
 by_cases h9:op=9
 ·subst h9
  go_enter Tryz.func138,Tryz.ntmps138
  go_wp2
  go_ret
  exact ⟨rfl,rfl⟩
 by_cases h10:op=10
 ·subst h10
  go_enter Tryz.func138,Tryz.ntmps138
  go_wp2
  go_ret
  exact ⟨rfl,rfl⟩
 ·have e8:(op==8)=false:=beq_eq_false_iff_ne.2 h8
  have e9:(op==9)=false:=beq_eq_false_iff_ne.2 h9
  have e10:(op==10)=false:=beq_eq_false_iff_ne.2 h10
  have hr:ctl op=false:=by unfold ctl;rw [Bool.and_eq_false_iff,decide_eq_false_iff_not,decide_eq_false_iff_not];omega
  rw [hr]
  clear hr h8 h9 h10
  go_enter Tryz.func138,Tryz.ntmps138
  go_wp2
  go_ret
  exact ⟨rfl,rfl⟩
theorem refcontrol_any (op:Int) (w:World):Calls Tryz.prog 124 #[.int .i64 op] w fun e w'=>e=.returned (.bool (ctl op))∧w=w':=by
 unfold ctl
 by_cases h8:8≤op
 ·have e1:(op≥8)=True:=eq_true h8
  by_cases h10:op≤10
  ·have e2:(op≤10)=True:=eq_true h10
   rw [decide_eq_true h8,decide_eq_true h10]
   clear h8 h10
   go_enter Tryz.func124,Tryz.ntmps124
   go_wp2
   go_ret
   exact ⟨rfl,rfl⟩
  ·have e2:(op≤10)=False:=eq_false h10
   rw [decide_eq_true h8,decide_eq_false h10]
   clear h8 h10
   go_enter Tryz.func124,Tryz.ntmps124
   go_wp2
   go_ret
   exact ⟨rfl,rfl⟩
 ·have e1:(op≥8)=False:=eq_false h8
  rw [decide_eq_false h8,Bool.false_and]
  clear h8
  go_enter Tryz.func124,Tryz.ntmps124
  go_wp2
  go_ret
  exact ⟨rfl,rfl⟩
theorem opens_any (fin:Bool) (op:Int) (w:World):Calls Tryz.prog 135 #[.bool fin,.int .i64 op] w fun e w'=>e=.returned (.bool (opn fin op))∧w=w':=by
 obtain ⟨c,hc⟩:∃ c,ctl op=c:=⟨_,rfl⟩
 have C1:∀ W,Calls Tryz.prog 138 #[.int .i64 op] W fun e w'=>e=.returned (.bool c)∧W=w':=fun W=>by rw [← hc];exact control_any op W
 unfold opn
 rw [hc]
 clear hc
 cases c with
 | true =>
   rw [if_pos rfl]
   go_enter Tryz.func135,Tryz.ntmps135
   go_wp2_with fail
   refine (C1 _).mono ?_
   rintro e w1 ⟨rfl,rfl⟩
   go_wp2
   go_ret
   exact ⟨rfl,rfl⟩
 | false =>
   rw [if_neg (by decide)]
   obtain ⟨r,hr⟩:∃ r,(decide (0≤op)&&decide (op≤2))=r:=⟨_,rfl⟩
   rw [hr]
   by_cases h0:op=0
   ·subst h0
    subst hr
    go_enter Tryz.func135,Tryz.ntmps135
    go_wp2_with fail
    refine (C1 _).mono ?_
    rintro e w1 ⟨rfl,rfl⟩
    go_wp2
    go_ret
    exact ⟨rfl,rfl⟩
   by_cases h1:op=1
   ·subst h1
    subst hr
    go_enter Tryz.func135,Tryz.ntmps135
    go_wp2_with fail
    refine (C1 _).mono ?_
    rintro e w1 ⟨rfl,rfl⟩
    go_wp2
    go_ret
    exact ⟨rfl,rfl⟩
   by_cases h2:op=2
   ·subst h2
    subst hr
    go_enter Tryz.func135,Tryz.ntmps135
    go_wp2_with fail
    refine (C1 _).mono ?_
    rintro e w1 ⟨rfl,rfl⟩
    go_wp2
    go_ret
    exact ⟨rfl,rfl⟩
   have e0:(op==0)=false:=beq_eq_false_iff_ne.2 h0
   have e1:(op==1)=false:=beq_eq_false_iff_ne.2 h1
   have e2:(op==2)=false:=beq_eq_false_iff_ne.2 h2
   obtain rfl:r=false:=by rw [← hr,Bool.and_eq_false_iff,decide_eq_false_iff_not,decide_eq_false_iff_not];omega
   clear hr h0 h1 h2
   go_enter Tryz.func135,Tryz.ntmps135
   go_wp2_with fail
   refine (C1 _).mono ?_
   rintro e w1 ⟨rfl,rfl⟩
   go_wp2
   go_ret
   exact ⟨rfl,rfl⟩
def ksz (m:Bool):Nat:=if m then 4 else 0
theorem keysize_any (fin:Bool) (op:Int) (m:Bool) (a b c d:Nat) (s:ByteArray) (w:World) :
 Calls Tryz.prog 160 #[(.agg #[.bool fin,.int .i64 op,.bool m,.int .u8 ((a:Nat):Int),.int .u8 ((b:Nat):Int),.int .u8 ((c:Nat):Int),.int .u8 ((d:Nat):Int),.string s])] w fun e w'=>e=.returned (.int .i64 ((ksz m:Nat):Int))∧Sl (Below w.heap.size w w'):=by
 have HB:=bx_below w (.cells #[.bool fin,.int .i64 op,.bool m,.int .u8 ((a:Nat):Int),.int .u8 ((b:Nat):Int),.int .u8 ((c:Nat):Int),.int .u8 ((d:Nat):Int),.string s] 61)
 cases m with
 | true =>
   go_enter Tryz.func160,Tryz.ntmps160
   go_wp2
   go_ret
   exact ⟨rfl,HB⟩
 | false =>
   go_enter Tryz.func160,Tryz.ntmps160
   go_wp2
   go_ret
   exact ⟨rfl,HB⟩
end Go.Proofs.YtlahonjmfecikaaGreatDoor.Fra
set_option maxRecDepth 100000
namespace Go.Proofs.YtlahonjmfecikaaGreatDoor.Fra
open Go.RowKit MaskPlain FramePlain Mas
theorem form_opn (f:Fr):form f=(opn f.fin f.op&&(!(ctl f.op)||decide (f.data.length≤125))&&(f.masked||decide (f.key=zero4))):=by
 unfold form opn
 cases h:ctl f.op with
 | true =>
   have:(decide (0≤f.op)&&decide (f.op≤2))=false:=by
    unfold ctl at h
    rw [Bool.and_eq_true,decide_eq_true_eq,decide_eq_true_eq] at h
    rw [Bool.and_eq_false_iff,decide_eq_false_iff_not,decide_eq_false_iff_not];omega
   rw [this];simp
 | false=>simp
theorem chk_form {f:Fr} (h:form f=false):chk f=91:=by unfold chk;rw [if_pos h]
theorem chk_long {f:Fr} (h:form f=true) (hl:65536<f.data.length):chk f=92:=by unfold chk;rw [if_neg (by rw [h];decide),if_pos hl]
theorem chk_yes {f:Fr} (h:form f=true) (hl:¬ 65536<f.data.length):chk f=0:=by unfold chk;rw [if_neg (by rw [h];decide),if_neg hl]
theorem eq_zero4 (a b c d:Nat) (hk:Small 256 [a,b,c,d]) (W:World):(Op.equalIn 10000 59 (.agg #[.int .u8 ((a:Nat):Int),.int .u8 ((b:Nat):Int),.int .u8 ((c:Nat):Int),.int .u8 ((d:Nat):Int)]) (.agg #[.int .u8 0,.int .u8 0,.int .u8 0,.int .u8 0])).run Tryz.prog W=.ok (decide ([a,b,c,d]=zero4)) W :=
 eq_keys [a,b,c,d] [0,0,0,0] rfl rfl hk (fun x hx=>by simp at hx;omega) W
set_option maxHeartbeats 4000000 in
theorem check_any (fin:Bool) (op:Int) (m:Bool) (a b c d:Nat) (s:ByteArray) (w:World) (hk:Small 256 [a,b,c,d]) :
 Calls Tryz.prog 110 #[(.agg #[.bool fin,.int .i64 op,.bool m,.int .u8 ((a:Nat):Int),.int .u8 ((b:Nat):Int),.int .u8 ((c:Nat):Int),.int .u8 ((d:Nat):Int),.string s])] w fun e w'=>e=.returned (.int .i64 ((chk (⟨fin,op,m,[a,b,c,d],bytes s⟩:Fr):Nat):Int))∧Sl (Below w.heap.size w w'):=by
 have HB:=bx_below w (.cells #[.bool fin,.int .i64 op,.bool m,.int .u8 ((a:Nat):Int),.int .u8 ((b:Nat):Int),.int .u8 ((c:Nat):Int),.int .u8 ((d:Nat):Int),.string s] 61)
 have hF:=form_opn (⟨fin,op,m,[a,b,c,d],bytes s⟩:Fr)
 simp only [bytes_length] at hF
 obtain ⟨o,ho⟩:∃ o,opn fin op=o:=⟨_,rfl⟩
 obtain ⟨g,hg⟩:∃ g,ctl op=g:=⟨_,rfl⟩
 have C1:∀ W,Calls Tryz.prog 135 #[.bool fin,.int .i64 op] W fun e w'=>e=.returned (.bool o)∧W=w':=fun W=>by rw [← ho];exact opens_any fin op W
 have C2:∀ W,Calls Tryz.prog 138 #[.int .i64 op] W fun e w'=>e=.returned (.bool g)∧W=w':=fun W=>by rw [← hg];exact control_any op W
 have hEq:=eq_zero4 a b c d hk
 rw [ho,hg] at hF
 obtain ⟨z,hz⟩:∃ z,decide ([a,b,c,d]=zero4)=z:=⟨_,rfl⟩
 rw [hz] at hF hEq
 obtain ⟨l,hl⟩:∃ l,decide (s.size≤125)=l:=⟨_,rfl⟩
 rw [hl] at hF
 have hlq:((s.size:Int)>125)=(!l=true):=by
  rw [← hl]
  by_cases h:s.size≤125
  ·rw [decide_eq_true h];exact propext ⟨fun h'=>by omega,fun h'=>by simp at h'⟩
  ·rw [decide_eq_false h];exact propext ⟨fun h'=>rfl,fun h'=>by omega⟩
 clear ho hg hz hl hk
 obtain ⟨k,hk⟩:∃ k,chk (⟨fin,op,m,[a,b,c,d],bytes s⟩:Fr)=k:=⟨_,rfl⟩
 rw [hk]
 cases o with
 | false =>
   obtain rfl:k=91:=hk.symm.trans (chk_form (by rw [hF];simp))
   clear hF hk hlq
   go_enter Tryz.func110,Tryz.ntmps110
   go_wp2_with fail
   refine (C1 _).mono ?_
   rintro e w1 ⟨rfl,rfl⟩
   go_wp2
   go_ret
   exact ⟨rfl,HB⟩
 | true =>
   cases g with
   | true =>
     cases l with
     | false =>
       obtain rfl:k=91:=hk.symm.trans (chk_form (by rw [hF];simp))
       clear hF hk
       have hlq:((s.size:Int)>125)=True:=hlq.trans (by simp)
       go_enter Tryz.func110,Tryz.ntmps110
       go_wp2_with fail
       refine (C1 _).mono ?_
       rintro e w1 ⟨rfl,rfl⟩
       go_wp2_with fail
       refine (C2 _).mono ?_
       rintro e w2 ⟨rfl,rfl⟩
       go_wp2
       go_ret
       exact ⟨rfl,HB⟩
     | true =>
       have hlq:((s.size:Int)>125)=False:=hlq.trans (by simp)
       cases m with
       | true =>
         by_cases h6:65536<s.size
         ·have h6':((s.size:Int)>65536)=True:=eq_true (by omega)
          obtain rfl:k=92:=hk.symm.trans (chk_long (by rw [hF];simp) (by rw [bytes_length];exact h6))
          clear hF hk h6
          go_enter Tryz.func110,Tryz.ntmps110
          go_wp2_with fail
          refine (C1 _).mono ?_
          rintro e w1 ⟨rfl,rfl⟩
          go_wp2_with fail
          refine (C2 _).mono ?_
          rintro e w2 ⟨rfl,rfl⟩
          go_wp2
          go_ret
          exact ⟨rfl,HB⟩
         ·have h6':((s.size:Int)>65536)=False:=eq_false (by omega)
          obtain rfl:k=0:=hk.symm.trans (chk_yes (by rw [hF];simp) (by rw [bytes_length];exact h6))
          clear hF hk h6
          go_enter Tryz.func110,Tryz.ntmps110
          go_wp2_with fail
          refine (C1 _).mono ?_
          rintro e w1 ⟨rfl,rfl⟩
          go_wp2_with fail
          refine (C2 _).mono ?_
          rintro e w2 ⟨rfl,rfl⟩
          go_wp2
          go_ret
          exact ⟨rfl,HB⟩
       | false =>
         cases z with
         | false =>
           obtain rfl:k=91:=hk.symm.trans (chk_form (by rw [hF];simp))
           clear hF hk
           go_enter Tryz.func110,Tryz.ntmps110
           go_wp2_with fail
           refine (C1 _).mono ?_
           rintro e w1 ⟨rfl,rfl⟩
           go_wp2_with fail
           refine (C2 _).mono ?_
           rintro e w2 ⟨rfl,rfl⟩
           go_wp2
           go_ret
           exact ⟨rfl,HB⟩
         | true =>
           by_cases h6:65536<s.size
           ·have h6':((s.size:Int)>65536)=True:=eq_true (by omega)
            obtain rfl:k=92:=hk.symm.trans (chk_long (by rw [hF];simp) (by rw [bytes_length];exact h6))
            clear hF hk h6
            go_enter Tryz.func110,Tryz.ntmps110
            go_wp2_with fail
            refine (C1 _).mono ?_
            rintro e w1 ⟨rfl,rfl⟩
            go_wp2_with fail
            refine (C2 _).mono ?_
            rintro e w2 ⟨rfl,rfl⟩
            go_wp2
            go_ret
            exact ⟨rfl,HB⟩
           ·have h6':((s.size:Int)>65536)=False:=eq_false (by omega)
            obtain rfl:k=0:=hk.symm.trans (chk_yes (by rw [hF];simp) (by rw [bytes_length];exact h6))
            clear hF hk h6
            go_enter Tryz.func110,Tryz.ntmps110
            go_wp2_with fail
            refine (C1 _).mono ?_
            rintro e w1 ⟨rfl,rfl⟩
            go_wp2_with fail
            refine (C2 _).mono ?_
            rintro e w2 ⟨rfl,rfl⟩
            go_wp2
            go_ret
            exact ⟨rfl,HB⟩
   | false =>
     clear hlq
     cases m with
     | true =>
       by_cases h6:65536<s.size
       ·have h6':((s.size:Int)>65536)=True:=eq_true (by omega)
        obtain rfl:k=92:=hk.symm.trans (chk_long (by rw [hF];simp) (by rw [bytes_length];exact h6))
        clear hF hk h6
        go_enter Tryz.func110,Tryz.ntmps110
        go_wp2_with fail
        refine (C1 _).mono ?_
        rintro e w1 ⟨rfl,rfl⟩
        go_wp2_with fail
        refine (C2 _).mono ?_
        rintro e w2 ⟨rfl,rfl⟩
        go_wp2
        go_ret
        exact ⟨rfl,HB⟩
       ·have h6':((s.size:Int)>65536)=False:=eq_false (by omega)
        obtain rfl:k=0:=hk.symm.trans (chk_yes (by rw [hF];simp) (by rw [bytes_length];exact h6))
        clear hF hk h6
        go_enter Tryz.func110,Tryz.ntmps110
        go_wp2_with fail
        refine (C1 _).mono ?_
        rintro e w1 ⟨rfl,rfl⟩
        go_wp2_with fail
        refine (C2 _).mono ?_
        rintro e w2 ⟨rfl,rfl⟩
        go_wp2
        go_ret
        exact ⟨rfl,HB⟩
     | false =>
       cases z with
       | false =>
         obtain rfl:k=91:=hk.symm.trans (chk_form (by rw [hF];simp))
         clear hF hk
         go_enter Tryz.func110,Tryz.ntmps110
         go_wp2_with fail
         refine (C1 _).mono ?_
         rintro e w1 ⟨rfl,rfl⟩
         go_wp2_with fail
         refine (C2 _).mono ?_
         rintro e w2 ⟨rfl,rfl⟩
         go_wp2
         go_ret
         exact ⟨rfl,HB⟩
       | true =>
         by_cases h6:65536<s.size
         ·have h6':((s.size:Int)>65536)=True:=eq_true (by omega)
          obtain rfl:k=92:=hk.symm.trans (chk_long (by rw [hF];simp) (by rw [bytes_length];exact h6))
          clear hF hk h6
          go_enter Tryz.func110,Tryz.ntmps110
          go_wp2_with fail
          refine (C1 _).mono ?_
          rintro e w1 ⟨rfl,rfl⟩
          go_wp2_with fail
          refine (C2 _).mono ?_
          rintro e w2 ⟨rfl,rfl⟩
          go_wp2
          go_ret
          exact ⟨rfl,HB⟩
         ·have h6':((s.size:Int)>65536)=False:=eq_false (by omega)
          obtain rfl:k=0:=hk.symm.trans (chk_yes (by rw [hF];simp) (by rw [bytes_length];exact h6))
          clear hF hk h6
          go_enter Tryz.func110,Tryz.ntmps110
          go_wp2_with fail
          refine (C1 _).mono ?_
          rintro e w1 ⟨rfl,rfl⟩
          go_wp2_with fail
          refine (C2 _).mono ?_
          rintro e w2 ⟨rfl,rfl⟩
          go_wp2
          go_ret
          exact ⟨rfl,HB⟩
end Go.Proofs.YtlahonjmfecikaaGreatDoor.Fra
set_option maxRecDepth 100000
namespace Go.Proofs.YtlahonjmfecikaaGreatDoor.Fra
open Go.RowKit MaskPlain FramePlain Mas
theorem bx_cells {W:World} {g:Nat} {fin:Bool} {op:Int} {m:Bool} {a b c d:Nat} {s:ByteArray} (h:W.heap[g]? = some (.cells #[.bool fin,.int .i64 op,.bool m,.int .u8 ((a:Nat):Int),.int .u8 ((b:Nat):Int),.int .u8 ((c:Nat):Int),.int .u8 ((d:Nat):Int),.string s] 61 (0,0))) :
 W.cell? ⟨g,0,none⟩=some (.bool fin)∧W.cell? ⟨g,1,none⟩=some (.int .i64 op)∧W.cell? ⟨g,2,none⟩=some (.bool m)∧W.cell? ⟨g,3,none⟩=some (.int .u8 (a:Int))∧W.cell? ⟨g,4,none⟩=some (.int .u8 (b:Int))∧W.cell? ⟨g,5,none⟩=some (.int .u8 (c:Int))∧W.cell? ⟨g,6,none⟩=some (.int .u8 (d:Int))∧W.cell? ⟨g,7,none⟩=some (.string s):=by
 refine ⟨?_,?_,?_,?_,?_,?_,?_,?_⟩<;>(rw [cell_of_row _ _ _ _ _ _ h];rfl)
theorem box_size (fin:Bool) (op:Int) (m:Bool) (a b c d:Nat) (s:ByteArray):(Tryz.prog.info? 61).map (·.size)=some (#[.bool fin,.int .i64 op,.bool m,.int .u8 ((a:Nat):Int),.int .u8 ((b:Nat):Int),.int .u8 ((c:Nat):Int),.int .u8 ((d:Nat):Int),.string s]:Array Value).size:=by kernel_rfl
theorem loadbox {W:World} {ev:Operand→Value} {o:Oper} {x:Operand} {g:Nat} {fin:Bool} {op:Int} {m:Bool} {a b c d:Nat} {s:ByteArray} (ho:o.op=.load 61 x) (hx:ev x=.pointer (some ⟨g,0,none⟩)) (h:W.heap[g]? = some (.cells #[.bool fin,.int .i64 op,.bool m,.int .u8 ((a:Nat):Int),.int .u8 ((b:Nat):Int),.int .u8 ((c:Nat):Int),.int .u8 ((d:Nat):Int),.string s] 61 (0,0))) :
 (execOp ev o).run Tryz.prog W=.ok (.value (.agg #[.bool fin,.int .i64 op,.bool m,.int .u8 ((a:Nat):Int),.int .u8 ((b:Nat):Int),.int .u8 ((c:Nat):Int),.int .u8 ((d:Nat):Int),.string s])) W:=by
 unfold execOp
 simp only [ho,hx,Instr.loadAt,Instr.sureAddr,Sem.run_bind,Sem.run_pure,Result.andThen_ok,run_loadVar_row W g 61 61 _ (0,0) _ h Tryz.underlying61 rfl (box_size fin op m a b c d s)]
theorem lenbytes_any (fin:Bool) (op:Int) (m:Bool) (a b c d:Nat) (s:ByteArray) (n:Nat) (w:World) (hg:Globs w) (hs:s.size≤1000000) (hn:(lenB s.size).length=n) :
 Calls Tryz.prog 165 #[(.agg #[.bool fin,.int .i64 op,.bool m,.int .u8 ((a:Nat):Int),.int .u8 ((b:Nat):Int),.int .u8 ((c:Nat):Int),.int .u8 ((d:Nat):Int),.string s])] w fun e w'=>∃ g cap,e=.returned (.slice (some ⟨g,0,none⟩) n cap)∧Sl (SrcAt w' (.slice (some ⟨g,0,none⟩) n cap) (lenB s.size))∧Sl (Below w.heap.size w w'):=by
 have HB:=bx_below w (.cells #[.bool fin,.int .i64 op,.bool m,.int .u8 ((a:Nat):Int),.int .u8 ((b:Nat):Int),.int .u8 ((c:Nat):Int),.int .u8 ((d:Nat):Int),.string s] 61)
 have HG:=Sl.mk hg
 have hsome:putL s.size=some (lenB s.size):=lenB_some (by omega)
 have C1:=fun W hW=>put_yes s.size (lenB s.size) W hW hsome
 rw [hn] at C1
 obtain ⟨L,hL⟩:∃ L,lenB s.size=L:=⟨_,rfl⟩
 rw [hL] at C1 ⊢
 have hwr:IntKind.u64.wrap (s.size:Int)=(s.size:Int):=by rw [IntKind.wrap_u64];omega
 clear hg hn hsome hL
 go_enter Tryz.func165,Tryz.ntmps165
 go_wp2_with fail
 refine (C1 _ (HG.out.below HB.out HG.out.size)).mono ?_
 rintro e w1 ⟨g,cap,rfl,HS,HX⟩
 have HB1:Sl (Below w.heap.size w w1):=⟨HB.out.trans (HX.out.mono HB.out.size)⟩
 clear HX
 go_wp2
 go_ret
 exact ⟨g,cap,rfl,HS,HB1⟩
theorem keysize_n (fin:Bool) (op:Int) (m:Bool) (a b c d:Nat) (s:ByteArray) (k:Nat) (w:World) (hk:ksz m=k) :
 Calls Tryz.prog 160 #[(.agg #[.bool fin,.int .i64 op,.bool m,.int .u8 ((a:Nat):Int),.int .u8 ((b:Nat):Int),.int .u8 ((c:Nat):Int),.int .u8 ((d:Nat):Int),.string s])] w fun e w'=>e=.returned (.int .i64 (k:Int))∧Sl (Below w.heap.size w w'):=by
 subst hk;exact keysize_any fin op m a b c d s w
theorem size_parts (fin:Bool) (op:Int) (m:Bool) (a b c d:Nat) (s:ByteArray) (h:s.size≤1000000):size (⟨fin,op,m,[a,b,c,d],bytes s⟩:Fr)=1+(lenB s.size).length+ksz m+s.size:=by
 unfold size ksz
 rw [lenB_length (by omega)]
 simp only [bytes_length]
 cases m<;>simp only [if_true,Bool.false_eq_true,if_false]<;>split<;>(try split)<;>omega
theorem lenB_le (n:Nat) (h:n≤1000000):(lenB n).length≤9:=by
 rw [lenB_length (by omega)];split
 ·omega
 ·split<;>omega
set_option maxHeartbeats 2000000 in
theorem size_any (fin:Bool) (op:Int) (m:Bool) (a b c d:Nat) (s:ByteArray) (w:World) (hg:Globs w) (hs:s.size≤1000000) :
 Calls Tryz.prog 164 #[(.agg #[.bool fin,.int .i64 op,.bool m,.int .u8 ((a:Nat):Int),.int .u8 ((b:Nat):Int),.int .u8 ((c:Nat):Int),.int .u8 ((d:Nat):Int),.string s])] w fun e w'=>e=.returned (.int .i64 ((size (⟨fin,op,m,[a,b,c,d],bytes s⟩:Fr):Nat):Int))∧Sl (Below w.heap.size w w'):=by
 have HG:=Sl.mk hg
 have HSZ:=Sl.mk hs
 have hF:=size_parts fin op m a b c d s hs
 have hle:=lenB_le s.size hs
 obtain ⟨n,hn⟩:∃ n,(lenB s.size).length=n:=⟨_,rfl⟩
 have HN:=Sl.mk hn
 obtain ⟨k,hk⟩:∃ k,ksz m=k:=⟨_,rfl⟩
 have HK:=Sl.mk hk
 have hk4:k≤4:=by rw [← hk];unfold ksz;split<;>omega
 rw [hn,hk] at hF
 rw [hn] at hle
 have HF:Sl (((size (⟨fin,op,m,[a,b,c,d],bytes s⟩:Fr):Nat):Int)=1+(n:Int)+(k:Int)+(s.size:Int)):=⟨by rw [hF];omega⟩
 have z1:IntKind.i64.wrap (1+(n:Int))=1+(n:Int):=by rw [IntKind.wrap_i64];omega
 have z2:IntKind.i64.wrap (1+(n:Int)+(k:Int))=1+(n:Int)+(k:Int):=by rw [IntKind.wrap_i64];omega
 have z3:IntKind.i64.wrap (1+(n:Int)+(k:Int)+(s.size:Int))=1+(n:Int)+(k:Int)+(s.size:Int):=by rw [IntKind.wrap_i64];omega
 clear hg hs hF hn hk
 obtain ⟨w1,hw1⟩:∃ w1,w.alloc (.cells #[.bool fin,.int .i64 op,.bool m,.int .u8 ((a:Nat):Int),.int .u8 ((b:Nat):Int),.int .u8 ((c:Nat):Int),.int .u8 ((d:Nat):Int),.string s] 61)=w1:=⟨_,rfl⟩
 have HB1:Sl (Below w.heap.size w w1):=⟨by rw [← hw1];exact (bx_below w _).out⟩
 have HY1:Sl (w1.heap[w.heap.size]? = some (.cells #[.bool fin,.int .i64 op,.bool m,.int .u8 ((a:Nat):Int),.int .u8 ((b:Nat):Int),.int .u8 ((c:Nat):Int),.int .u8 ((d:Nat):Int),.string s] 61 (0,0))):=⟨by rw [← hw1];exact bx_new _ _⟩
 go_enter Tryz.func164,Tryz.ntmps164
 go_upto_region 1 with fail
 obtain ⟨R,hR⟩:∃ R,w1.drew=R:=⟨_,rfl⟩
 have HS0:Below w.heap.size w R∧R.heap[w.heap.size]? = some (.cells #[.bool fin,.int .i64 op,.bool m,.int .u8 ((a:Nat):Int),.int .u8 ((b:Nat):Int),.int .u8 ((c:Nat):Int),.int .u8 ((d:Nat):Int),.string s] 61 (0,0)):=⟨by rw [← hR];exact HB1.out.drew,by rw [← hR];exact HY1.out⟩
 refine wp_region_noPanic ?_
 refine wp_region_held (S:=fun W=>Below w.heap.size w W∧W.heap[w.heap.size]? = some (.cells #[.bool fin,.int .i64 op,.bool m,.int .u8 ((a:Nat):Int),.int .u8 ((b:Nat):Int),.int .u8 ((c:Nat):Int),.int .u8 ((d:Nat):Int),.string s] 61 (0,0))) (by kernel_rfl) ?_
 change wpAnyH _ _ _ _ _ _ _ _ w1.drew
 rw [hR]
 clear hR hw1
 refine heldTake (d:=some 3) (op:=.load 61 (Operand.tmp 1)) (g:=none) 0 ((.agg #[.bool fin,.int .i64 op,.bool m,.int .u8 ((a:Nat):Int),.int .u8 ((b:Nat):Int),.int .u8 ((c:Nat):Int),.int .u8 ((d:Nat):Int),.string s])) rfl (by kernel_rfl) (by kernel_rfl) (by kernel_rfl) (by kernel_rfl) ?y0 HS0 ?_
 case y0=>intro o' ho W hS;exact loadbox ho (by rfl) hS.2
 simp only [Act.put,List.setIfInBounds_toArray,List.set_cons_zero,List.set_cons_succ]
 refine heldTake (d:=some 7) (op:=.load 61 (Operand.tmp 1)) (g:=none) 4 ((.agg #[.bool fin,.int .i64 op,.bool m,.int .u8 ((a:Nat):Int),.int .u8 ((b:Nat):Int),.int .u8 ((c:Nat):Int),.int .u8 ((d:Nat):Int),.string s])) rfl (by kernel_rfl) (by kernel_rfl) (by kernel_rfl) (by kernel_rfl) ?y4 HS0 ?_
 case y4=>intro o' ho W hS;exact loadbox ho (by rfl) hS.2
 simp only [Act.put,List.setIfInBounds_toArray,List.set_cons_zero,List.set_cons_succ]
 refine heldTake (d:=some 10) (op:=.fieldAddr 61 (Operand.tmp 1) 4) (g:=none) 7 ?v7 rfl (by kernel_rfl) (by kernel_rfl) (by kernel_rfl) (by kernel_rfl) ?y7 HS0 ?_
 case y7=>intro o' ho W hS;simp only [execOp,ho];go_simp;try rfl
 simp only [Act.put,List.setIfInBounds_toArray,List.set_cons_zero,List.set_cons_succ]
 refine heldTake (d:=some 11) (op:=.load 9 (Operand.tmp 10)) (g:=none) 8 ?v8 rfl (by kernel_rfl) (by kernel_rfl) (by kernel_rfl) (by kernel_rfl) ?y8 HS0 ?_
 case y8=>intro o' ho W hS;obtain ⟨c0,c1,c2,c3,c4,c5,c6,c7⟩:=bx_cells hS.2;simp only [execOp,ho];go_simp;try rfl
 simp only [Act.put,List.setIfInBounds_toArray,List.set_cons_zero,List.set_cons_succ]
 refine heldTake (d:=some 12) (op:=.call {callee:=Callee.builtin Builtin.len,args:=#[Operand.tmp 11],argTypes:=#[9]}) (g:=none) 9 ?v9 rfl (by kernel_rfl) (by kernel_rfl) (by kernel_rfl) (by kernel_rfl) ?y9 HS0 ?_
 case y9=>intro o' ho W hS;simp only [execOp,ho];go_simp;try rfl
 simp only [Act.put,List.setIfInBounds_toArray,List.set_cons_zero,List.set_cons_succ]
 refine heldCall (d:=some 4) (op:=.call {callee:=Callee.value (Operand.func 165),args:=#[Operand.tmp 3],argTypes:=#[61]}) (g:=none) 1 165 #[(.agg #[.bool fin,.int .i64 op,.bool m,.int .u8 ((a:Nat):Int),.int .u8 ((b:Nat):Int),.int .u8 ((c:Nat):Int),.int .u8 ((d:Nat):Int),.string s])] rfl (by kernel_rfl) (by kernel_rfl) ?y1 ?_
 case y1=>intro o' ho;simp only [execOp,ho];go_simp;try rfl
 refine (lenbytes_any fin op m a b c d s n R (HG.out.below HS0.1 HG.out.size) HSZ.out HN.out).mono ?_
 rintro e R1 ⟨g,cap,rfl,HSL,HX1⟩
 have HS1:Below w.heap.size w R1∧R1.heap[w.heap.size]? = some (.cells #[.bool fin,.int .i64 op,.bool m,.int .u8 ((a:Nat):Int),.int .u8 ((b:Nat):Int),.int .u8 ((c:Nat):Int),.int .u8 ((d:Nat):Int),.string s] 61 (0,0)):=⟨HS0.1.trans (HX1.out.mono HS0.1.size),by rw [HX1.out.block _ (Array.getElem?_eq_some_iff.1 HS0.2).1];exact HS0.2⟩
 refine ⟨_,rfl,HS1,?_⟩
 simp only [Act.put,List.setIfInBounds_toArray,List.set_cons_zero,List.set_cons_succ]
 refine heldTake (d:=some 5) (op:=.call {callee:=Callee.builtin Builtin.len,args:=#[Operand.tmp 4],argTypes:=#[49]}) (g:=none) 2 ?v2 rfl (by kernel_rfl) (by kernel_rfl) (by kernel_rfl) (by kernel_rfl) ?y2 HS1 ?_
 case y2=>intro o' ho W hS;simp only [execOp,ho];go_simp;try rfl
 simp only [Act.put,List.setIfInBounds_toArray,List.set_cons_zero,List.set_cons_succ]
 refine heldTake (d:=some 6) (op:=.binOp BinOp.add 3 (Operand.const (Value.int IntKind.i64 1)) (Operand.tmp 5) 3) (g:=none) 3 ?v3 rfl (by kernel_rfl) (by kernel_rfl) (by kernel_rfl) (by kernel_rfl) ?y3 HS1 ?_
 case y3=>intro o' ho W hS;simp only [execOp,ho];go_simp;try rfl
 simp only [Act.put,List.setIfInBounds_toArray,List.set_cons_zero,List.set_cons_succ]
 refine heldCall (d:=some 8) (op:=.call {callee:=Callee.value (Operand.func 160),args:=#[Operand.tmp 7],argTypes:=#[61]}) (g:=none) 5 160 #[(.agg #[.bool fin,.int .i64 op,.bool m,.int .u8 ((a:Nat):Int),.int .u8 ((b:Nat):Int),.int .u8 ((c:Nat):Int),.int .u8 ((d:Nat):Int),.string s])] rfl (by kernel_rfl) (by kernel_rfl) ?y5 ?_
 case y5=>intro o' ho;simp only [execOp,ho];go_simp;try rfl
 refine (keysize_n fin op m a b c d s k R1 HK.out).mono ?_
 rintro e R2 ⟨rfl,HX2⟩
 have HS2:Below w.heap.size w R2∧R2.heap[w.heap.size]? = some (.cells #[.bool fin,.int .i64 op,.bool m,.int .u8 ((a:Nat):Int),.int .u8 ((b:Nat):Int),.int .u8 ((c:Nat):Int),.int .u8 ((d:Nat):Int),.string s] 61 (0,0)):=⟨HS1.1.trans (HX2.out.mono HS1.1.size),by rw [HX2.out.block _ (Array.getElem?_eq_some_iff.1 HS1.2).1];exact HS1.2⟩
 refine ⟨_,rfl,HS2,?_⟩
 simp only [Act.put,List.setIfInBounds_toArray,List.set_cons_zero,List.set_cons_succ]
 refine heldTake (d:=some 9) (op:=.binOp BinOp.add 3 (Operand.tmp 6) (Operand.tmp 8) 3) (g:=none) 6 ?v6 rfl (by kernel_rfl) (by kernel_rfl) (by kernel_rfl) (by kernel_rfl) ?y6 HS2 ?_
 case y6=>intro o' ho W hS;simp only [execOp,ho];go_simp;try rfl
 simp only [Act.put,List.setIfInBounds_toArray,List.set_cons_zero,List.set_cons_succ]
 refine heldTake (d:=some 13) (op:=.binOp BinOp.add 3 (Operand.tmp 9) (Operand.tmp 12) 3) (g:=none) 10 ?v10 rfl (by kernel_rfl) (by kernel_rfl) (by kernel_rfl) (by kernel_rfl) ?y10 HS2 ?_
 case y10=>intro o' ho W hS;simp only [execOp,ho];go_simp;try rfl
 simp only [Act.put,List.setIfInBounds_toArray,List.set_cons_zero,List.set_cons_succ]
 refine heldTake (d:=some 2) (op:=.assign (Operand.tmp 13)) (g:=none) 11 ?v11 rfl (by kernel_rfl) (by kernel_rfl) (by kernel_rfl) (by kernel_rfl) ?y11 HS2 ?_
 case y11=>intro o' ho W hS;simp only [execOp,ho];go_simp;try rfl
 simp only [Act.put,List.setIfInBounds_toArray,List.set_cons_zero,List.set_cons_succ]
 refine wpAnyH_done (by kernel_rfl) ?_ _
 refine NoPanic.normal ?_
 go_wp2
 go_ret
 exact ⟨by rw [HF.out];rfl,⟨HS2.1⟩⟩
end Go.Proofs.YtlahonjmfecikaaGreatDoor.Fra
set_option maxRecDepth 100000
namespace Go.Proofs.YtlahonjmfecikaaGreatDoor.Fra
open Go.RowKit MaskPlain FramePlain Mas
theorem add_src {Z:World} {base:Nat} {v u:Value} {m l:List Nat} (h:Z.ownsRow base 5 1 v m.length (u8s m)) (hs:SrcAt Z u l) (hl:m.length+l.length≤1000000) (hbase:base≤Z.heap.size) (hp:0<(m++l).length) :
 ∃ g cap w1,(Builtin.append_ #[49,49] 49 #[v,u]).run Tryz.prog Z=.ok (.slice (some ⟨g,0,none⟩) (m++l).length cap) w1 ∧
   w1.ownsRow base 5 1 (.slice (some ⟨g,0,none⟩) (m++l).length cap) (m++l).length (u8s (m++l))∧Z.grownBy w1 v.ownBlock:=by
 obtain ⟨i0,hi0,hz0,hz1,hz2⟩:=info5'
 obtain ⟨a,cap,sb,so,rfl,hc,ha,hcell⟩:=hs
 cases a with
 | none =>
   have h0:l=[]:=by
    cases l with
    | nil=>rfl
    | cons x xs=>exact absurd (ha (by simp)) (by simp)
   subst h0
   have hcap:cap=0∨cap≠0:=by omega
   have hr:(Builtin.append_ #[49,49] 49 #[v,.slice none 0 cap]).run Tryz.prog Z=.ok v Z:=by
    rcases h.2 with ⟨rfl,hm⟩ | ⟨g,cap',cur,rfl,_,_,hnc,_⟩
    ·simp [hm] at hp
    ·simp [Builtin.append_,run_underlying Tryz.underlying49,sizeOf,typeInfo,hi0,Builtin.lenOf,Builtin.firstCells,hnc,storeCells]
   rw [List.append_nil] at hp ⊢
   obtain ⟨g,c,rfl,_,_⟩:=own_src h hp
   exact ⟨g,c,Z,hr,h,grown_refl _ _⟩
 | some ad =>
   obtain ⟨v',w',hrun,hown,hgr,_⟩:=run_append_own (P:=Tryz.prog) Z base 49 49 5 i0 _ 1 1 Tryz.underlying49 hi0 hz0 hz1 hz2 rfl (by decide) v m.length (u8s m) h ad l.length cap (u8s l) (by simp) (fun j u hu=>by
    have hj:j<l.length:=by have:=(List.getElem?_eq_some_iff.1 hu).1;simpa using this
    have had:=ha (by omega)
    injection had with had
    subst had
    rw [Addr.add_mid,hcell j hj,← hu,u8s_get l j hj]) (u8s_one l) (by unfold maxLen;omega) (by omega) hbase
   rw [← List.length_append,← u8s_append] at hown
   obtain ⟨g,c,rfl,_,_⟩:=own_src hown hp
   exact ⟨g,c,w',hrun,hown,hgr⟩
theorem make_cap (X:Int) (n:Nat) (hX:X=(n:Int)) (hn:n≤2000000) (w:World) :
 (Instr.makeSlice 49 (.int .i64 0) (.int .i64 X)).run Tryz.prog w=.ok (.slice (some ⟨w.heap.size,0,none⟩) 0 n) (w.alloc (.cells (u8s (zs n)).toArray 5)):=by
 subst hX
 obtain ⟨i,hi,hz,h1,h2⟩:=info5'
 have:=run_make (P:=Tryz.prog) w 49 5 i (.int .u8 0) Tryz.underlying49 hi hz .i64 .i64 (0:Int) (n:Int) (by omega) (by omega) (by rw [h2];omega) (by omega)
 rw [h1] at this
 rw [show ((n:Int).toNat)=n from by omega,made_u8] at this
 exact this
theorem cap_own (w:World) (base n:Nat) (hb:base≤w.heap.size) (hn:n≤2000000):(w.alloc (.cells (u8s (zs n)).toArray 5)).ownsRow base 5 1 (.slice (some ⟨w.heap.size,0,none⟩) 0 n) ([]:List Nat).length (u8s []) :=
 World.ownsRow_made w (u8s (zs n)).toArray n hb (by unfold maxLen;omega) (by simp [zs])
theorem or_128 (x:Nat) (h:x<128):bits .or .u8 (x:Int) 128=((x+128:Nat):Int):=by
 have:∀ c:Fin 128,bits BinOp.or IntKind.u8 (c.val:Int) 128=((c.val+128:Nat):Int):=by decide +kernel
 exact this ⟨x,h⟩
theorem and_128 (x:Nat) (h:x<256):bits .and .u8 (x:Int) 128=(((if 128≤x then 128 else 0:Nat)):Int):=by
 have:∀ c:Fin 256,bits BinOp.and IntKind.u8 (c.val:Int) 128=(((if 128≤c.val then 128 else 0:Nat)):Int):=by decide +kernel
 exact this ⟨x,h⟩
def tb (m:Bool) (key bs:List Nat):List Nat:=if m then turn key 0 bs else bs
theorem tb_length (m:Bool) (key bs:List Nat):(tb m key bs).length=bs.length:=by unfold tb;split<;>simp [turn_length]
theorem tb_small {m:Bool} {key bs:List Nat} (hk:Small 256 key) (h:Small 256 bs):Small 256 (tb m key bs):=by
 unfold tb;split
 ·exact turn_lt key 0 bs h (fun i=>hk.getD (by omega) i)
 ·exact h
set_option maxHeartbeats 1000000 in
theorem turned_any (fin:Bool) (op:Int) (m:Bool) (a b c d:Nat) (s:ByteArray) (g o n cap:Nat) (bs:List Nat) (w:World) (hk:Small 256 [a,b,c,d]) (hv:SrcAt w (.slice (some ⟨g,o,none⟩) n cap) bs) (hsm:Small 256 bs) (hn:bs.length=n) (hm:n≤100000) :
 Calls Tryz.prog 161 #[(.agg #[.bool fin,.int .i64 op,.bool m,.int .u8 ((a:Nat):Int),.int .u8 ((b:Nat):Int),.int .u8 ((c:Nat):Int),.int .u8 ((d:Nat):Int),.string s]),.slice (some ⟨g,o,none⟩) n cap] w fun e w'=>∃ g' o' cap',e=.returned (.slice (some ⟨g',o',none⟩) n cap')∧Sl (SrcAt w' (.slice (some ⟨g',o',none⟩) n cap') (tb m [a,b,c,d] bs))∧Sl (Below w.heap.size w w'):=by
 have HV:=Sl.mk hv
 obtain ⟨w1,hw1⟩:∃ w1,w.alloc (.cells #[.bool fin,.int .i64 op,.bool m,.int .u8 ((a:Nat):Int),.int .u8 ((b:Nat):Int),.int .u8 ((c:Nat):Int),.int .u8 ((d:Nat):Int),.string s] 61)=w1:=⟨_,rfl⟩
 have HB1:Sl (Below w.heap.size w w1):=⟨by rw [← hw1];exact (bx_below w _).out⟩
 have HY1:Sl (w1.heap[w.heap.size]? = some (.cells #[.bool fin,.int .i64 op,.bool m,.int .u8 ((a:Nat):Int),.int .u8 ((b:Nat):Int),.int .u8 ((c:Nat):Int),.int .u8 ((d:Nat):Int),.string s] 61 (0,0))):=⟨by rw [← hw1];exact bx_new _ _⟩
 have HV1:Sl (SrcAt w1 (.slice (some ⟨g,o,none⟩) n cap) bs):=⟨HV.out.below (Nat.le_refl _) HB1.out⟩
 obtain ⟨c0,c1,c2,c3,c4,c5,c6,c7⟩:=bx_cells HY1.out
 cases m with
 | true =>
   have C1:Calls Tryz.prog 170 #[.agg #[.int .u8 (a:Int),.int .u8 (b:Int),.int .u8 (c:Int),.int .u8 (d:Int)],.int .i64 0,.slice (some ⟨g,o,none⟩) n cap] w1 fun e w'=>∃ g,e=.returned (.slice (some ⟨g,0,none⟩) n n)∧Sl (RowB w' g (turn [a,b,c,d] (rest4 0) bs))∧Sl (Below w1.heap.size w1 w') :=
    apply_len [a,b,c,d] 0 _ bs n w1 rfl hk HV1.out hsm hm hn
   have HN:=Sl.mk hn
   clear hk hv hsm hn hm
   go_enter Tryz.func161,Tryz.ntmps161
   go_wp2_with fail
   refine C1.mono ?_
   rintro e w2 ⟨g2,rfl,HR,HX⟩
   have HB2:Sl (Below w.heap.size w w2):=⟨HB1.out.trans (HX.out.mono HB1.out.size)⟩
   have HRS:Sl (SrcAt w2 (.slice (some ⟨g2,0,none⟩) n n) (tb true [a,b,c,d] bs)):=⟨src_len HR.out.src (by rw [tb_length];exact HN.out)⟩
   clear HX HR C1
   go_wp2
   go_ret
   exact ⟨g2,0,n,rfl,HRS,HB2⟩
 | false =>
   clear hk hv hsm hn hm
   go_enter Tryz.func161,Tryz.ntmps161
   go_wp2
   go_ret
   exact ⟨g,o,cap,rfl,HV1,HB1⟩
end Go.Proofs.YtlahonjmfecikaaGreatDoor.Fra
set_option maxRecDepth 100000
namespace Go.Proofs.YtlahonjmfecikaaGreatDoor.Fra
open Go.RowKit MaskPlain FramePlain Mas
theorem wpList_app {P:Program} {ops:Array Oper} {rest:List Oper} {o:Oper} {a:Act} {Q:Exit→Act→World→Prop} {w:World} (hgd:o.guard=none) (s x:Operand) (t ty:TypeId)
 (ho:o.op=.call {callee:=.builtin .append,args:=#[s,x],argTypes:=#[t,t]}) (hty:o.type=ty) (v v':Value) (ad:Addr) (m c:Nat) (w':World)
 (hs:a.eval s=v) (hx:a.eval x=.slice (some ad) m c) (hrun:(Builtin.append_ #[t,t] ty #[v,.slice (some ad) m c]).run P w=.ok v' w')
 (h:wpList P ops Q rest (a.put o.dst v') w'):wpList P ops Q (o :: rest) a w:=by
 refine wpList_plain hgd fun K hK=>?_
 unfold Oper.wp
 have hy:(execOp a.eval o).run P w=.ok (.value v') w':=by
  rw [← hty] at hrun
  simp [execOp,ho,resolve,invoke,builtin,hs,hx,hrun,Result.andThen]
 rw [hy,Oper.upon_value]
 exact hK _ _ h
section
variable {P:Program} {md:Region.Mode} {ops:Array Oper} {Q:Exit→Act→World→Prop} {S:World→Prop}
theorem heldCA2 {fuel:Nat} {listed:Array Bool} {a:Act} {w:World} {di dj:Option Tmp} {opi opj:Op} {ti tj:TypeId} (i j:Nat) (vi:Value) (wi:World) (f:FuncId) (args:Array Value)
 (hi:opIsT ops i di opi none ti) (hj:opIsT ops j dj opj none tj) (hr:Region.ready md ops listed=[j,i])
 (yi:∀ o:Oper,o.op=opi→o.type=ti→(execOp a.eval o).run P w=.ok (.value vi) wi) (yj:∀ o:Oper,o.op=opj→o.type=tj→(execOp a.eval o).run P w=.ok (.enter f args) w) (hS:S wi)
 (h1:wpAnyH P md ops Q S fuel (listed.setIfInBounds i true) (a.put di vi) wi)
 (h2:Calls P f args w fun e w'=>∃ v,e=.returned v∧S w'∧wpAnyH P md ops Q S fuel (listed.setIfInBounds j true) (a.put dj v) w'):wpAnyH P md ops Q S (fuel+1) listed a w:=by
 obtain ⟨o,ho,hd,hop,hg,ht⟩:=op_ofT hi
 obtain ⟨o',ho',hd',hop',hg',ht'⟩:=op_ofT hj
 refine wpAnyH_all hr (by simp) (fun k hk=>?_)
 rcases List.mem_cons.1 hk with rfl | hk
 ·refine wpOp_step ho' (fun K hK=>?_)
  rw [if_pos (wanted_of hg' rfl)]
  unfold Oper.wp
  rw [yj o' hop' ht',Oper.upon_enter]
  refine h2.mono ?_
  rintro e w' ⟨v,rfl,hS',h'⟩
  rw [hd']
  exact hK _ _ ⟨hS',h'⟩
 ·rw [List.mem_singleton] at hk
  subst hk
  refine wpOp_step ho (fun K hK=>?_)
  rw [if_pos (wanted_of hg rfl)]
  unfold Oper.wp
  rw [yi o hop ht,Oper.upon_value,hd]
  exact hK _ _ ⟨hS,h1⟩
end
structure PS (w W:World) (bx:Array Value) (g n cap:Nat) (T:List Nat):Prop where
 B:Below w.heap.size w W
 X:W.heap[w.heap.size]? = some (.cells bx 61 (0,0))
 O:W.ownsRow (w.heap.size+1) 5 1 (.slice (some ⟨g,0,none⟩) n cap) n (u8s T)
 L:T.length=n
 M:Small 256 T
theorem PS.up {w W:World} {bx:Array Value} {g n cap:Nat} {T:List Nat} (h:PS w W bx g n cap T):w.heap.size+1≤W.heap.size:=(Array.getElem?_eq_some_iff.1 h.X).1
theorem PS.below {w W W':World} {bx:Array Value} {g n cap:Nat} {T:List Nat} (h:PS w W bx g n cap T) (k:Below W.heap.size W W'):PS w W' bx g n cap T :=
 ⟨h.B.trans (k.mono h.B.size),below_key h.X k,own_below h.O k,h.L,h.M⟩
theorem PS.add {w W:World} {bx:Array Value} {g n cap:Nat} {T:List Nat} (h:PS w W bx g n cap T) (n':Nat) {u:Value} {l:List Nat} (hs:SrcAt W u l) (hl:Small 256 l) (hm:n+l.length≤1000000) (hp:0<n+l.length) (hn:n+l.length=n') :
 ∃ g' cap' W',(Builtin.append_ #[49,49] 49 #[.slice (some ⟨g,0,none⟩) n cap,u]).run Tryz.prog W=.ok (.slice (some ⟨g',0,none⟩) n' cap') W'∧PS w W' bx g' n' cap' (T++l):=by
 have hT:=h.L
 subst hT
 obtain ⟨g',cap',W',hr,ho,hg⟩:=add_src (base:=w.heap.size+1) h.O hs hm h.up (by rw [List.length_append];exact hp)
 have hl2:(T++l).length=n':=by rw [List.length_append];exact hn
 rw [hl2] at hr ho
 refine ⟨g',cap',W',hr,h.B.grown hg h.B.size (fun k hk=>by have:=(h.O.lt k hk).1;omega),?_,ho,hl2,h.M.append hl⟩
 rw [hg.block _ (Array.getElem?_eq_some_iff.1 h.X).1 (fun e=>by have:=(h.O.lt _ e.symm).1;omega)]
 exact h.X
theorem PS.set {w W:World} {bx:Array Value} {g n cap:Nat} {T:List Nat} (h:PS w W bx g n cap T) {i x:Nat} (hx:x<256):PS w (W.setCell ⟨g,i,none⟩ (.int .u8 (x:Int))) bx g n cap (T.set i x):=by
 obtain ⟨h1,h2⟩:=h.O.stored i (.int .u8 (x:Int))
 have hb:=(h.O.lt g rfl).1
 refine ⟨h.B.grown h2 h.B.size (fun k hk=>by injection hk with hk;omega),?_,?_,by rw [List.length_set];exact h.L,fun y hy=>?_⟩
 ·rw [h2.block _ (Array.getElem?_eq_some_iff.1 h.X).1 (fun e=>by injection e with e;omega)];exact h.X
 ·rw [show u8s (T.set i x)=(u8s T).set i (.int .u8 (x:Int)) by simp [u8s,v8,List.map_set]];exact h1
 ·rcases List.mem_or_eq_of_mem_set hy with hy | rfl
  ·exact h.M y hy
  ·exact hx
theorem PS.cell {w W:World} {bx:Array Value} {g n cap:Nat} {T:List Nat} (h:PS w W bx g n cap T) {i:Nat} (hi:i<n):W.cell? ⟨g,i,none⟩=some (.int .u8 ((T.getD i 0:Nat):Int)):=by
 rw [h.O.cellAt i (by omega)];exact u8s_get T i (by rw [h.L];exact hi)
theorem PS.froz {w W:World} {bx:Array Value} {g n cap:Nat} {T:List Nat} (h:PS w W bx g n cap T) (i:Nat):W.frozen? ⟨g,i,none⟩=false:=h.O.frozenAt i
theorem PS.src {w W:World} {bx:Array Value} {g n cap:Nat} {T:List Nat} (h:PS w W bx g n cap T):SrcAt W (.slice (some ⟨g,0,none⟩) n cap) T:=by
 have hT:=h.L
 subst hT
 rcases h.O.2 with ⟨h',_⟩ | ⟨g',cap',cur,h',_,hg,hn,_,_,ht⟩
 ·cases h'
 ·simp only [Value.slice.injEq,Option.some.injEq,Addr.mk.injEq,and_true,true_and] at h'
  obtain ⟨rfl,rfl⟩:=h'
  exact ⟨_,cap,g,0,rfl,hn,fun _=>rfl,fun i hi=>by rw [Nat.zero_add];exact h.cell hi⟩
theorem key_src {W:World} {B a b c d:Nat} (h3:W.cell? ⟨B,3,none⟩=some (.int .u8 (a:Int))) (h4:W.cell? ⟨B,4,none⟩=some (.int .u8 (b:Int))) (h5:W.cell? ⟨B,5,none⟩=some (.int .u8 (c:Int))) (h6:W.cell? ⟨B,6,none⟩=some (.int .u8 (d:Int))):SrcAt W (.slice (some ⟨B,3,none⟩) 4 4) [a,b,c,d] :=
 ⟨_,4,B,3,rfl,Nat.le_refl _,fun _=>rfl,fun i hi=>by
  match i,hi with
  | 0,_=>exact h3
  | 1,_=>exact h4
  | 2,_=>exact h5
  | 3,_=>exact h6⟩
theorem text_mask (f:Fr) {b0:Nat} {L:List Nat} (l:Nat) (hm:f.masked=true) (hb:byte0 f=b0) (hL:lenB f.data.length=L) (hl:L.getD 0 0=l) (hn:0<L.length):text f=((([b0]++L).set 1 (l+128))++f.key)++tb true f.key f.data:=by
 unfold text headB tb
 rw [if_pos hm,if_pos hm,if_pos rfl,hb,hL,hl]
 cases L with
 | nil=>cases hn
 | cons x xs=>simp
theorem text_bare (f:Fr) {b0:Nat} {L:List Nat} (hm:f.masked=false) (hb:byte0 f=b0) (hL:lenB f.data.length=L):text f=([b0]++L)++tb false f.key f.data:=by
 unfold text headB tb
 rw [hm,hb,hL]
 simp
theorem PS.fresh {w W:World} {bx:Array Value} {g n cap:Nat} {T:List Nat} (h:PS w W bx g n cap T):w.heap.size≤g:=by
 rcases h.O.2 with ⟨e,_⟩ | ⟨k,c,cur,e,hb,_⟩
 ·cases e
 ·injection e with e1
  injection e1 with e1
  injection e1 with e2 _
  omega
set_option maxHeartbeats 4000000 in
theorem putf_new (fin:Bool) (k:Nat) (m:Bool) (a b c d:Nat) (s:ByteArray) (n:Nat) (w:World) (hg:Globs w) (hk:Small 256 [a,b,c,d]) (hc:chk (⟨fin,(k:Int),m,[a,b,c,d],bytes s⟩:Fr)=0) (hn:size (⟨fin,(k:Int),m,[a,b,c,d],bytes s⟩:Fr)=n) :
 Calls Tryz.prog 147 #[(.agg #[.bool fin,.int .i64 (k:Int),.bool m,.int .u8 ((a:Nat):Int),.int .u8 ((b:Nat):Int),.int .u8 ((c:Nat):Int),.int .u8 ((d:Nat):Int),.string s])] w fun e w'=>∃ g cap,e=.returned (.tuple #[.slice (some ⟨g,0,none⟩) n cap,.int .i64 0])∧Sl (SrcAt w' (.slice (some ⟨g,0,none⟩) n cap) (text (⟨fin,(k:Int),m,[a,b,c,d],bytes s⟩:Fr)))∧Sl (Below w.heap.size w w')∧w.heap.size≤g:=by
 have HG:=Sl.mk hg
 have HKS:=Sl.mk hk
 obtain ⟨hform,hln⟩:=chk_ok hc
 have hln:s.size≤65536:=by simpa only [bytes_length] using hln
 have HLN:=Sl.mk hln
 have hfc:=form_cases hform
 have hk10:k≤10:=by have:=hfc.1;simp only at this;omega
 have C13:∀ W,Calls Tryz.prog 110 #[(.agg #[.bool fin,.int .i64 (k:Int),.bool m,.int .u8 ((a:Nat):Int),.int .u8 ((b:Nat):Int),.int .u8 ((c:Nat):Int),.int .u8 ((d:Nat):Int),.string s])] W fun e w'=>e=.returned (.int .i64 0)∧Sl (Below W.heap.size W w'):=fun W=>by have:=check_any fin (k:Int) m a b c d s W hk;rw [hc] at this;exact this
 have hF:=size_parts fin (k:Int) m a b c d s (by omega)
 have C18:∀ W,Globs W→Calls Tryz.prog 164 #[(.agg #[.bool fin,.int .i64 (k:Int),.bool m,.int .u8 ((a:Nat):Int),.int .u8 ((b:Nat):Int),.int .u8 ((c:Nat):Int),.int .u8 ((d:Nat):Int),.string s])] W fun e w'=>e=.returned (.int .i64 (n:Int))∧Sl (Below W.heap.size W w'):=fun W hW=>by have:=size_any fin (k:Int) m a b c d s W hW (by omega);rw [hn] at this;exact this
 have HB0:Sl (byte0 (⟨fin,(k:Int),m,[a,b,c,d],bytes s⟩:Fr)=k+if fin then 128 else 0):=⟨rfl⟩
 have hle:=lenB_le s.size (by omega)
 have HLs:=lenB_small (n:=s.size) (by omega)
 have hlow:=(lenB_low (n:=s.size) (by omega)).1
 have hpos:0<(lenB s.size).length:=by rw [lenB_length (by omega)];split<;>(try split)<;>omega
 obtain ⟨L,hL⟩:∃ L,lenB s.size=L:=⟨_,rfl⟩
 have HLB:=Sl.mk hL
 rw [hL] at hle HLs hlow hF hpos
 have HLS:Sl (Small 256 L):=⟨HLs⟩
 obtain ⟨l0,hl0e⟩:∃ l0,L.getD 0 0=l0:=⟨_,rfl⟩
 have HL0:=Sl.mk hl0e
 rw [hl0e] at hlow
 have hl0:=hlow
 have HPOS:=Sl.mk hpos
 obtain ⟨n5,hn5⟩:∃ n5,1+L.length=n5:=⟨_,rfl⟩
 rw [hn] at hF
 have HF:Sl (n=n5+ksz m+s.size):=⟨by rw [hF,hn5]⟩
 have hks:ksz m≤4:=by unfold ksz;split<;>omega
 have hN:n≤100000:=by omega
 have hn5b:n5≤10∧2≤n5:=by omega
 have HSMK:Small 256 [k]:=fun x hx=>by simp at hx;omega
 have hwk:IntKind.u8.wrap (k:Int)=(k:Int):=by rw [IntKind.wrap_u8];omega
 clear hg hk hform hln hfc hc hF hle HLs hlow hl0e hL
 obtain ⟨N,hNe⟩:∃ N,N=n:=⟨_,rfl⟩
 obtain ⟨w1,hw1⟩:∃ w1,w.alloc (.cells #[.bool fin,.int .i64 (k:Int),.bool m,.int .u8 ((a:Nat):Int),.int .u8 ((b:Nat):Int),.int .u8 ((c:Nat):Int),.int .u8 ((d:Nat):Int),.string s] 61)=w1:=⟨_,rfl⟩
 have HB1:Sl (Below w.heap.size w w1):=⟨by rw [← hw1];exact (bx_below w _).out⟩
 have HY1:Sl (w1.heap[w.heap.size]? = some (.cells #[.bool fin,.int .i64 (k:Int),.bool m,.int .u8 ((a:Nat):Int),.int .u8 ((b:Nat):Int),.int .u8 ((c:Nat):Int),.int .u8 ((d:Nat):Int),.string s] 61 (0,0))):=⟨by rw [← hw1];exact bx_new _ _⟩
 have HZ:Sl (w.heap.size<w1.heap.size):=⟨(Array.getElem?_eq_some_iff.1 HY1.out).1⟩
 obtain ⟨p0,p1,p2,p3,p4,p5,p6,p7⟩:=bx_cells HY1.out
 go_enter Tryz.func147,Tryz.ntmps147
 go_wp2_with fail
 refine (C13 _).mono ?_
 rintro e w2 ⟨rfl,HX2⟩
 have HB2:Sl (Below w.heap.size w w2):=⟨HB1.out.trans (HX2.out.mono HB1.out.size)⟩
 have HY2:Sl (w2.heap[w.heap.size]? = some (.cells #[.bool fin,.int .i64 (k:Int),.bool m,.int .u8 ((a:Nat):Int),.int .u8 ((b:Nat):Int),.int .u8 ((c:Nat):Int),.int .u8 ((d:Nat):Int),.string s] 61 (0,0))):=⟨below_key HY1.out HX2.out⟩
 clear HX2 HB1 HY1 hw1 C13 p0 p1 p2 p3 p4 p5 p6 p7
 go_upto_region 4 with fail
 go_cut [5] (fun s5 wx=>∃ g cap,s5=.slice (some ⟨g,0,none⟩) 1 cap∧Sl (PS w wx #[.bool fin,.int .i64 (k:Int),.bool m,.int .u8 ((a:Nat):Int),.int .u8 ((b:Nat):Int),.int .u8 ((c:Nat):Int),.int .u8 ((d:Nat):Int),.string s] g 1 cap [k]))
 case first =>
  subst hNe
  obtain ⟨R,hR⟩:∃ R,w2.drew=R:=⟨_,rfl⟩
  have HS0:Below w.heap.size w R∧R.heap[w.heap.size]? = some (.cells #[.bool fin,.int .i64 (k:Int),.bool m,.int .u8 ((a:Nat):Int),.int .u8 ((b:Nat):Int),.int .u8 ((c:Nat):Int),.int .u8 ((d:Nat):Int),.string s] 61 (0,0)):=⟨by rw [← hR];exact HB2.out.drew,by rw [← hR];exact HY2.out⟩
  refine wp_region_noPanic ?_
  refine wp_region_held (S:=fun W=>Below w.heap.size w W∧W.heap[w.heap.size]? = some (.cells #[.bool fin,.int .i64 (k:Int),.bool m,.int .u8 ((a:Nat):Int),.int .u8 ((b:Nat):Int),.int .u8 ((c:Nat):Int),.int .u8 ((d:Nat):Int),.string s] 61 (0,0))) (by kernel_rfl) ?_
  change wpAnyH _ _ _ _ _ _ _ _ w2.drew
  rw [hR]
  clear hR
  refine heldTake (d:=some 11) (op:=.load 61 (Operand.tmp 1)) (g:=none) 0 ((.agg #[.bool fin,.int .i64 (k:Int),.bool m,.int .u8 ((a:Nat):Int),.int .u8 ((b:Nat):Int),.int .u8 ((c:Nat):Int),.int .u8 ((d:Nat):Int),.string s])) rfl (by kernel_rfl) (by kernel_rfl) (by kernel_rfl) (by kernel_rfl) ?y0 HS0 ?_
  case y0=>intro o' ho W hS;exact loadbox ho (by rfl) hS.2
  simp only [Act.put,List.setIfInBounds_toArray,List.set_cons_zero,List.set_cons_succ]
  refine heldTake (d:=some 14) (op:=.fieldAddr 61 (Operand.tmp 1) 1) (g:=none) 3 ?v3 rfl (by kernel_rfl) (by kernel_rfl) (by kernel_rfl) (by kernel_rfl) ?y3 HS0 ?_
  case y3=>intro o' ho W hS;simp only [execOp,ho];go_simp;try rfl
  simp only [Act.put,List.setIfInBounds_toArray,List.set_cons_zero,List.set_cons_succ]
  refine heldTake (d:=some 15) (op:=.load 3 (Operand.tmp 14)) (g:=none) 4 ?v4 rfl (by kernel_rfl) (by kernel_rfl) (by kernel_rfl) (by kernel_rfl) ?y4 HS0 ?_
  case y4=>intro o' ho W hS;obtain ⟨c0,c1,c2,c3,c4,c5,c6,c7⟩:=bx_cells hS.2;simp only [execOp,ho];go_simp;try rfl
  simp only [Act.put,List.setIfInBounds_toArray,List.set_cons_zero,List.set_cons_succ]
  refine heldTake (d:=some 16) (op:=.convert 3 5 (Operand.tmp 15)) (g:=none) 5 ?v5 rfl (by kernel_rfl) (by kernel_rfl) (by kernel_rfl) (by kernel_rfl) ?y5 HS0 ?_
  case y5=>intro o' ho W hS;simp only [execOp,ho];go_simp;try rfl
  simp only [Act.put,List.setIfInBounds_toArray,List.set_cons_zero,List.set_cons_succ]
  obtain ⟨A,hA⟩:∃ A,R.alloc (.cells #[.int .u8 (k:Int)] 5)=A:=⟨_,rfl⟩
  have HRA:RowB A R.heap.size [k]:=by rw [← hA];exact rowB_new R [k]
  have BA:Below R.heap.size R A:=by rw [← hA];exact (Below.refl _ _).alloc (Nat.le_refl _) _
  have HSA:Below w.heap.size w A∧A.heap[w.heap.size]? = some (.cells #[.bool fin,.int .i64 (k:Int),.bool m,.int .u8 ((a:Nat):Int),.int .u8 ((b:Nat):Int),.int .u8 ((c:Nat):Int),.int .u8 ((d:Nat):Int),.string s] 61 (0,0)):=⟨HS0.1.trans (BA.mono HS0.1.size),below_key HS0.2 BA⟩
  refine heldCA2 (di:=some 17) (opi:=.buildSlice 49 1 #[(0,Operand.tmp 16)]) (dj:=some 12) (opj:=.call {callee:=Callee.value (Operand.func 164),args:=#[Operand.tmp 11],argTypes:=#[61]}) (ti:=49) (tj:=3) 6 1 (.slice (some ⟨R.heap.size,0,none⟩) 1 1) A 164 #[(.agg #[.bool fin,.int .i64 (k:Int),.bool m,.int .u8 ((a:Nat):Int),.int .u8 ((b:Nat):Int),.int .u8 ((c:Nat):Int),.int .u8 ((d:Nat):Int),.string s])] rfl rfl (by kernel_rfl) ?y6a ?y1a HSA ?first ?second
  case y6a=>intro o' ho ht;simp only [execOp,ho];go_simp;first | done | rw [hA] | rfl
  case y1a=>intro o' ho ht;simp only [execOp,ho];go_simp;try rfl
  case first =>
   simp only [Act.put,List.setIfInBounds_toArray,List.set_cons_zero,List.set_cons_succ]
   refine heldCall (d:=some 12) (op:=.call {callee:=Callee.value (Operand.func 164),args:=#[Operand.tmp 11],argTypes:=#[61]}) (g:=none) 1 164 #[(.agg #[.bool fin,.int .i64 (k:Int),.bool m,.int .u8 ((a:Nat):Int),.int .u8 ((b:Nat):Int),.int .u8 ((c:Nat):Int),.int .u8 ((d:Nat):Int),.string s])] rfl (by kernel_rfl) (by kernel_rfl) ?y1p ?_
   case y1p=>intro o' ho;simp only [execOp,ho];go_simp;try rfl
   refine (C18 A (HG.out.below HSA.1 HG.out.size)).mono ?_
   rintro e X ⟨rfl,HXX⟩
   have HSX:Below w.heap.size w X∧X.heap[w.heap.size]? = some (.cells #[.bool fin,.int .i64 (k:Int),.bool m,.int .u8 ((a:Nat):Int),.int .u8 ((b:Nat):Int),.int .u8 ((c:Nat):Int),.int .u8 ((d:Nat):Int),.string s] 61 (0,0)):=⟨HSA.1.trans (HXX.out.mono HSA.1.size),below_key HSA.2 HXX.out⟩
   refine ⟨_,rfl,HSX,?_⟩
   simp only [Act.put,List.setIfInBounds_toArray,List.set_cons_zero,List.set_cons_succ]
   obtain ⟨Y,hY⟩:∃ Y,X.alloc (.cells (u8s (zs N)).toArray 5)=Y:=⟨_,rfl⟩
   have hmkY:=make_cap (N:Int) N rfl (by omega) X
   rw [hY] at hmkY
   have HPM:PS w Y #[.bool fin,.int .i64 (k:Int),.bool m,.int .u8 ((a:Nat):Int),.int .u8 ((b:Nat):Int),.int .u8 ((c:Nat):Int),.int .u8 ((d:Nat):Int),.string s] X.heap.size 0 N []:=⟨by rw [← hY];exact HSX.1.alloc HSX.1.size _,by rw [← hY,alloc_old _ _ _ (Array.getElem?_eq_some_iff.1 HSX.2).1];exact HSX.2,by rw [← hY];exact cap_own X _ N (Array.getElem?_eq_some_iff.1 HSX.2).1 (by omega),rfl,fun x hx=>by cases hx⟩
   have HSY:Below w.heap.size w Y∧Y.heap[w.heap.size]? = some (.cells #[.bool fin,.int .i64 (k:Int),.bool m,.int .u8 ((a:Nat):Int),.int .u8 ((b:Nat):Int),.int .u8 ((c:Nat):Int),.int .u8 ((d:Nat):Int),.string s] 61 (0,0)):=⟨HPM.B,HPM.X⟩
   refine heldRunT (d:=some 13) (op:=.makeSlice 49 (Operand.const (Value.int IntKind.i64 0)) (Operand.tmp 12)) (g:=none) (t:=49) 2 (.slice (some ⟨X.heap.size,0,none⟩) 0 N) Y rfl (by kernel_rfl) (by kernel_rfl) ?y2p HSY ?_
   case y2p=>intro o' ho ht;simp only [execOp,ho,Sem.run_bind,Sem.run_pure];refine (congrArg (fun r=>Result.andThen r _) hmkY).trans ?_;rfl
   simp only [Act.put,List.setIfInBounds_toArray,List.set_cons_zero,List.set_cons_succ]
   have HSK:SrcAt Y (.slice (some ⟨R.heap.size,0,none⟩) 1 1) [k]:=((HRA.below HXX.out).below (by rw [← hY];exact (Below.refl _ _).alloc (Nat.le_refl _) _)).src
   obtain ⟨gz,capz,Z,hrz,HPZ⟩:=HPM.add 1 HSK HSMK (by simp) (by simp) rfl
   have HSZ:Below w.heap.size w Z∧Z.heap[w.heap.size]? = some (.cells #[.bool fin,.int .i64 (k:Int),.bool m,.int .u8 ((a:Nat):Int),.int .u8 ((b:Nat):Int),.int .u8 ((c:Nat):Int),.int .u8 ((d:Nat):Int),.string s] 61 (0,0)):=⟨HPZ.B,HPZ.X⟩
   refine heldRunT (d:=some 18) (op:=.call {callee:=Callee.builtin Builtin.append,args:=#[Operand.tmp 13,Operand.tmp 17],argTypes:=#[49,49]}) (g:=none) (t:=49) 7 (.slice (some ⟨gz,0,none⟩) 1 capz) Z rfl (by kernel_rfl) (by kernel_rfl) ?y7p HSZ ?_
   case y7p=>intro o' ho ht;simp only [execOp,ho,ht,resolve,invoke,builtin,Sem.run_bind,Sem.run_pure,Result.andThen_ok,List.map_toArray,List.map_cons,List.map_nil];refine (congrArg (fun r=>Result.andThen r _) hrz).trans ?_;rfl
   simp only [Act.put,List.setIfInBounds_toArray,List.set_cons_zero,List.set_cons_succ]
   refine heldTake (d:=some 5) (op:=.assign (Operand.tmp 18)) (g:=none) 8 ?v8p rfl (by kernel_rfl) (by kernel_rfl) (by kernel_rfl) (by kernel_rfl) ?y8p HSZ ?_
   case y8p=>intro o' ho W hS;simp only [execOp,ho];go_simp;try rfl
   simp only [Act.put,List.setIfInBounds_toArray,List.set_cons_zero,List.set_cons_succ]
   refine wpAnyH_done (by kernel_rfl) ?_ _
   refine NoPanic.normal ?_
   go_wp2_with fail
   go_meet
   exact ⟨gz,capz,rfl,⟨HPZ⟩⟩
  case second =>
   refine (C18 R (HG.out.below HS0.1 HG.out.size)).mono ?_
   rintro e X ⟨rfl,HXX⟩
   have HSX:Below w.heap.size w X∧X.heap[w.heap.size]? = some (.cells #[.bool fin,.int .i64 (k:Int),.bool m,.int .u8 ((a:Nat):Int),.int .u8 ((b:Nat):Int),.int .u8 ((c:Nat):Int),.int .u8 ((d:Nat):Int),.string s] 61 (0,0)):=⟨HS0.1.trans (HXX.out.mono HS0.1.size),below_key HS0.2 HXX.out⟩
   refine ⟨_,rfl,HSX,?_⟩
   simp only [Act.put,List.setIfInBounds_toArray,List.set_cons_zero,List.set_cons_succ]
   obtain ⟨Y,hY⟩:∃ Y,X.alloc (.cells (u8s (zs N)).toArray 5)=Y:=⟨_,rfl⟩
   have hmkY:=make_cap (N:Int) N rfl (by omega) X
   rw [hY] at hmkY
   have HPM:PS w Y #[.bool fin,.int .i64 (k:Int),.bool m,.int .u8 ((a:Nat):Int),.int .u8 ((b:Nat):Int),.int .u8 ((c:Nat):Int),.int .u8 ((d:Nat):Int),.string s] X.heap.size 0 N []:=⟨by rw [← hY];exact HSX.1.alloc HSX.1.size _,by rw [← hY,alloc_old _ _ _ (Array.getElem?_eq_some_iff.1 HSX.2).1];exact HSX.2,by rw [← hY];exact cap_own X _ N (Array.getElem?_eq_some_iff.1 HSX.2).1 (by omega),rfl,fun x hx=>by cases hx⟩
   have HSY:Below w.heap.size w Y∧Y.heap[w.heap.size]? = some (.cells #[.bool fin,.int .i64 (k:Int),.bool m,.int .u8 ((a:Nat):Int),.int .u8 ((b:Nat):Int),.int .u8 ((c:Nat):Int),.int .u8 ((d:Nat):Int),.string s] 61 (0,0)):=⟨HPM.B,HPM.X⟩
   obtain ⟨B,hB⟩:∃ B,X.alloc (.cells #[.int .u8 (k:Int)] 5)=B:=⟨_,rfl⟩
   have HRB:RowB B X.heap.size [k]:=by rw [← hB];exact rowB_new X [k]
   have BB:Below X.heap.size X B:=by rw [← hB];exact (Below.refl _ _).alloc (Nat.le_refl _) _
   have HSB:Below w.heap.size w B∧B.heap[w.heap.size]? = some (.cells #[.bool fin,.int .i64 (k:Int),.bool m,.int .u8 ((a:Nat):Int),.int .u8 ((b:Nat):Int),.int .u8 ((c:Nat):Int),.int .u8 ((d:Nat):Int),.string s] 61 (0,0)):=⟨HSX.1.trans (BB.mono HSX.1.size),below_key HSX.2 BB⟩
   refine heldTwo (di:=some 13) (opi:=.makeSlice 49 (Operand.const (Value.int IntKind.i64 0)) (Operand.tmp 12)) (gi:=none) (ti:=49) (dj:=some 17) (opj:=.buildSlice 49 1 #[(0,Operand.tmp 16)]) (gj:=none) (tj:=49) 2 6 (.slice (some ⟨X.heap.size,0,none⟩) 0 N) Y (.slice (some ⟨X.heap.size,0,none⟩) 1 1) B rfl rfl (by kernel_rfl) (by kernel_rfl) (by kernel_rfl) ?y2t ?y6t HSY HSB ?t1 ?t2
   case y2t=>intro o' ho ht;simp only [execOp,ho,Sem.run_bind,Sem.run_pure];refine (congrArg (fun r=>Result.andThen r _) hmkY).trans ?_;rfl
   case y6t=>intro o' ho ht;simp only [execOp,ho];go_simp;first | done | rw [hB] | rfl
   case t1 =>
    simp only [Act.put,List.setIfInBounds_toArray,List.set_cons_zero,List.set_cons_succ]
    obtain ⟨C,hC⟩:∃ C,Y.alloc (.cells #[.int .u8 (k:Int)] 5)=C:=⟨_,rfl⟩
    have HSK:SrcAt C (.slice (some ⟨Y.heap.size,0,none⟩) 1 1) [k]:=by rw [← hC];exact (rowB_new Y [k]).src
    have BC:Below Y.heap.size Y C:=by rw [← hC];exact (Below.refl _ _).alloc (Nat.le_refl _) _
    replace HPM:=HPM.below BC
    have HSC:Below w.heap.size w C∧C.heap[w.heap.size]? = some (.cells #[.bool fin,.int .i64 (k:Int),.bool m,.int .u8 ((a:Nat):Int),.int .u8 ((b:Nat):Int),.int .u8 ((c:Nat):Int),.int .u8 ((d:Nat):Int),.string s] 61 (0,0)):=⟨HPM.B,HPM.X⟩
    refine heldRunT (d:=some 17) (op:=.buildSlice 49 1 #[(0,Operand.tmp 16)]) (g:=none) (t:=49) 6 (.slice (some ⟨Y.heap.size,0,none⟩) 1 1) C rfl (by kernel_rfl) (by kernel_rfl) ?y6u HSC ?_
    case y6u=>intro o' ho _;simp only [execOp,ho];go_simp;first | done | rw [hC] | rfl
    simp only [Act.put,List.setIfInBounds_toArray,List.set_cons_zero,List.set_cons_succ]
    obtain ⟨gz,capz,Z,hrz,HPZ⟩:=HPM.add 1 HSK HSMK (by simp) (by simp) rfl
    have HSZ:Below w.heap.size w Z∧Z.heap[w.heap.size]? = some (.cells #[.bool fin,.int .i64 (k:Int),.bool m,.int .u8 ((a:Nat):Int),.int .u8 ((b:Nat):Int),.int .u8 ((c:Nat):Int),.int .u8 ((d:Nat):Int),.string s] 61 (0,0)):=⟨HPZ.B,HPZ.X⟩
    refine heldRunT (d:=some 18) (op:=.call {callee:=Callee.builtin Builtin.append,args:=#[Operand.tmp 13,Operand.tmp 17],argTypes:=#[49,49]}) (g:=none) (t:=49) 7 (.slice (some ⟨gz,0,none⟩) 1 capz) Z rfl (by kernel_rfl) (by kernel_rfl) ?y7u HSZ ?_
    case y7u=>intro o' ho ht;simp only [execOp,ho,ht,resolve,invoke,builtin,Sem.run_bind,Sem.run_pure,Result.andThen_ok,List.map_toArray,List.map_cons,List.map_nil];refine (congrArg (fun r=>Result.andThen r _) hrz).trans ?_;rfl
    simp only [Act.put,List.setIfInBounds_toArray,List.set_cons_zero,List.set_cons_succ]
    refine heldTake (d:=some 5) (op:=.assign (Operand.tmp 18)) (g:=none) 8 ?v8u rfl (by kernel_rfl) (by kernel_rfl) (by kernel_rfl) (by kernel_rfl) ?y8u HSZ ?_
    case y8u=>intro o' ho W hS;simp only [execOp,ho];go_simp;try rfl
    simp only [Act.put,List.setIfInBounds_toArray,List.set_cons_zero,List.set_cons_succ]
    refine wpAnyH_done (by kernel_rfl) ?_ _
    refine NoPanic.normal ?_
    go_wp2_with fail
    go_meet
    exact ⟨gz,capz,rfl,⟨HPZ⟩⟩
   case t2 =>
    simp only [Act.put,List.setIfInBounds_toArray,List.set_cons_zero,List.set_cons_succ]
    clear HPM HSY hmkY hY
    clear Y
    obtain ⟨Y,hY⟩:∃ Y,B.alloc (.cells (u8s (zs N)).toArray 5)=Y:=⟨_,rfl⟩
    have hmkY:=make_cap (N:Int) N rfl (by omega) B
    rw [hY] at hmkY
    have HPM:PS w Y #[.bool fin,.int .i64 (k:Int),.bool m,.int .u8 ((a:Nat):Int),.int .u8 ((b:Nat):Int),.int .u8 ((c:Nat):Int),.int .u8 ((d:Nat):Int),.string s] B.heap.size 0 N []:=⟨by rw [← hY];exact HSB.1.alloc HSB.1.size _,by rw [← hY,alloc_old _ _ _ (Array.getElem?_eq_some_iff.1 HSB.2).1];exact HSB.2,by rw [← hY];exact cap_own B _ N (Array.getElem?_eq_some_iff.1 HSB.2).1 (by omega),rfl,fun x hx=>by cases hx⟩
    have HSY:Below w.heap.size w Y∧Y.heap[w.heap.size]? = some (.cells #[.bool fin,.int .i64 (k:Int),.bool m,.int .u8 ((a:Nat):Int),.int .u8 ((b:Nat):Int),.int .u8 ((c:Nat):Int),.int .u8 ((d:Nat):Int),.string s] 61 (0,0)):=⟨HPM.B,HPM.X⟩
    refine heldRunT (d:=some 13) (op:=.makeSlice 49 (Operand.const (Value.int IntKind.i64 0)) (Operand.tmp 12)) (g:=none) (t:=49) 2 (.slice (some ⟨B.heap.size,0,none⟩) 0 N) Y rfl (by kernel_rfl) (by kernel_rfl) ?y2v HSY ?_
    case y2v=>intro o' ho ht;simp only [execOp,ho,Sem.run_bind,Sem.run_pure];refine (congrArg (fun r=>Result.andThen r _) hmkY).trans ?_;rfl
    simp only [Act.put,List.setIfInBounds_toArray,List.set_cons_zero,List.set_cons_succ]
    have HSK:SrcAt Y (.slice (some ⟨X.heap.size,0,none⟩) 1 1) [k]:=(HRB.below (by rw [← hY];exact (Below.refl _ _).alloc (Nat.le_refl _) _)).src
    obtain ⟨gz,capz,Z,hrz,HPZ⟩:=HPM.add 1 HSK HSMK (by simp) (by simp) rfl
    have HSZ:Below w.heap.size w Z∧Z.heap[w.heap.size]? = some (.cells #[.bool fin,.int .i64 (k:Int),.bool m,.int .u8 ((a:Nat):Int),.int .u8 ((b:Nat):Int),.int .u8 ((c:Nat):Int),.int .u8 ((d:Nat):Int),.string s] 61 (0,0)):=⟨HPZ.B,HPZ.X⟩
    refine heldRunT (d:=some 18) (op:=.call {callee:=Callee.builtin Builtin.append,args:=#[Operand.tmp 13,Operand.tmp 17],argTypes:=#[49,49]}) (g:=none) (t:=49) 7 (.slice (some ⟨gz,0,none⟩) 1 capz) Z rfl (by kernel_rfl) (by kernel_rfl) ?y7v HSZ ?_
    case y7v=>intro o' ho ht;simp only [execOp,ho,ht,resolve,invoke,builtin,Sem.run_bind,Sem.run_pure,Result.andThen_ok,List.map_toArray,List.map_cons,List.map_nil];refine (congrArg (fun r=>Result.andThen r _) hrz).trans ?_;rfl
    simp only [Act.put,List.setIfInBounds_toArray,List.set_cons_zero,List.set_cons_succ]
    refine heldTake (d:=some 5) (op:=.assign (Operand.tmp 18)) (g:=none) 8 ?v8v rfl (by kernel_rfl) (by kernel_rfl) (by kernel_rfl) (by kernel_rfl) ?y8v HSZ ?_
    case y8v=>intro o' ho W hS;simp only [execOp,ho];go_simp;try rfl
    simp only [Act.put,List.setIfInBounds_toArray,List.set_cons_zero,List.set_cons_succ]
    refine wpAnyH_done (by kernel_rfl) ?_ _
    refine NoPanic.normal ?_
    go_wp2_with fail
    go_meet
    exact ⟨gz,capz,rfl,⟨HPZ⟩⟩
 case rest =>
  obtain ⟨g,cap,rfl,HP1⟩:=hcut
  clear HB2 HY2 C18 HSMK hwk
  obtain ⟨c0,c1,c2,c3,c4,c5,c6,c7⟩:=bx_cells HP1.out.X
  by_cases hfin:fin=true
  ·have HBY:Sl (byte0 (⟨fin,(k:Int),m,[a,b,c,d],bytes s⟩:Fr)=(k+128)):=⟨by rw [HB0.out,hfin];rfl⟩
   rw [hfin] at c0
   have q0:=HP1.out.cell (i:=0) (by decide)
   have z0:=HP1.out.froz 0
   have hor:=or_128 k (by omega)
   obtain ⟨w3,hw3⟩:∃ W,wc.setCell ⟨g,0,none⟩ (.int .u8 ((k:Int)+128))=W:=⟨_,rfl⟩
   have HP2:Sl (PS w w3 #[.bool fin,.int .i64 (k:Int),.bool m,.int .u8 ((a:Nat):Int),.int .u8 ((b:Nat):Int),.int .u8 ((c:Nat):Int),.int .u8 ((d:Nat):Int),.string s] g 1 cap [k+128]):=⟨by have hs:=HP1.out.set (i:=0) (x:=k+128) (by omega);rw [Int.natCast_add] at hs;rw [← hw3];exact hs⟩
   obtain ⟨e0,e1,e2,e3,e4,e5,e6,e7⟩:=bx_cells HP2.out.X
   go_wp2_with fail
   refine (lenbytes_any _ _ _ a b c d s L.length _ (HG.out.below HP2.out.B HG.out.size) (by have:=HLN.out;omega) (by rw [HLB.out])).mono ?_
   rintro e w4 ⟨gl,capl,rfl,HSL,HX4⟩
   rw [HLB.out] at HSL
   have HP3:=Sl.mk (HP2.out.below HX4.out)
   obtain ⟨g5,cap5,w5,hr5,HP5⟩:=HP3.out.add n5 HSL.out HLS.out (by omega) (by omega) hn5
   replace HP5:=Sl.mk HP5
   clear HP3 HX4 HSL HP2 hw3 q0 z0 hor
   obtain ⟨f0,f1,f2,f3,f4,f5,f6,f7⟩:=bx_cells HP5.out.X
   by_cases hm:m=true
   ·rw [hm] at f2
    have q1:w5.cell? ⟨g5,1,none⟩=some (.int .u8 ((l0:Nat):Int)):=by
     rw [HP5.out.cell (i:=1) (by omega)]
     show some (Value.int .u8 ((L.getD 0 0:Nat):Int))=_
     rw [HL0.out]
    have z1:=HP5.out.froz 1
    have hor:=or_128 l0 hl0
    have h15:1<n5:=by omega
    obtain ⟨w6,hw6⟩:∃ W,w5.setCell ⟨g5,1,none⟩ (.int .u8 ((l0:Int)+128))=W:=⟨_,rfl⟩
    have HP6:=Sl.mk (HP5.out.set (i:=1) (x:=l0+128) (by omega))
    rw [Int.natCast_add,show ((128:Nat):Int)=128 from rfl,hw6] at HP6
    obtain ⟨j0,j1,j2,j3,j4,j5,j6,j7⟩:=bx_cells HP6.out.X
    obtain ⟨g7,cap7,w7,hr7,HP7⟩:=HP6.out.add (n5+4) (u:=.slice (some ⟨w.heap.size,3,none⟩) 4 4) (l:=[a,b,c,d]) (key_src j3 j4 j5 j6) HKS.out (by show n5+4≤_;omega) (by show 0<n5+4;omega) rfl
    replace HP7:=Sl.mk HP7
    obtain ⟨h0,h1,h2,h3,h4,h5,h6,h7⟩:=bx_cells HP7.out.X
    rw [hm] at h2
    obtain ⟨capc,w8,hcv,HS8,HX8⟩:=conv_str s w7
    have HP8:=Sl.mk (HP7.out.below HX8.out)
    clear HP7
    go_wp2_with (at_builtin;first | (refine wpList_app rfl (.tmp 26) (.tmp 28) 49 49 rfl rfl _ _ ⟨gl,0,none⟩ L.length capl w5 rfl rfl hr5 ?_) | (refine wpList_app rfl (.tmp 37) (.tmp 39) 49 49 rfl rfl _ _ ⟨w.heap.size,3,none⟩ 4 4 w7 rfl rfl hr7 ?_))
    clear hr5 hr7 HP6 HP5 q1 z1 hor hw6
    refine (turned_any _ _ _ a b c d s w7.heap.size 0 s.size capc (bytes s) w8 HKS.out HS8.out (bytes_small s) (bytes_length s) (by have:=HLN.out;omega)).mono ?_
    rintro e w9 ⟨gt,ot,capt,rfl,HS9,HX9⟩
    have HP9:=Sl.mk (HP8.out.below HX9.out)
    obtain ⟨gz,capz,w10,hr10,HP10⟩:=HP9.out.add n HS9.out (tb_small HKS.out (bytes_small s)) (by rw [tb_length,bytes_length];have:=HLN.out;omega) (by omega) (by rw [tb_length,bytes_length];have:=HF.out;rw [hm] at this;simp only [ksz,if_true] at this;omega)
    replace HP10:=Sl.mk HP10
    clear HP8 HP9 hcv HX8 HX9 HS8 HS9
    go_wp2_with (at_builtin;refine wpList_app rfl (.tmp 41) (.tmp 46) 49 49 rfl rfl _ _ ⟨gt,ot,none⟩ s.size capt w10 rfl rfl hr10 ?_)
    clear hr10
    go_wp2
    go_ret2
    refine ⟨gz,capz,rfl,⟨?_⟩,⟨HP10.out.B⟩,HP10.out.fresh⟩
    rw [text_mask _ _ hm HBY.out (L:=L) (by rw [bytes_length];exact HLB.out) HL0.out HPOS.out]
    exact HP10.out.src
   ·have hm:=Bool.eq_false_iff.2 hm
    rw [hm] at f2
    obtain ⟨h0,h1,h2,h3,h4,h5,h6,h7⟩:=bx_cells HP5.out.X
    rw [hm] at h2
    obtain ⟨capc,w8,hcv,HS8,HX8⟩:=conv_str s w5
    have HP8:=Sl.mk (HP5.out.below HX8.out)
    clear HP5
    go_wp2_with (at_builtin;refine wpList_app rfl (.tmp 26) (.tmp 28) 49 49 rfl rfl _ _ ⟨gl,0,none⟩ L.length capl w5 rfl rfl hr5 ?_)
    clear hr5
    refine (turned_any _ _ _ a b c d s w5.heap.size 0 s.size capc (bytes s) w8 HKS.out HS8.out (bytes_small s) (bytes_length s) (by have:=HLN.out;omega)).mono ?_
    rintro e w9 ⟨gt,ot,capt,rfl,HS9,HX9⟩
    have HP9:=Sl.mk (HP8.out.below HX9.out)
    obtain ⟨gz,capz,w10,hr10,HP10⟩:=HP9.out.add n HS9.out (tb_small HKS.out (bytes_small s)) (by rw [tb_length,bytes_length];have:=HLN.out;omega) (by omega) (by rw [tb_length,bytes_length];have:=HF.out;rw [hm] at this;simp only [ksz,Bool.false_eq_true,if_false] at this;omega)
    replace HP10:=Sl.mk HP10
    clear HP8 HP9 hcv HX8 HX9 HS8 HS9
    go_wp2_with (at_builtin;refine wpList_app rfl (.tmp 41) (.tmp 46) 49 49 rfl rfl _ _ ⟨gt,ot,none⟩ s.size capt w10 rfl rfl hr10 ?_)
    clear hr10
    go_wp2
    go_ret2
    refine ⟨gz,capz,rfl,⟨?_⟩,⟨HP10.out.B⟩,HP10.out.fresh⟩
    rw [text_bare _ hm HBY.out (L:=L) (by rw [bytes_length];exact HLB.out)]
    exact HP10.out.src
  ·have hfin:=Bool.eq_false_iff.2 hfin
   have HBY:Sl (byte0 (⟨fin,(k:Int),m,[a,b,c,d],bytes s⟩:Fr)=k):=⟨by rw [HB0.out,hfin];rfl⟩
   rw [hfin] at c0
   go_wp2_with fail
   refine (lenbytes_any _ _ _ a b c d s L.length _ (HG.out.below HP1.out.B HG.out.size) (by have:=HLN.out;omega) (by rw [HLB.out])).mono ?_
   rintro e w4 ⟨gl,capl,rfl,HSL,HX4⟩
   rw [HLB.out] at HSL
   have HP3:=Sl.mk (HP1.out.below HX4.out)
   obtain ⟨g5,cap5,w5,hr5,HP5⟩:=HP3.out.add n5 HSL.out HLS.out (by omega) (by omega) hn5
   replace HP5:=Sl.mk HP5
   clear HP3 HX4 HSL 
   obtain ⟨f0,f1,f2,f3,f4,f5,f6,f7⟩:=bx_cells HP5.out.X
   by_cases hm:m=true
   ·rw [hm] at f2
    have q1:w5.cell? ⟨g5,1,none⟩=some (.int .u8 ((l0:Nat):Int)):=by
     rw [HP5.out.cell (i:=1) (by omega)]
     show some (Value.int .u8 ((L.getD 0 0:Nat):Int))=_
     rw [HL0.out]
    have z1:=HP5.out.froz 1
    have hor:=or_128 l0 hl0
    have h15:1<n5:=by omega
    obtain ⟨w6,hw6⟩:∃ W,w5.setCell ⟨g5,1,none⟩ (.int .u8 ((l0:Int)+128))=W:=⟨_,rfl⟩
    have HP6:=Sl.mk (HP5.out.set (i:=1) (x:=l0+128) (by omega))
    rw [Int.natCast_add,show ((128:Nat):Int)=128 from rfl,hw6] at HP6
    obtain ⟨j0,j1,j2,j3,j4,j5,j6,j7⟩:=bx_cells HP6.out.X
    obtain ⟨g7,cap7,w7,hr7,HP7⟩:=HP6.out.add (n5+4) (u:=.slice (some ⟨w.heap.size,3,none⟩) 4 4) (l:=[a,b,c,d]) (key_src j3 j4 j5 j6) HKS.out (by show n5+4≤_;omega) (by show 0<n5+4;omega) rfl
    replace HP7:=Sl.mk HP7
    obtain ⟨h0,h1,h2,h3,h4,h5,h6,h7⟩:=bx_cells HP7.out.X
    rw [hm] at h2
    obtain ⟨capc,w8,hcv,HS8,HX8⟩:=conv_str s w7
    have HP8:=Sl.mk (HP7.out.below HX8.out)
    clear HP7
    go_wp2_with (at_builtin;first | (refine wpList_app rfl (.tmp 26) (.tmp 28) 49 49 rfl rfl _ _ ⟨gl,0,none⟩ L.length capl w5 rfl rfl hr5 ?_) | (refine wpList_app rfl (.tmp 37) (.tmp 39) 49 49 rfl rfl _ _ ⟨w.heap.size,3,none⟩ 4 4 w7 rfl rfl hr7 ?_))
    clear hr5 hr7 HP6 HP5 q1 z1 hor hw6
    refine (turned_any _ _ _ a b c d s w7.heap.size 0 s.size capc (bytes s) w8 HKS.out HS8.out (bytes_small s) (bytes_length s) (by have:=HLN.out;omega)).mono ?_
    rintro e w9 ⟨gt,ot,capt,rfl,HS9,HX9⟩
    have HP9:=Sl.mk (HP8.out.below HX9.out)
    obtain ⟨gz,capz,w10,hr10,HP10⟩:=HP9.out.add n HS9.out (tb_small HKS.out (bytes_small s)) (by rw [tb_length,bytes_length];have:=HLN.out;omega) (by omega) (by rw [tb_length,bytes_length];have:=HF.out;rw [hm] at this;simp only [ksz,if_true] at this;omega)
    replace HP10:=Sl.mk HP10
    clear HP8 HP9 hcv HX8 HX9 HS8 HS9
    go_wp2_with (at_builtin;refine wpList_app rfl (.tmp 41) (.tmp 46) 49 49 rfl rfl _ _ ⟨gt,ot,none⟩ s.size capt w10 rfl rfl hr10 ?_)
    clear hr10
    go_wp2
    go_ret2
    refine ⟨gz,capz,rfl,⟨?_⟩,⟨HP10.out.B⟩,HP10.out.fresh⟩
    rw [text_mask _ _ hm HBY.out (L:=L) (by rw [bytes_length];exact HLB.out) HL0.out HPOS.out]
    exact HP10.out.src
   ·have hm:=Bool.eq_false_iff.2 hm
    rw [hm] at f2
    obtain ⟨h0,h1,h2,h3,h4,h5,h6,h7⟩:=bx_cells HP5.out.X
    rw [hm] at h2
    obtain ⟨capc,w8,hcv,HS8,HX8⟩:=conv_str s w5
    have HP8:=Sl.mk (HP5.out.below HX8.out)
    clear HP5
    go_wp2_with (at_builtin;refine wpList_app rfl (.tmp 26) (.tmp 28) 49 49 rfl rfl _ _ ⟨gl,0,none⟩ L.length capl w5 rfl rfl hr5 ?_)
    clear hr5
    refine (turned_any _ _ _ a b c d s w5.heap.size 0 s.size capc (bytes s) w8 HKS.out HS8.out (bytes_small s) (bytes_length s) (by have:=HLN.out;omega)).mono ?_
    rintro e w9 ⟨gt,ot,capt,rfl,HS9,HX9⟩
    have HP9:=Sl.mk (HP8.out.below HX9.out)
    obtain ⟨gz,capz,w10,hr10,HP10⟩:=HP9.out.add n HS9.out (tb_small HKS.out (bytes_small s)) (by rw [tb_length,bytes_length];have:=HLN.out;omega) (by omega) (by rw [tb_length,bytes_length];have:=HF.out;rw [hm] at this;simp only [ksz,Bool.false_eq_true,if_false] at this;omega)
    replace HP10:=Sl.mk HP10
    clear HP8 HP9 hcv HX8 HX9 HS8 HS9
    go_wp2_with (at_builtin;refine wpList_app rfl (.tmp 41) (.tmp 46) 49 49 rfl rfl _ _ ⟨gt,ot,none⟩ s.size capt w10 rfl rfl hr10 ?_)
    clear hr10
    go_wp2
    go_ret2
    refine ⟨gz,capz,rfl,⟨?_⟩,⟨HP10.out.B⟩,HP10.out.fresh⟩
    rw [text_bare _ hm HBY.out (L:=L) (by rw [bytes_length];exact HLB.out)]
    exact HP10.out.src
end Go.Proofs.YtlahonjmfecikaaGreatDoor.Fra
set_option maxRecDepth 100000
namespace Go.Proofs.YtlahonjmfecikaaGreatDoor.Fra
open Go.RowKit MaskPlain FramePlain Mas
def lenF (o:Nat) (bs:List Nat):Nat×Nat×Nat :=
 if ctl (o:Int)=true∧0<bs.length∧125<bs.getD 0 0 % 128 then (0,0,91)
 else if (getL bs).2.2=81 then (0,0,91) else if (getL bs).2.2=80 then (0,0,90) else getL bs
set_option maxHeartbeats 2000000 in
theorem length_any (o:Nat) (v:Value) (bs:List Nat) (w:World) (hg:Globs w) (hv:SrcAt w v bs) (hsm:Small 256 bs) (hm:bs.length≤1000000) :
 Calls Tryz.prog 136 #[.int .i64 (o:Int),v] w fun e w'=>e=.returned (res3 (lenF o bs))∧Sl (Below w.heap.size w w'):=by
 have HG:=Sl.mk hg
 have HV:=Sl.mk hv
 have HSM:=Sl.mk hsm
 obtain ⟨a0,cap,sb,so,hve,hcap,ha,hcell⟩:=hv
 obtain ⟨bl,hbl⟩:∃ bl,bs.length=bl:=⟨_,rfl⟩
 have HBL:=Sl.mk hbl
 rw [hbl] at hve hcap ha
 subst hve
 have hv:Sl True:=⟨trivial⟩
 obtain ⟨c,hc⟩:∃ c,ctl (o:Int)=c:=⟨_,rfl⟩
 have C1:∀ W,Calls Tryz.prog 138 #[.int .i64 (o:Int)] W fun e w'=>e=.returned (.bool c)∧W=w':=fun W=>by rw [← hc];exact control_any (o:Int) W
 have hwc:IntKind.i64.wrap (bl:Int)=(bl:Int):=by rw [IntKind.wrap_i64];omega
 clear hg hwc
 cases c with
 | false =>
   have HLT:¬ (ctl (o:Int)=true∧0<bs.length∧125<bs.getD 0 0 % 128):=fun h=>by rw [hc] at h;exact absurd h.1 (by decide)
   go_enter Tryz.func136,Tryz.ntmps136
   go_wp2_with fail
   refine (C1 _).mono ?_
   rintro e w1 ⟨rfl,rfl⟩
   clear C1 hc hcell ha hcap hbl
   rcases get_codes bs with he | he | he
   ·obtain ⟨n,j,hnj⟩:∃ n j,getL bs=(n,j,0):=⟨(getL bs).1,(getL bs).2.1,by rw [← he]⟩
    have HQ:Sl (lenF o bs=(n,j,0)):=⟨by unfold lenF;rw [if_neg HLT,hnj];rfl⟩
    have C2:=fun W hW hS=>get_ex (.slice a0 bl cap) bs n j 0 W hW hS hsm hm hnj
    rw [show ((0:Nat):Int)=0 from rfl] at C2
    clear he hnj hm hsm hv HLT
    go_wp2_with fail
    refine (C2 _ HG.out HV.out).mono ?_
    rintro e w1 ⟨rfl,HX⟩
    go_wp2
    go_ret3
    exact ⟨by rw [HQ.out];rfl,HX⟩
   ·obtain ⟨n,j,hnj⟩:∃ n j,getL bs=(n,j,80):=⟨(getL bs).1,(getL bs).2.1,by rw [← he]⟩
    have HQ:Sl (lenF o bs=(0,0,90)):=⟨by unfold lenF;rw [if_neg HLT,hnj];rfl⟩
    have C2:=fun W hW hS=>get_ex (.slice a0 bl cap) bs n j 80 W hW hS hsm hm hnj
    rw [show ((80:Nat):Int)=80 from rfl] at C2
    clear he hnj hm hsm hv HLT
    go_wp2_with fail
    refine (C2 _ HG.out HV.out).mono ?_
    rintro e w1 ⟨rfl,HX⟩
    go_wp2
    go_ret3
    exact ⟨by rw [HQ.out];rfl,HX⟩
   ·obtain ⟨n,j,hnj⟩:∃ n j,getL bs=(n,j,81):=⟨(getL bs).1,(getL bs).2.1,by rw [← he]⟩
    have HQ:Sl (lenF o bs=(0,0,91)):=⟨by unfold lenF;rw [if_neg HLT,hnj];rfl⟩
    have C2:=fun W hW hS=>get_ex (.slice a0 bl cap) bs n j 81 W hW hS hsm hm hnj
    rw [show ((81:Nat):Int)=81 from rfl] at C2
    clear he hnj hm hsm hv HLT
    go_wp2_with fail
    refine (C2 _ HG.out HV.out).mono ?_
    rintro e w1 ⟨rfl,HX⟩
    go_wp2
    go_ret3
    exact ⟨by rw [HQ.out];rfl,HX⟩
 | true =>
   by_cases h0:0<bl
   ·obtain rfl:=ha h0
    have hc0:=hcell 0 (by omega)
    rw [Nat.add_zero] at hc0
    obtain ⟨x,hx⟩:∃ x,bs.getD 0 0=x:=⟨_,rfl⟩
    rw [hx] at hc0
    have hx256:x<256:=by rw [← hx];exact hsm.getD (by omega) 0
    have hand:=andNot_128 x hx256
    obtain ⟨y,hy⟩:∃ y,x % 128=y:=⟨_,rfl⟩
    rw [hy] at hand
    by_cases h5:125<y
    ·have h5':((y:Int)>125)=True:=eq_true (by omega)
     have HQ:Sl (lenF o bs=(0,0,91)):=⟨by unfold lenF;rw [if_pos ⟨hc,by omega,by rw [hx,hy];exact h5⟩]⟩
     clear hc hx hx256 h5 hm hsm hcell ha hcap hbl hy
     go_enter Tryz.func136,Tryz.ntmps136
     go_wp2_with fail
     refine (C1 _).mono ?_
     rintro e w1 ⟨rfl,rfl⟩
     go_wp2
     go_ret3
     exact ⟨by rw [HQ.out];rfl,⟨Below.refl _ _⟩⟩
    ·have h5':((y:Int)>125)=False:=eq_false (by omega)
     have HLT:¬ (ctl (o:Int)=true∧0<bs.length∧125<bs.getD 0 0 % 128):=fun h=>by rw [hx,hy] at h;exact h5 h.2.2
     go_enter Tryz.func136,Tryz.ntmps136
     go_wp2_with fail
     refine (C1 _).mono ?_
     rintro e w1 ⟨rfl,rfl⟩
     clear C1 hc hcell ha hcap hbl hx hx256 h5 hy
     rcases get_codes bs with he | he | he
     ·obtain ⟨n,j,hnj⟩:∃ n j,getL bs=(n,j,0):=⟨(getL bs).1,(getL bs).2.1,by rw [← he]⟩
      have HQ:Sl (lenF o bs=(n,j,0)):=⟨by unfold lenF;rw [if_neg HLT,hnj];rfl⟩
      have C2:=fun W hW hS=>get_ex (.slice (some ⟨sb,so,none⟩) bl cap) bs n j 0 W hW hS hsm hm hnj
      rw [show ((0:Nat):Int)=0 from rfl] at C2
      clear he hnj hm hsm hv HLT
      go_wp2_with fail
      refine (C2 _ HG.out HV.out).mono ?_
      rintro e w1 ⟨rfl,HX⟩
      go_wp2
      go_ret3
      exact ⟨by rw [HQ.out];rfl,HX⟩
     ·obtain ⟨n,j,hnj⟩:∃ n j,getL bs=(n,j,80):=⟨(getL bs).1,(getL bs).2.1,by rw [← he]⟩
      have HQ:Sl (lenF o bs=(0,0,90)):=⟨by unfold lenF;rw [if_neg HLT,hnj];rfl⟩
      have C2:=fun W hW hS=>get_ex (.slice (some ⟨sb,so,none⟩) bl cap) bs n j 80 W hW hS hsm hm hnj
      rw [show ((80:Nat):Int)=80 from rfl] at C2
      clear he hnj hm hsm hv HLT
      go_wp2_with fail
      refine (C2 _ HG.out HV.out).mono ?_
      rintro e w1 ⟨rfl,HX⟩
      go_wp2
      go_ret3
      exact ⟨by rw [HQ.out];rfl,HX⟩
     ·obtain ⟨n,j,hnj⟩:∃ n j,getL bs=(n,j,81):=⟨(getL bs).1,(getL bs).2.1,by rw [← he]⟩
      have HQ:Sl (lenF o bs=(0,0,91)):=⟨by unfold lenF;rw [if_neg HLT,hnj];rfl⟩
      have C2:=fun W hW hS=>get_ex (.slice (some ⟨sb,so,none⟩) bl cap) bs n j 81 W hW hS hsm hm hnj
      rw [show ((81:Nat):Int)=81 from rfl] at C2
      clear he hnj hm hsm hv HLT
      go_wp2_with fail
      refine (C2 _ HG.out HV.out).mono ?_
      rintro e w1 ⟨rfl,HX⟩
      go_wp2
      go_ret3
      exact ⟨by rw [HQ.out];rfl,HX⟩
   ·obtain rfl:bl=0:=by omega
    have HLT:¬ (ctl (o:Int)=true∧0<bs.length∧125<bs.getD 0 0 % 128):=fun h=>by omega
    go_enter Tryz.func136,Tryz.ntmps136
    go_wp2_with fail
    refine (C1 _).mono ?_
    rintro e w1 ⟨rfl,rfl⟩
    clear C1 hc hcell ha hcap hbl h0
    rcases get_codes bs with he | he | he
    ·obtain ⟨n,j,hnj⟩:∃ n j,getL bs=(n,j,0):=⟨(getL bs).1,(getL bs).2.1,by rw [← he]⟩
     have HQ:Sl (lenF o bs=(n,j,0)):=⟨by unfold lenF;rw [if_neg HLT,hnj];rfl⟩
     have C2:=fun W hW hS=>get_ex (.slice a0 0 cap) bs n j 0 W hW hS hsm hm hnj
     rw [show ((0:Nat):Int)=0 from rfl] at C2
     clear he hnj hm hsm hv HLT
     go_wp2_with fail
     refine (C2 _ HG.out HV.out).mono ?_
     rintro e w1 ⟨rfl,HX⟩
     go_wp2
     go_ret3
     exact ⟨by rw [HQ.out];rfl,HX⟩
    ·obtain ⟨n,j,hnj⟩:∃ n j,getL bs=(n,j,80):=⟨(getL bs).1,(getL bs).2.1,by rw [← he]⟩
     have HQ:Sl (lenF o bs=(0,0,90)):=⟨by unfold lenF;rw [if_neg HLT,hnj];rfl⟩
     have C2:=fun W hW hS=>get_ex (.slice a0 0 cap) bs n j 80 W hW hS hsm hm hnj
     rw [show ((80:Nat):Int)=80 from rfl] at C2
     clear he hnj hm hsm hv HLT
     go_wp2_with fail
     refine (C2 _ HG.out HV.out).mono ?_
     rintro e w1 ⟨rfl,HX⟩
     go_wp2
     go_ret3
     exact ⟨by rw [HQ.out];rfl,HX⟩
    ·obtain ⟨n,j,hnj⟩:∃ n j,getL bs=(n,j,81):=⟨(getL bs).1,(getL bs).2.1,by rw [← he]⟩
     have HQ:Sl (lenF o bs=(0,0,91)):=⟨by unfold lenF;rw [if_neg HLT,hnj];rfl⟩
     have C2:=fun W hW hS=>get_ex (.slice a0 0 cap) bs n j 81 W hW hS hsm hm hnj
     rw [show ((81:Nat):Int)=81 from rfl] at C2
     clear he hnj hm hsm hv HLT
     go_wp2_with fail
     refine (C2 _ HG.out HV.out).mono ?_
     rintro e w1 ⟨rfl,HX⟩
     go_wp2
     go_ret3
     exact ⟨by rw [HQ.out];rfl,HX⟩
def valF (f:Fr):Value:=.agg #[.bool f.fin,.int .i64 f.op,.bool f.masked,.int .u8 ((f.key.getD 0 0:Nat):Int),.int .u8 ((f.key.getD 1 0:Nat):Int),.int .u8 ((f.key.getD 2 0:Nat):Int),.int .u8 ((f.key.getD 3 0:Nat):Int),.string (strOf f.data)]
def resF (r:Fr×Nat×Nat):Value:=.tuple #[valF r.1,.int .i64 ((r.2.1:Nat):Int),.int .i64 ((r.2.2:Nat):Int)]
theorem fr_info {cs:Array Value} (h:cs.size=8):(Tryz.prog.info? 61).map (·.size)=some cs.size:=by rw [h];kernel_rfl
theorem ret_fr {fn:Func} {p u x:Tmp} (h:fn.results=#[.cell p 61,.tmp u,.tmp x]) (tmps:Array Value) (w:World) (g:Nat) (t:TypeId) (cs:Array Value) (fr:Nat×Nat)
 (hp:tmps.getD p undef=.pointer (some ⟨g,0,none⟩)) (hg:w.heap[g]? = some (.cells cs t fr)) (hs:cs.size=8) :
 (results fn tmps).run Tryz.prog w=.ok (.tuple #[.agg cs,tmps.getD u undef,tmps.getD x undef]) w:=by
 have hi:(Tryz.prog.info? 61).map (·.size)=some cs.size:=fr_info hs
 have hp':tmps[p]?.getD undef=.pointer (some ⟨g,0,none⟩):=by simpa using hp
 simp only [results,h]
 simp [Result.andThen,hp',asAddr,run_loadVar_row (P:=Tryz.prog) w g t 61 cs fr _ hg Tryz.underlying61 rfl hi]
def fillF (fin:Bool) (op:Int) (m:Bool) (p n:Nat) (r:List Nat):Fr×Nat×Nat :=
 if m then
  (if r.length<4+n then (Fr0,0,90) else (⟨fin,op,true,r.take 4,turn (r.take 4) 0 ((r.drop 4).take n)⟩,p+4+n,0))
 else if r.length<n then (Fr0,0,90) else (⟨fin,op,false,zero4,r.take n⟩,p+n,0)
theorem rest_fill (x y n k:Nat) (r:List Nat):rest x y n k r=fillF (decide (128≤x)) ((x % 16:Nat):Int) (decide (128≤y)) (1+k) n r:=by
 unfold rest fillF
 by_cases h:128≤y
 ·rw [if_pos h,if_pos (decide_eq_true h)]
 ·rw [if_neg h,if_neg (show ¬ (decide (128≤y)=true) from by rw [decide_eq_false h];decide)]
end Go.Proofs.YtlahonjmfecikaaGreatDoor.Fra
set_option maxRecDepth 100000
namespace Go.Proofs.YtlahonjmfecikaaGreatDoor.Fra
open Go.RowKit MaskPlain FramePlain Mas
theorem bx8 {W:World} {g:Nat} {c0 c1 c2 c3 c4 c5 c6 c7:Value} (h:W.heap[g]? = some (.cells #[c0,c1,c2,c3,c4,c5,c6,c7] 61 (0,0))) :
 W.cell? ⟨g,0,none⟩=some c0∧W.cell? ⟨g,1,none⟩=some c1∧W.cell? ⟨g,2,none⟩=some c2∧W.cell? ⟨g,3,none⟩=some c3∧W.cell? ⟨g,4,none⟩=some c4∧W.cell? ⟨g,5,none⟩=some c5∧W.cell? ⟨g,6,none⟩=some c6∧W.cell? ⟨g,7,none⟩=some c7:=by
 refine ⟨?_,?_,?_,?_,?_,?_,?_,?_⟩<;>(rw [cell_of_row _ _ _ _ _ _ h];rfl)
theorem loadbox8 {W:World} {ev:Operand→Value} {o:Oper} {x:Operand} {g:Nat} {cs:Array Value} (ho:o.op=.load 61 x) (hx:ev x=.pointer (some ⟨g,0,none⟩)) (hs:cs.size=8) (h:W.heap[g]? = some (.cells cs 61 (0,0))) :
 (execOp ev o).run Tryz.prog W=.ok (.value (.agg cs)) W:=by
 unfold execOp
 simp only [ho,hx,Instr.loadAt,Instr.sureAddr,Sem.run_bind,Sem.run_pure,Result.andThen_ok,run_loadVar_row W g 61 61 _ (0,0) _ h Tryz.underlying61 rfl (fr_info hs)]
theorem below_setRow {w W:World} {B g:Nat} (h:Below B w W) (hg:B≤g) (cs:Array Value):Below B w (W.setRow g cs) :=
 ⟨h.os,h.tape,h.output,by simpa [World.setRow] using h.size,fun k hk=>by rw [setRow_other _ _ _ _ (by omega)];exact h.block k hk⟩
theorem src_sub {W:World} {sb so L cap:Nat} {bs:List Nat} (h:SrcAt W (.slice (some ⟨sb,so,none⟩) L cap) bs) (i k c of:Nat) (hof:0<k→so+i=of) (hk:i+k≤L) (hc:k≤c) (hl:bs.length=L):SrcAt W (.slice (some ⟨sb,of,none⟩) k c) ((bs.drop i).take k):=by
 obtain ⟨a,c',sb',so',he,h1,h2,h3⟩:=h
 have hlen:((bs.drop i).take k).length=k:=by rw [List.length_take,List.length_drop];omega
 injection he with ea eb ec
 refine ⟨_,c,sb,of,by rw [hlen],by rw [hlen];exact hc,fun _=>rfl,fun j hj=>?_⟩
 rw [hlen] at hj
 have:=h2 (by omega)
 rw [this] at ea
 injection ea with ea
 injection ea with e1 e2
 subst e1 e2
 have h4:=h3 (i+j) (by omega)
 rw [← hof (by omega),show so+i+j=so+(i+j) by omega,h4]
 simp only [List.getD_eq_getElem?_getD,List.getElem?_take_of_lt hj,List.getElem?_drop]
theorem fr_all (f:Bool) (o:Int) (m:Bool) (a b c d:Int) (s:ByteArray):(#[.bool f,.int .i64 o,.bool m,.int .u8 a,.int .u8 b,.int .u8 c,.int .u8 d,.string s]:Array Value).all (·.oneCell')=true:=by simp [Value.oneCell']
theorem four_of (l:List Nat) (h:4≤l.length):∃ a b c d,l.take 4=[a,b,c,d]:=by
 match l,h with
 | a :: b :: c :: d :: _,_=>exact ⟨a,b,c,d,rfl⟩
theorem slice_run {W:World} {ev:Operand→Value} {o:Oper} {x y z:Operand} {sb so L cap i j k:Nat} (of:Nat) (hof:(if cap=i then so else so+i)=of) (ho:o.op=.slice 49 x (some y) (some z) none) (hx:ev x=.slice (some ⟨sb,so,none⟩) L cap) (hy:ev y=.int .i64 (i:Int)) (hz:ev z=.int .i64 (j:Int)) (hk:j-i=k) (hij:i≤j) (hj:j≤cap) :
 (execOp ev o).run Tryz.prog W=.ok (.value (.slice (some ⟨sb,of,none⟩) k (cap-i))) W:=by
 subst hk hof
 simp only [execOp,ho,hx,hy,hz,Option.map_some,Option.map_none]
 by_cases hc:cap=i
 ·subst hc
  rw [if_pos rfl]
  go_simp
 ·rw [if_neg hc]
  go_simp
theorem copy_key {W:World} {B sb of c4:Nat} {fin m:Bool} {op:Int} {s:ByteArray} {a b c d:Nat} (h:W.heap[B]? = some (.cells #[.bool fin,.int .i64 op,.bool m,.int .u8 0,.int .u8 0,.int .u8 0,.int .u8 0,.string s] 61 (0,0))) (hs:SrcAt W (.slice (some ⟨sb,of,none⟩) 4 c4) [a,b,c,d]) :
 (Builtin.copy_ #[49,49] 3 #[.slice (some ⟨B,3,none⟩) 4 4,.slice (some ⟨sb,of,none⟩) 4 c4]).run Tryz.prog W=.ok (.int .i64 4) (W.setRow B #[.bool fin,.int .i64 op,.bool m,.int .u8 (a:Int),.int .u8 (b:Int),.int .u8 (c:Int),.int .u8 (d:Int),.string s]):=by
 obtain ⟨ad,c',sb',so',he,h1,h2,h3⟩:=hs
 injection he with ea eb ec
 rw [h2 (by simp)] at ea
 injection ea with ea
 injection ea with e1 e2
 subst e1 e2
 have:=run_copy_row (P:=Tryz.prog) W 49 49 3 5 B 3 4 4 ⟨sb,of,none⟩ 4 c4 _ 61 (u8s [a,b,c,d]) Tryz.underlying49 size5 h (by rfl) (fun j v hv=>by
  have hj:j<4:=(List.getElem?_eq_some_iff.1 hv).1
  rw [Addr.add_mid,h3 j hj,← hv,u8s_get _ _ hj]) (by simp) (u8s_one _)
 exact this
theorem copy_none {W:World} {B sb of c4:Nat} : (Builtin.copy_ #[49,49] 3 #[.slice (some ⟨B,3,none⟩) 4 4,.slice (some ⟨sb,of,none⟩) 0 c4]).run Tryz.prog W=.ok (.int .i64 0) W :=
 run_copy_none (P:=Tryz.prog) W 49 49 3 5 _ _ 4 4 0 c4 Tryz.underlying49 size5 rfl
set_option maxHeartbeats 4000000 in
theorem filled_any (fin:Bool) (op:Int) (m:Bool) (sb so L cap p n:Nat) (bs:List Nat) (w:World) (hv:SrcAt w (.slice (some ⟨sb,so,none⟩) L cap) bs) (hl:bs.length=L) (hsm:Small 256 bs) (hm:L≤100000) (hp:p≤L) (hn:n≤9223372036854775807) :
 Calls Tryz.prog 137 #[.agg #[.bool fin,.int .i64 op,.bool m,.int .u8 0,.int .u8 0,.int .u8 0,.int .u8 0,.string {data:=#[]}],.slice (some ⟨sb,so,none⟩) L cap,.int .i64 (p:Int),.int .u64 (n:Int)] w fun e w'=>e=.returned (resF (fillF fin op m p n (bs.drop p)))∧Sl (Below w.heap.size w w'):=by
 have HV:=Sl.mk hv
 have hLc:L≤cap:=by obtain ⟨_,c',_,_,he,h1,_⟩:=hv;injection he with _ _ ec;omega
 clear hv
 cases m with
 | true =>
   obtain ⟨w1,hw1⟩:∃ w1,w.alloc (.cells #[.bool fin,.int .i64 op,.bool true,.int .u8 0,.int .u8 0,.int .u8 0,.int .u8 0,.string {data:=#[]}] 61)=w1:=⟨_,rfl⟩
   have h1s:w1.heap.size=w.heap.size+1:=by rw [← hw1];exact alloc_size _ _
   obtain ⟨w2,hw2⟩:∃ w2,w1.alloc (.cells #[.bool false,.int .i64 0,.bool false,.int .u8 0,.int .u8 0,.int .u8 0,.int .u8 0,.string {data:=#[]}] 61)=w2:=⟨_,rfl⟩
   have HB2:Sl (Below w.heap.size w w2):=⟨by rw [← hw2,← hw1];exact (bx_below w _).out.alloc (by rw [alloc_size];omega) _⟩
   have HY2:Sl (w2.heap[w.heap.size]? = some (.cells #[.bool fin,.int .i64 op,.bool true,.int .u8 0,.int .u8 0,.int .u8 0,.int .u8 0,.string {data:=#[]}] 61 (0,0))):=⟨by rw [← hw2,alloc_old _ _ _ (by omega),← hw1];exact bx_new _ _⟩
   have HZ2:Sl (w2.heap[w.heap.size+1]? = some (.cells #[.bool false,.int .i64 0,.bool false,.int .u8 0,.int .u8 0,.int .u8 0,.int .u8 0,.string {data:=#[]}] 61 (0,0))):=⟨by rw [← hw2,← h1s];exact bx_new _ _⟩
   obtain ⟨p0,p1,p2,p3,p4,p5,p6,p7⟩:=bx8 HY2.out
   obtain ⟨q,hq⟩:∃ q,p+4=q:=⟨_,rfl⟩
   have C1:=fun W=>keysize_n fin op true 0 0 0 0 {data:=#[]} 4 W rfl
   have z1:IntKind.i64.wrap ((p:Int)+4)=(q:Int):=by rw [IntKind.wrap_i64];omega
   rw [show ((4:Nat):Int)=4 from rfl] at C1
   go_enter Tryz.func137,Tryz.ntmps137
   go_wp2_with fail
   refine (C1 _).mono ?_
   rintro e w3 ⟨rfl,HX3⟩
   have HB3:Sl (Below w.heap.size w w3):=⟨HB2.out.trans (HX3.out.mono HB2.out.size)⟩
   have HY3:Sl (w3.heap[w.heap.size]? = some (.cells #[.bool fin,.int .i64 op,.bool true,.int .u8 0,.int .u8 0,.int .u8 0,.int .u8 0,.string {data:=#[]}] 61 (0,0))):=⟨below_key HY2.out HX3.out⟩
   have HZ3:Sl (w3.heap[w.heap.size+1]? = some (.cells #[.bool false,.int .i64 0,.bool false,.int .u8 0,.int .u8 0,.int .u8 0,.int .u8 0,.string {data:=#[]}] 61 (0,0))):=⟨below_key HZ2.out HX3.out⟩
   have HV3:Sl (SrcAt w3 (.slice (some ⟨sb,so,none⟩) L cap) bs):=⟨HV.out.below (Nat.le_refl _) HB3.out⟩
   clear HX3 HB2 HY2 HZ2 C1 p0 p1 p2 p3 p4 p5 p6 p7
   by_cases hL:L<q
   ·have hLq:((L:Int)<(q:Int))=True:=eq_true (by omega)
    have HQ:Sl (fillF fin op true p n (bs.drop p)=(Fr0,0,90)):=⟨by unfold fillF;rw [if_pos rfl,if_pos (by rw [List.length_drop];omega)]⟩
    clear hL
    have HI:=fr_info (cs:=#[.bool false,.int .i64 0,.bool false,.int .u8 0,.int .u8 0,.int .u8 0,.int .u8 0,.string {data:=#[]}]) rfl
    go_wp2_with (refine wpList_store_row rfl 61 (.tmp 8) (.tmp 30) rfl (w.heap.size+1) #[.bool false,.int .i64 0,.bool false,.int .u8 0,.int .u8 0,.int .u8 0,.int .u8 0,.string {data:=#[]}] rfl rfl 61 #[.bool false,.int .i64 0,.bool false,.int .u8 0,.int .u8 0,.int .u8 0,.int .u8 0,.string {data:=#[]}] HZ3.out HI rfl (fr_all _ _ _ _ _ _ _ _) ?_)
    go_wp2
    refine bodyPost_ret (ret_fr rfl _ _ (w.heap.size+1) 61 _ (0,0) rfl (setRow_heap _ _ _ _ _ _ HZ3.out) rfl) rfl ?_
    rw [HQ.out]
    exact ⟨rfl,⟨below_setRow HB3.out (by omega) _⟩⟩
   ·have hLq:((L:Int)<(q:Int))=False:=eq_false (by omega)
    obtain ⟨r,hr⟩:∃ r,L-q=r:=⟨_,rfl⟩
    have z2:IntKind.i64.wrap ((L:Int)-(q:Int))=(r:Int):=by rw [IntKind.wrap_i64];omega
    have z3:IntKind.u64.wrap (r:Int)=(r:Int):=by rw [IntKind.wrap_u64];omega
    by_cases hrn:r<n
    ·have hrn':((r:Int)<(n:Int))=True:=eq_true (by omega)
     have HQ:Sl (fillF fin op true p n (bs.drop p)=(Fr0,0,90)):=⟨by unfold fillF;rw [if_pos rfl,if_pos (by rw [List.length_drop];omega)]⟩
     clear hrn hL
     have HI:=fr_info (cs:=#[.bool false,.int .i64 0,.bool false,.int .u8 0,.int .u8 0,.int .u8 0,.int .u8 0,.string {data:=#[]}]) rfl
     go_wp2_with (refine wpList_store_row rfl 61 (.tmp 8) (.tmp 30) rfl (w.heap.size+1) #[.bool false,.int .i64 0,.bool false,.int .u8 0,.int .u8 0,.int .u8 0,.int .u8 0,.string {data:=#[]}] rfl rfl 61 #[.bool false,.int .i64 0,.bool false,.int .u8 0,.int .u8 0,.int .u8 0,.int .u8 0,.string {data:=#[]}] HZ3.out HI rfl (fr_all _ _ _ _ _ _ _ _) ?_)
     go_wp2
     refine bodyPost_ret (ret_fr rfl _ _ (w.heap.size+1) 61 _ (0,0) rfl (setRow_heap _ _ _ _ _ _ HZ3.out) rfl) rfl ?_
     rw [HQ.out]
     exact ⟨rfl,⟨below_setRow HB3.out (by omega) _⟩⟩
    ·have hrn':((r:Int)<(n:Int))=False:=eq_false (by omega)
     obtain ⟨en,hen⟩:∃ en,q+n=en:=⟨_,rfl⟩
     have hpq:p≤q:=by omega
     have hqc:q≤cap:=by omega
     have hqe:q≤en:=by omega
     have hec:en≤cap:=by omega
     obtain ⟨of4,hof4⟩:∃ of4,(if cap=p then so else so+p)=of4:=⟨_,rfl⟩
     obtain ⟨of6,hof6⟩:∃ of6,(if cap=q then so else so+q)=of6:=⟨_,rfl⟩
     have z4:IntKind.i64.wrap (n:Int)=(n:Int):=by rw [IntKind.wrap_i64];omega
     have z5:IntKind.i64.wrap ((q:Int)+(n:Int))=(en:Int):=by rw [IntKind.wrap_i64];omega
     go_upto_region 4 with fail
     obtain ⟨Rw,hR⟩:∃ Rw,w3.drew=Rw:=⟨_,rfl⟩
     have HBR:Sl (Below w.heap.size w Rw):=⟨by rw [← hR];exact HB3.out.drew⟩
     have HYR:Sl (Rw.heap[w.heap.size]? = some (.cells #[.bool fin,.int .i64 op,.bool true,.int .u8 0,.int .u8 0,.int .u8 0,.int .u8 0,.string {data:=#[]}] 61 (0,0))):=⟨by rw [← hR];exact HY3.out⟩
     have HZR:Sl (Rw.heap[w.heap.size+1]? = some (.cells #[.bool false,.int .i64 0,.bool false,.int .u8 0,.int .u8 0,.int .u8 0,.int .u8 0,.string {data:=#[]}] 61 (0,0))):=⟨by rw [← hR];exact HZ3.out⟩
     have HVR:Sl (SrcAt Rw (.slice (some ⟨sb,so,none⟩) L cap) bs):=⟨HV.out.below (Nat.le_refl _) HBR.out⟩
     have HS0:Below w.heap.size w Rw:=HBR.out
     refine wp_region_noPanic ?_
     refine wp_region_held (S:=fun W=>Below w.heap.size w W) (by kernel_rfl) ?_
     change wpAnyH _ _ _ _ _ _ _ _ w3.drew
     rw [hR]
     clear hR HB3 HY3 HZ3 HV3
     refine heldTake (d:=some 31) (op:=.fieldAddr 61 (Operand.tmp 4) 3) (g:=none) 0 ?v0rs rfl (by kernel_rfl) (by kernel_rfl) (by kernel_rfl) (by kernel_rfl) ?y0rs HS0 ?_
     case y0rs=>intro o' ho W hS;simp only [execOp,ho];go_simp;try rfl
     simp only [Act.put,List.setIfInBounds_toArray,List.set_cons_zero,List.set_cons_succ]
     refine heldTake (d:=some 32) (op:=.slice 59 (Operand.tmp 31) none none none) (g:=none) 1 ?v1rs rfl (by kernel_rfl) (by kernel_rfl) (by kernel_rfl) (by kernel_rfl) ?y1rs HS0 ?_
     case y1rs=>intro o' ho W hS;simp only [execOp,ho];go_simp;try rfl
     simp only [Act.put,List.setIfInBounds_toArray,List.set_cons_zero,List.set_cons_succ]
     refine heldTake (d:=some 33) (op:=.move (Operand.tmp 1)) (g:=none) 2 ?v2rs rfl (by kernel_rfl) (by kernel_rfl) (by kernel_rfl) (by kernel_rfl) ?y2rs HS0 ?_
     case y2rs=>intro o' ho W hS;simp only [execOp,ho];go_simp;try rfl
     simp only [Act.put,List.setIfInBounds_toArray,List.set_cons_zero,List.set_cons_succ]
     refine heldTake (d:=some 34) (op:=.move (Operand.tmp 2)) (g:=none) 3 ?v3rs rfl (by kernel_rfl) (by kernel_rfl) (by kernel_rfl) (by kernel_rfl) ?y3rs HS0 ?_
     case y3rs=>intro o' ho W hS;simp only [execOp,ho];go_simp;try rfl
     simp only [Act.put,List.setIfInBounds_toArray,List.set_cons_zero,List.set_cons_succ]
     refine heldTake (d:=some 35) (op:=.move (Operand.tmp 11)) (g:=none) 4 ?v4rs rfl (by kernel_rfl) (by kernel_rfl) (by kernel_rfl) (by kernel_rfl) ?y4rs HS0 ?_
     case y4rs=>intro o' ho W hS;simp only [execOp,ho];go_simp;try rfl
     simp only [Act.put,List.setIfInBounds_toArray,List.set_cons_zero,List.set_cons_succ]
     refine heldTake (d:=some 36) (op:=.slice 49 (Operand.tmp 33) (some (Operand.tmp 34)) (some (Operand.tmp 35)) none) (g:=none) 5 (.slice (some ⟨sb,of4,none⟩) 4 (cap-p)) rfl (by kernel_rfl) (by kernel_rfl) (by kernel_rfl) (by kernel_rfl) ?y5rs HS0 ?_
     case y5rs=>intro o' ho W hS;exact slice_run of4 hof4 ho (by rfl) (by rfl) (by rfl) (by omega) hpq hqc
     simp only [Act.put,List.setIfInBounds_toArray,List.set_cons_zero,List.set_cons_succ]
     obtain ⟨a,b,c,d,hkey⟩:=four_of (bs.drop p) (by rw [List.length_drop];omega)
     have HKS:Small 256 [a,b,c,d]:=by rw [← hkey];exact (hsm.drop p).take 4
     obtain ⟨w4,hw4⟩:∃ W,Rw.setRow w.heap.size #[.bool fin,.int .i64 op,.bool true,.int .u8 (a:Int),.int .u8 (b:Int),.int .u8 (c:Int),.int .u8 (d:Int),.string {data:=#[]}]=W:=⟨_,rfl⟩
     have hcp:(Builtin.copy_ #[49,49] 3 #[.slice (some ⟨w.heap.size,3,none⟩) 4 4,.slice (some ⟨sb,of4,none⟩) 4 (cap-p)]).run Tryz.prog Rw=.ok (.int .i64 4) w4:=by
      rw [← hw4]
      exact copy_key HYR.out (by rw [← hkey];exact src_sub HVR.out p 4 _ of4 (fun _=>by rw [← hof4,if_neg (by omega)]) (by omega) (by omega) hl)
     have HB4:Sl (Below w.heap.size w w4):=⟨by rw [← hw4];exact below_setRow HBR.out (Nat.le_refl _) _⟩
     have HY4:Sl (w4.heap[w.heap.size]? = some (.cells #[.bool fin,.int .i64 op,.bool true,.int .u8 (a:Int),.int .u8 (b:Int),.int .u8 (c:Int),.int .u8 (d:Int),.string {data:=#[]}] 61 (0,0))):=⟨by rw [← hw4];exact setRow_heap _ _ _ _ _ _ HYR.out⟩
     have HZ4:Sl (w4.heap[w.heap.size+1]? = some (.cells #[.bool false,.int .i64 0,.bool false,.int .u8 0,.int .u8 0,.int .u8 0,.int .u8 0,.string {data:=#[]}] 61 (0,0))):=⟨by rw [← hw4,setRow_other _ _ _ _ (by omega)];exact HZR.out⟩
     refine heldRunT (d:=some 37) (op:=.call {callee:=Callee.builtin Builtin.copy,args:=#[Operand.tmp 32,Operand.tmp 36],argTypes:=#[49,49]}) (g:=none) (t:=3) 6 (.int .i64 4) w4 rfl (by kernel_rfl) (by kernel_rfl) ?y6cs HB4.out ?_
     case y6cs=>intro o' ho ht;simp only [execOp,ho,ht,resolve,invoke,builtin,Sem.run_bind,Sem.run_pure,Result.andThen_ok,List.map_toArray,List.map_cons,List.map_nil];refine (congrArg (fun r=>Result.andThen r _) hcp).trans ?_;rfl
     simp only [Act.put,List.setIfInBounds_toArray,List.set_cons_zero,List.set_cons_succ]
     refine wpAnyH_done (by kernel_rfl) ?_ _
     refine NoPanic.normal ?_
     clear HBR HYR HZR HVR HS0 hcp hw4
     have HV4:Sl (SrcAt w4 (.slice (some ⟨sb,so,none⟩) L cap) bs):=⟨HV.out.below (Nat.le_refl _) HB4.out⟩
     go_upto_region 6 with fail
     obtain ⟨Rw,hR⟩:∃ Rw,w4.drew=Rw:=⟨_,rfl⟩
     have HS0:Below w.heap.size w Rw:=by rw [← hR];exact HB4.out.drew
     have HYR:Rw.heap[w.heap.size]? = some (.cells #[.bool fin,.int .i64 op,.bool true,.int .u8 (a:Int),.int .u8 (b:Int),.int .u8 (c:Int),.int .u8 (d:Int),.string {data:=#[]}] 61 (0,0)):=by rw [← hR];exact HY4.out
     have HZR:Sl (Rw.heap[w.heap.size+1]? = some (.cells #[.bool false,.int .i64 0,.bool false,.int .u8 0,.int .u8 0,.int .u8 0,.int .u8 0,.string {data:=#[]}] 61 (0,0))):=⟨by rw [← hR];exact HZ4.out⟩
     have HVR:Sl (SrcAt Rw (.slice (some ⟨sb,so,none⟩) L cap) bs):=⟨HV.out.below (Nat.le_refl _) HS0⟩
     refine wp_region_noPanic ?_
     refine wp_region_held (S:=fun W=>Below w.heap.size w W) (by kernel_rfl) ?_
     change wpAnyH _ _ _ _ _ _ _ _ w4.drew
     rw [hR]
     clear hR HB4 HY4 HZ4 HV4
     refine heldTake (d:=some 43) (op:=.move (Operand.tmp 1)) (g:=none) 1 ?v1s rfl (by kernel_rfl) (by kernel_rfl) (by kernel_rfl) (by kernel_rfl) ?y1s HS0 ?_
     case y1s=>intro o' ho W hS;simp only [execOp,ho];go_simp;try rfl
     simp only [Act.put,List.setIfInBounds_toArray,List.set_cons_zero,List.set_cons_succ]
     refine heldTake (d:=some 44) (op:=.move (Operand.tmp 11)) (g:=none) 2 ?v2s rfl (by kernel_rfl) (by kernel_rfl) (by kernel_rfl) (by kernel_rfl) ?y2s HS0 ?_
     case y2s=>intro o' ho W hS;simp only [execOp,ho];go_simp;try rfl
     simp only [Act.put,List.setIfInBounds_toArray,List.set_cons_zero,List.set_cons_succ]
     refine heldTake (d:=some 45) (op:=.move (Operand.tmp 12)) (g:=none) 3 ?v3s rfl (by kernel_rfl) (by kernel_rfl) (by kernel_rfl) (by kernel_rfl) ?y3s HS0 ?_
     case y3s=>intro o' ho W hS;simp only [execOp,ho];go_simp;try rfl
     simp only [Act.put,List.setIfInBounds_toArray,List.set_cons_zero,List.set_cons_succ]
     refine heldTake (d:=some 46) (op:=.slice 49 (Operand.tmp 43) (some (Operand.tmp 44)) (some (Operand.tmp 45)) none) (g:=none) 4 (.slice (some ⟨sb,of6,none⟩) n (cap-q)) rfl (by kernel_rfl) (by kernel_rfl) (by kernel_rfl) (by kernel_rfl) ?y4s HS0 ?_
     case y4s=>intro o' ho W hS;exact slice_run of6 hof6 ho (by rfl) (by rfl) (by rfl) (by omega) hqe hec
     simp only [Act.put,List.setIfInBounds_toArray,List.set_cons_zero,List.set_cons_succ]
     refine heldRunT (d:=some 42) (op:=.load 61 (Operand.tmp 4)) (g:=none) (t:=61) 0 (.agg #[.bool fin,.int .i64 op,.bool true,.int .u8 (a:Int),.int .u8 (b:Int),.int .u8 (c:Int),.int .u8 (d:Int),.string {data:=#[]}]) Rw rfl (by kernel_rfl) (by kernel_rfl) ?y0s HS0 ?_
     case y0s=>intro o' ho _;exact loadbox8 ho (by rfl) rfl HYR
     simp only [Act.put,List.setIfInBounds_toArray,List.set_cons_zero,List.set_cons_succ]
     refine heldCall (d:=some 47) (op:=.call {callee:=Callee.value (Operand.func 161),args:=#[Operand.tmp 42,Operand.tmp 46],argTypes:=#[61,49]}) (g:=none) 5 161 #[.agg #[.bool fin,.int .i64 op,.bool true,.int .u8 (a:Int),.int .u8 (b:Int),.int .u8 (c:Int),.int .u8 (d:Int),.string {data:=#[]}],.slice (some ⟨sb,of6,none⟩) n (cap-q)] rfl (by kernel_rfl) (by kernel_rfl) ?y5s ?_
     case y5s=>intro o' ho;simp only [execOp,ho];go_simp;try rfl
     refine (turned_any fin op true a b c d {data:=#[]} sb of6 n (cap-q) ((bs.drop q).take n) Rw HKS (src_sub HVR.out q n (cap-q) of6 (fun _=>by rw [← hof6,if_neg (by omega)]) (by omega) (by omega) hl) ((hsm.drop q).take n) (by rw [List.length_take,List.length_drop];omega) (by omega)).mono ?_
     rintro e X ⟨gt,ot,ct,rfl,HSX,HXX⟩
     have HS1:Below w.heap.size w X:=HS0.trans (HXX.out.mono HS0.size)
     have HYX:X.heap[w.heap.size]? = some (.cells #[.bool fin,.int .i64 op,.bool true,.int .u8 (a:Int),.int .u8 (b:Int),.int .u8 (c:Int),.int .u8 (d:Int),.string {data:=#[]}] 61 (0,0)):=below_key HYR HXX.out
     have HZX:Sl (X.heap[w.heap.size+1]? = some (.cells #[.bool false,.int .i64 0,.bool false,.int .u8 0,.int .u8 0,.int .u8 0,.int .u8 0,.string {data:=#[]}] 61 (0,0))):=⟨below_key HZR.out HXX.out⟩
     obtain ⟨DT,hDT⟩:∃ DT,tb true [a,b,c,d] ((bs.drop q).take n)=DT:=⟨_,rfl⟩
     have HQ:Sl (fillF fin op true p n (bs.drop p)=(⟨fin,op,true,[a,b,c,d],DT⟩,en,0)):=⟨by unfold fillF;rw [if_pos rfl,if_neg (by rw [List.length_drop];omega),hkey,← hDT,List.drop_drop,hq,hen];rfl⟩
     rw [hDT] at HSX
     have hcv:=HSX.out.conv
     obtain ⟨w5,hw5⟩:∃ W,X.setCell ⟨w.heap.size,7,none⟩ (.string (strOf DT))=W:=⟨_,rfl⟩
     have hfz:X.frozen? ⟨w.heap.size,7,none⟩=false:=frozen_of_row _ _ _ _ _ HYX
     have hc7:X.cell? ⟨w.heap.size,7,none⟩=some (.string {data:=#[]}):=(bx8 HYX).2.2.2.2.2.2.2
     have HY5:Sl (w5.heap[w.heap.size]? = some (.cells #[.bool fin,.int .i64 op,.bool true,.int .u8 (a:Int),.int .u8 (b:Int),.int .u8 (c:Int),.int .u8 (d:Int),.string (strOf DT)] 61 (0,0))):=⟨by rw [← hw5,heap_setCell_same _ _ _ _ _ _ HYX];rfl⟩
     have HZ5:Sl (w5.heap[w.heap.size+1]? = some (.cells #[.bool false,.int .i64 0,.bool false,.int .u8 0,.int .u8 0,.int .u8 0,.int .u8 0,.string {data:=#[]}] 61 (0,0))):=⟨by rw [← hw5,heap_setCell_other _ _ _ _ (by show w.heap.size+1≠w.heap.size;omega)];exact HZX.out⟩
     have HB5:Sl (Below w.heap.size w w5):=⟨by rw [← hw5];exact HS1.setCell (Nat.le_refl _) _⟩
     refine ⟨_,rfl,HS1,?_⟩
     simp only [Act.put,List.setIfInBounds_toArray,List.set_cons_zero,List.set_cons_succ]
     refine heldRunT (d:=some 48) (op:=.convert 49 9 (Operand.tmp 47)) (g:=none) (t:=9) 6 (.string (strOf DT)) X rfl (by kernel_rfl) (by kernel_rfl) ?y6s HS1 ?_
     case y6s=>intro o' ho _;simp only [execOp,ho];simp only [Sem.run_bind,Sem.run_pure];refine (congrArg (fun r=>Result.andThen r _) hcv).trans ?_;rfl
     simp only [Act.put,List.setIfInBounds_toArray,List.set_cons_zero,List.set_cons_succ]
     refine heldTake (d:=some 49) (op:=.fieldAddr 61 (Operand.tmp 4) 4) (g:=none) 7 ?v7s rfl (by kernel_rfl) (by kernel_rfl) (by kernel_rfl) (by kernel_rfl) ?y7s HS1 ?_
     case y7s=>intro o' ho W hS;simp only [execOp,ho];go_simp;try rfl
     simp only [Act.put,List.setIfInBounds_toArray,List.set_cons_zero,List.set_cons_succ]
     refine heldStore (d:=none) (op:=.store 9 (Operand.tmp 49) (Operand.tmp 48)) (g:=none) (t:=0) 8 w5 rfl (by kernel_rfl) (by kernel_rfl) ?y8s HB5.out ?_
     case y8s=>intro o' ho ht;simp only [execOp,ho];go_simp;first | done | rw [hw5] | rfl
     simp only [Act.put]
     refine wpAnyH_done (by kernel_rfl) ?_ _
     refine NoPanic.normal ?_
     have HI:=fr_info (cs:=#[.bool fin,.int .i64 op,.bool true,.int .u8 (a:Int),.int .u8 (b:Int),.int .u8 (c:Int),.int .u8 (d:Int),.string (strOf DT)]) rfl
     obtain ⟨h0,h1,h2,h3,h4,h5,h6,h7⟩:=bx8 HY5.out
     clear HSX hcv hfz hc7 hw5 HZX HYX HS1 HXX
     go_wp2_with (refine wpList_store_row rfl 61 (.tmp 8) (.tmp 50) rfl (w.heap.size+1) #[.bool fin,.int .i64 op,.bool true,.int .u8 (a:Int),.int .u8 (b:Int),.int .u8 (c:Int),.int .u8 (d:Int),.string (strOf DT)] rfl rfl 61 #[.bool false,.int .i64 0,.bool false,.int .u8 0,.int .u8 0,.int .u8 0,.int .u8 0,.string {data:=#[]}] HZ5.out HI rfl (fr_all _ _ _ _ _ _ _ _) ?_)
     go_wp2
     refine bodyPost_ret (ret_fr rfl _ _ (w.heap.size+1) 61 _ (0,0) rfl (setRow_heap _ _ _ _ _ _ HZ5.out) rfl) rfl ?_
     rw [HQ.out]
     exact ⟨rfl,⟨below_setRow HB5.out (by omega) _⟩⟩
 | false =>
   obtain ⟨w1,hw1⟩:∃ w1,w.alloc (.cells #[.bool fin,.int .i64 op,.bool false,.int .u8 0,.int .u8 0,.int .u8 0,.int .u8 0,.string {data:=#[]}] 61)=w1:=⟨_,rfl⟩
   have h1s:w1.heap.size=w.heap.size+1:=by rw [← hw1];exact alloc_size _ _
   obtain ⟨w2,hw2⟩:∃ w2,w1.alloc (.cells #[.bool false,.int .i64 0,.bool false,.int .u8 0,.int .u8 0,.int .u8 0,.int .u8 0,.string {data:=#[]}] 61)=w2:=⟨_,rfl⟩
   have HB2:Sl (Below w.heap.size w w2):=⟨by rw [← hw2,← hw1];exact (bx_below w _).out.alloc (by rw [alloc_size];omega) _⟩
   have HY2:Sl (w2.heap[w.heap.size]? = some (.cells #[.bool fin,.int .i64 op,.bool false,.int .u8 0,.int .u8 0,.int .u8 0,.int .u8 0,.string {data:=#[]}] 61 (0,0))):=⟨by rw [← hw2,alloc_old _ _ _ (by omega),← hw1];exact bx_new _ _⟩
   have HZ2:Sl (w2.heap[w.heap.size+1]? = some (.cells #[.bool false,.int .i64 0,.bool false,.int .u8 0,.int .u8 0,.int .u8 0,.int .u8 0,.string {data:=#[]}] 61 (0,0))):=⟨by rw [← hw2,← h1s];exact bx_new _ _⟩
   obtain ⟨p0,p1,p2,p3,p4,p5,p6,p7⟩:=bx8 HY2.out
   have C1:=fun W=>keysize_n fin op false 0 0 0 0 {data:=#[]} 0 W rfl
   have z1:IntKind.i64.wrap (p:Int)=(p:Int):=by rw [IntKind.wrap_i64];omega
   rw [show ((0:Nat):Int)=0 from rfl] at C1
   go_enter Tryz.func137,Tryz.ntmps137
   go_wp2_with fail
   refine (C1 _).mono ?_
   rintro e w3 ⟨rfl,HX3⟩
   have HB3:Sl (Below w.heap.size w w3):=⟨HB2.out.trans (HX3.out.mono HB2.out.size)⟩
   have HY3:Sl (w3.heap[w.heap.size]? = some (.cells #[.bool fin,.int .i64 op,.bool false,.int .u8 0,.int .u8 0,.int .u8 0,.int .u8 0,.string {data:=#[]}] 61 (0,0))):=⟨below_key HY2.out HX3.out⟩
   have HZ3:Sl (w3.heap[w.heap.size+1]? = some (.cells #[.bool false,.int .i64 0,.bool false,.int .u8 0,.int .u8 0,.int .u8 0,.int .u8 0,.string {data:=#[]}] 61 (0,0))):=⟨below_key HZ2.out HX3.out⟩
   have HV3:Sl (SrcAt w3 (.slice (some ⟨sb,so,none⟩) L cap) bs):=⟨HV.out.below (Nat.le_refl _) HB3.out⟩
   clear HX3 HB2 HY2 HZ2 C1 p0 p1 p2 p3 p4 p5 p6 p7
   by_cases hL:L<p
   ·have hLq:((L:Int)<(p:Int))=True:=eq_true (by omega)
    have HQ:Sl (fillF fin op false p n (bs.drop p)=(Fr0,0,90)):=⟨by unfold fillF;rw [if_neg (by decide),if_pos (by rw [List.length_drop];omega)]⟩
    clear hL
    have HI:=fr_info (cs:=#[.bool false,.int .i64 0,.bool false,.int .u8 0,.int .u8 0,.int .u8 0,.int .u8 0,.string {data:=#[]}]) rfl
    go_wp2_with (refine wpList_store_row rfl 61 (.tmp 8) (.tmp 30) rfl (w.heap.size+1) #[.bool false,.int .i64 0,.bool false,.int .u8 0,.int .u8 0,.int .u8 0,.int .u8 0,.string {data:=#[]}] rfl rfl 61 #[.bool false,.int .i64 0,.bool false,.int .u8 0,.int .u8 0,.int .u8 0,.int .u8 0,.string {data:=#[]}] HZ3.out HI rfl (fr_all _ _ _ _ _ _ _ _) ?_)
    go_wp2
    refine bodyPost_ret (ret_fr rfl _ _ (w.heap.size+1) 61 _ (0,0) rfl (setRow_heap _ _ _ _ _ _ HZ3.out) rfl) rfl ?_
    rw [HQ.out]
    exact ⟨rfl,⟨below_setRow HB3.out (by omega) _⟩⟩
   ·have hLq:((L:Int)<(p:Int))=False:=eq_false (by omega)
    obtain ⟨r,hr⟩:∃ r,L-p=r:=⟨_,rfl⟩
    have z2:IntKind.i64.wrap ((L:Int)-(p:Int))=(r:Int):=by rw [IntKind.wrap_i64];omega
    have z3:IntKind.u64.wrap (r:Int)=(r:Int):=by rw [IntKind.wrap_u64];omega
    by_cases hrn:r<n
    ·have hrn':((r:Int)<(n:Int))=True:=eq_true (by omega)
     have HQ:Sl (fillF fin op false p n (bs.drop p)=(Fr0,0,90)):=⟨by unfold fillF;rw [if_neg (by decide),if_pos (by rw [List.length_drop];omega)]⟩
     clear hrn hL
     have HI:=fr_info (cs:=#[.bool false,.int .i64 0,.bool false,.int .u8 0,.int .u8 0,.int .u8 0,.int .u8 0,.string {data:=#[]}]) rfl
     go_wp2_with (refine wpList_store_row rfl 61 (.tmp 8) (.tmp 30) rfl (w.heap.size+1) #[.bool false,.int .i64 0,.bool false,.int .u8 0,.int .u8 0,.int .u8 0,.int .u8 0,.string {data:=#[]}] rfl rfl 61 #[.bool false,.int .i64 0,.bool false,.int .u8 0,.int .u8 0,.int .u8 0,.int .u8 0,.string {data:=#[]}] HZ3.out HI rfl (fr_all _ _ _ _ _ _ _ _) ?_)
     go_wp2
     refine bodyPost_ret (ret_fr rfl _ _ (w.heap.size+1) 61 _ (0,0) rfl (setRow_heap _ _ _ _ _ _ HZ3.out) rfl) rfl ?_
     rw [HQ.out]
     exact ⟨rfl,⟨below_setRow HB3.out (by omega) _⟩⟩
    ·have hrn':((r:Int)<(n:Int))=False:=eq_false (by omega)
     obtain ⟨en,hen⟩:∃ en,p+n=en:=⟨_,rfl⟩
     have hpq:p≤p:=by omega
     have hqc:p≤cap:=by omega
     have hqe:p≤en:=by omega
     have hec:en≤cap:=by omega
     obtain ⟨of4,hof4⟩:∃ of4,(if cap=p then so else so+p)=of4:=⟨_,rfl⟩
     obtain ⟨of6,hof6⟩:∃ of6,(if cap=p then so else so+p)=of6:=⟨_,rfl⟩
     have z4:IntKind.i64.wrap (n:Int)=(n:Int):=by rw [IntKind.wrap_i64];omega
     have z5:IntKind.i64.wrap ((p:Int)+(n:Int))=(en:Int):=by rw [IntKind.wrap_i64];omega
     go_upto_region 4 with fail
     obtain ⟨Rw,hR⟩:∃ Rw,w3.drew=Rw:=⟨_,rfl⟩
     have HBR:Sl (Below w.heap.size w Rw):=⟨by rw [← hR];exact HB3.out.drew⟩
     have HYR:Sl (Rw.heap[w.heap.size]? = some (.cells #[.bool fin,.int .i64 op,.bool false,.int .u8 0,.int .u8 0,.int .u8 0,.int .u8 0,.string {data:=#[]}] 61 (0,0))):=⟨by rw [← hR];exact HY3.out⟩
     have HZR:Sl (Rw.heap[w.heap.size+1]? = some (.cells #[.bool false,.int .i64 0,.bool false,.int .u8 0,.int .u8 0,.int .u8 0,.int .u8 0,.string {data:=#[]}] 61 (0,0))):=⟨by rw [← hR];exact HZ3.out⟩
     have HVR:Sl (SrcAt Rw (.slice (some ⟨sb,so,none⟩) L cap) bs):=⟨HV.out.below (Nat.le_refl _) HBR.out⟩
     have HS0:Below w.heap.size w Rw:=HBR.out
     refine wp_region_noPanic ?_
     refine wp_region_held (S:=fun W=>Below w.heap.size w W) (by kernel_rfl) ?_
     change wpAnyH _ _ _ _ _ _ _ _ w3.drew
     rw [hR]
     clear hR HB3 HY3 HZ3 HV3
     refine heldTake (d:=some 31) (op:=.fieldAddr 61 (Operand.tmp 4) 3) (g:=none) 0 ?v0rt rfl (by kernel_rfl) (by kernel_rfl) (by kernel_rfl) (by kernel_rfl) ?y0rt HS0 ?_
     case y0rt=>intro o' ho W hS;simp only [execOp,ho];go_simp;try rfl
     simp only [Act.put,List.setIfInBounds_toArray,List.set_cons_zero,List.set_cons_succ]
     refine heldTake (d:=some 32) (op:=.slice 59 (Operand.tmp 31) none none none) (g:=none) 1 ?v1rt rfl (by kernel_rfl) (by kernel_rfl) (by kernel_rfl) (by kernel_rfl) ?y1rt HS0 ?_
     case y1rt=>intro o' ho W hS;simp only [execOp,ho];go_simp;try rfl
     simp only [Act.put,List.setIfInBounds_toArray,List.set_cons_zero,List.set_cons_succ]
     refine heldTake (d:=some 33) (op:=.move (Operand.tmp 1)) (g:=none) 2 ?v2rt rfl (by kernel_rfl) (by kernel_rfl) (by kernel_rfl) (by kernel_rfl) ?y2rt HS0 ?_
     case y2rt=>intro o' ho W hS;simp only [execOp,ho];go_simp;try rfl
     simp only [Act.put,List.setIfInBounds_toArray,List.set_cons_zero,List.set_cons_succ]
     refine heldTake (d:=some 34) (op:=.move (Operand.tmp 2)) (g:=none) 3 ?v3rt rfl (by kernel_rfl) (by kernel_rfl) (by kernel_rfl) (by kernel_rfl) ?y3rt HS0 ?_
     case y3rt=>intro o' ho W hS;simp only [execOp,ho];go_simp;try rfl
     simp only [Act.put,List.setIfInBounds_toArray,List.set_cons_zero,List.set_cons_succ]
     refine heldTake (d:=some 35) (op:=.move (Operand.tmp 11)) (g:=none) 4 ?v4rt rfl (by kernel_rfl) (by kernel_rfl) (by kernel_rfl) (by kernel_rfl) ?y4rt HS0 ?_
     case y4rt=>intro o' ho W hS;simp only [execOp,ho];go_simp;try rfl
     simp only [Act.put,List.setIfInBounds_toArray,List.set_cons_zero,List.set_cons_succ]
     refine heldTake (d:=some 36) (op:=.slice 49 (Operand.tmp 33) (some (Operand.tmp 34)) (some (Operand.tmp 35)) none) (g:=none) 5 (.slice (some ⟨sb,of4,none⟩) 0 (cap-p)) rfl (by kernel_rfl) (by kernel_rfl) (by kernel_rfl) (by kernel_rfl) ?y5rt HS0 ?_
     case y5rt=>intro o' ho W hS;exact slice_run of4 hof4 ho (by rfl) (by rfl) (by rfl) (by omega) hpq hqc
     simp only [Act.put,List.setIfInBounds_toArray,List.set_cons_zero,List.set_cons_succ]
     obtain ⟨w4,hw4⟩:∃ W,Rw=W:=⟨_,rfl⟩
     have hcp:(Builtin.copy_ #[49,49] 3 #[.slice (some ⟨w.heap.size,3,none⟩) 4 4,.slice (some ⟨sb,of4,none⟩) 0 (cap-p)]).run Tryz.prog Rw=.ok (.int .i64 0) w4:=by
      rw [← hw4]
      exact copy_none
     have HB4:Sl (Below w.heap.size w w4):=⟨by rw [← hw4];exact HBR.out⟩
     have HY4:Sl (w4.heap[w.heap.size]? = some (.cells #[.bool fin,.int .i64 op,.bool false,.int .u8 0,.int .u8 0,.int .u8 0,.int .u8 0,.string {data:=#[]}] 61 (0,0))):=⟨by rw [← hw4];exact HYR.out⟩
     have HZ4:Sl (w4.heap[w.heap.size+1]? = some (.cells #[.bool false,.int .i64 0,.bool false,.int .u8 0,.int .u8 0,.int .u8 0,.int .u8 0,.string {data:=#[]}] 61 (0,0))):=⟨by rw [← hw4];exact HZR.out⟩
     refine heldRunT (d:=some 37) (op:=.call {callee:=Callee.builtin Builtin.copy,args:=#[Operand.tmp 32,Operand.tmp 36],argTypes:=#[49,49]}) (g:=none) (t:=3) 6 (.int .i64 0) w4 rfl (by kernel_rfl) (by kernel_rfl) ?y6ct HB4.out ?_
     case y6ct=>intro o' ho ht;simp only [execOp,ho,ht,resolve,invoke,builtin,Sem.run_bind,Sem.run_pure,Result.andThen_ok,List.map_toArray,List.map_cons,List.map_nil];refine (congrArg (fun r=>Result.andThen r _) hcp).trans ?_;rfl
     simp only [Act.put,List.setIfInBounds_toArray,List.set_cons_zero,List.set_cons_succ]
     refine wpAnyH_done (by kernel_rfl) ?_ _
     refine NoPanic.normal ?_
     clear HBR HYR HZR HVR HS0 hcp hw4
     have HV4:Sl (SrcAt w4 (.slice (some ⟨sb,so,none⟩) L cap) bs):=⟨HV.out.below (Nat.le_refl _) HB4.out⟩
     go_upto_region 6 with fail
     obtain ⟨Rw,hR⟩:∃ Rw,w4.drew=Rw:=⟨_,rfl⟩
     have HS0:Below w.heap.size w Rw:=by rw [← hR];exact HB4.out.drew
     have HYR:Rw.heap[w.heap.size]? = some (.cells #[.bool fin,.int .i64 op,.bool false,.int .u8 0,.int .u8 0,.int .u8 0,.int .u8 0,.string {data:=#[]}] 61 (0,0)):=by rw [← hR];exact HY4.out
     have HZR:Sl (Rw.heap[w.heap.size+1]? = some (.cells #[.bool false,.int .i64 0,.bool false,.int .u8 0,.int .u8 0,.int .u8 0,.int .u8 0,.string {data:=#[]}] 61 (0,0))):=⟨by rw [← hR];exact HZ4.out⟩
     have HVR:Sl (SrcAt Rw (.slice (some ⟨sb,so,none⟩) L cap) bs):=⟨HV.out.below (Nat.le_refl _) HS0⟩
     refine wp_region_noPanic ?_
     refine wp_region_held (S:=fun W=>Below w.heap.size w W) (by kernel_rfl) ?_
     change wpAnyH _ _ _ _ _ _ _ _ w4.drew
     rw [hR]
     clear hR HB4 HY4 HZ4 HV4
     refine heldTake (d:=some 43) (op:=.move (Operand.tmp 1)) (g:=none) 1 ?v1t rfl (by kernel_rfl) (by kernel_rfl) (by kernel_rfl) (by kernel_rfl) ?y1t HS0 ?_
     case y1t=>intro o' ho W hS;simp only [execOp,ho];go_simp;try rfl
     simp only [Act.put,List.setIfInBounds_toArray,List.set_cons_zero,List.set_cons_succ]
     refine heldTake (d:=some 44) (op:=.move (Operand.tmp 11)) (g:=none) 2 ?v2t rfl (by kernel_rfl) (by kernel_rfl) (by kernel_rfl) (by kernel_rfl) ?y2t HS0 ?_
     case y2t=>intro o' ho W hS;simp only [execOp,ho];go_simp;try rfl
     simp only [Act.put,List.setIfInBounds_toArray,List.set_cons_zero,List.set_cons_succ]
     refine heldTake (d:=some 45) (op:=.move (Operand.tmp 12)) (g:=none) 3 ?v3t rfl (by kernel_rfl) (by kernel_rfl) (by kernel_rfl) (by kernel_rfl) ?y3t HS0 ?_
     case y3t=>intro o' ho W hS;simp only [execOp,ho];go_simp;try rfl
     simp only [Act.put,List.setIfInBounds_toArray,List.set_cons_zero,List.set_cons_succ]
     refine heldTake (d:=some 46) (op:=.slice 49 (Operand.tmp 43) (some (Operand.tmp 44)) (some (Operand.tmp 45)) none) (g:=none) 4 (.slice (some ⟨sb,of6,none⟩) n (cap-p)) rfl (by kernel_rfl) (by kernel_rfl) (by kernel_rfl) (by kernel_rfl) ?y4t HS0 ?_
     case y4t=>intro o' ho W hS;exact slice_run of6 hof6 ho (by rfl) (by rfl) (by rfl) (by omega) hqe hec
     simp only [Act.put,List.setIfInBounds_toArray,List.set_cons_zero,List.set_cons_succ]
     refine heldRunT (d:=some 42) (op:=.load 61 (Operand.tmp 4)) (g:=none) (t:=61) 0 (.agg #[.bool fin,.int .i64 op,.bool false,.int .u8 0,.int .u8 0,.int .u8 0,.int .u8 0,.string {data:=#[]}]) Rw rfl (by kernel_rfl) (by kernel_rfl) ?y0t HS0 ?_
     case y0t=>intro o' ho _;exact loadbox8 ho (by rfl) rfl HYR
     simp only [Act.put,List.setIfInBounds_toArray,List.set_cons_zero,List.set_cons_succ]
     refine heldCall (d:=some 47) (op:=.call {callee:=Callee.value (Operand.func 161),args:=#[Operand.tmp 42,Operand.tmp 46],argTypes:=#[61,49]}) (g:=none) 5 161 #[.agg #[.bool fin,.int .i64 op,.bool false,.int .u8 0,.int .u8 0,.int .u8 0,.int .u8 0,.string {data:=#[]}],.slice (some ⟨sb,of6,none⟩) n (cap-p)] rfl (by kernel_rfl) (by kernel_rfl) ?y5t ?_
     case y5t=>intro o' ho;simp only [execOp,ho];go_simp;try rfl
     refine (turned_any fin op false 0 0 0 0 {data:=#[]} sb of6 n (cap-p) ((bs.drop p).take n) Rw (fun x hx=>by simp at hx;omega) (src_sub HVR.out p n (cap-p) of6 (fun _=>by rw [← hof6,if_neg (by omega)]) (by omega) (by omega) hl) ((hsm.drop p).take n) (by rw [List.length_take,List.length_drop];omega) (by omega)).mono ?_
     rintro e X ⟨gt,ot,ct,rfl,HSX,HXX⟩
     have HS1:Below w.heap.size w X:=HS0.trans (HXX.out.mono HS0.size)
     have HYX:X.heap[w.heap.size]? = some (.cells #[.bool fin,.int .i64 op,.bool false,.int .u8 0,.int .u8 0,.int .u8 0,.int .u8 0,.string {data:=#[]}] 61 (0,0)):=below_key HYR HXX.out
     have HZX:Sl (X.heap[w.heap.size+1]? = some (.cells #[.bool false,.int .i64 0,.bool false,.int .u8 0,.int .u8 0,.int .u8 0,.int .u8 0,.string {data:=#[]}] 61 (0,0))):=⟨below_key HZR.out HXX.out⟩
     obtain ⟨DT,hDT⟩:∃ DT,tb false [0,0,0,0] ((bs.drop p).take n)=DT:=⟨_,rfl⟩
     have HQ:Sl (fillF fin op false p n (bs.drop p)=(⟨fin,op,false,zero4,DT⟩,en,0)):=⟨by unfold fillF;rw [if_neg (by decide),if_neg (by rw [List.length_drop];omega),← hDT,hen];rfl⟩
     rw [hDT] at HSX
     have hcv:=HSX.out.conv
     obtain ⟨w5,hw5⟩:∃ W,X.setCell ⟨w.heap.size,7,none⟩ (.string (strOf DT))=W:=⟨_,rfl⟩
     have hfz:X.frozen? ⟨w.heap.size,7,none⟩=false:=frozen_of_row _ _ _ _ _ HYX
     have hc7:X.cell? ⟨w.heap.size,7,none⟩=some (.string {data:=#[]}):=(bx8 HYX).2.2.2.2.2.2.2
     have HY5:Sl (w5.heap[w.heap.size]? = some (.cells #[.bool fin,.int .i64 op,.bool false,.int .u8 0,.int .u8 0,.int .u8 0,.int .u8 0,.string (strOf DT)] 61 (0,0))):=⟨by rw [← hw5,heap_setCell_same _ _ _ _ _ _ HYX];rfl⟩
     have HZ5:Sl (w5.heap[w.heap.size+1]? = some (.cells #[.bool false,.int .i64 0,.bool false,.int .u8 0,.int .u8 0,.int .u8 0,.int .u8 0,.string {data:=#[]}] 61 (0,0))):=⟨by rw [← hw5,heap_setCell_other _ _ _ _ (by show w.heap.size+1≠w.heap.size;omega)];exact HZX.out⟩
     have HB5:Sl (Below w.heap.size w w5):=⟨by rw [← hw5];exact HS1.setCell (Nat.le_refl _) _⟩
     refine ⟨_,rfl,HS1,?_⟩
     simp only [Act.put,List.setIfInBounds_toArray,List.set_cons_zero,List.set_cons_succ]
     refine heldRunT (d:=some 48) (op:=.convert 49 9 (Operand.tmp 47)) (g:=none) (t:=9) 6 (.string (strOf DT)) X rfl (by kernel_rfl) (by kernel_rfl) ?y6t HS1 ?_
     case y6t=>intro o' ho _;simp only [execOp,ho];simp only [Sem.run_bind,Sem.run_pure];refine (congrArg (fun r=>Result.andThen r _) hcv).trans ?_;rfl
     simp only [Act.put,List.setIfInBounds_toArray,List.set_cons_zero,List.set_cons_succ]
     refine heldTake (d:=some 49) (op:=.fieldAddr 61 (Operand.tmp 4) 4) (g:=none) 7 ?v7t rfl (by kernel_rfl) (by kernel_rfl) (by kernel_rfl) (by kernel_rfl) ?y7t HS1 ?_
     case y7t=>intro o' ho W hS;simp only [execOp,ho];go_simp;try rfl
     simp only [Act.put,List.setIfInBounds_toArray,List.set_cons_zero,List.set_cons_succ]
     refine heldStore (d:=none) (op:=.store 9 (Operand.tmp 49) (Operand.tmp 48)) (g:=none) (t:=0) 8 w5 rfl (by kernel_rfl) (by kernel_rfl) ?y8t HB5.out ?_
     case y8t=>intro o' ho ht;simp only [execOp,ho];go_simp;first | done | rw [hw5] | rfl
     simp only [Act.put]
     refine wpAnyH_done (by kernel_rfl) ?_ _
     refine NoPanic.normal ?_
     have HI:=fr_info (cs:=#[.bool fin,.int .i64 op,.bool false,.int .u8 0,.int .u8 0,.int .u8 0,.int .u8 0,.string (strOf DT)]) rfl
     obtain ⟨h0,h1,h2,h3,h4,h5,h6,h7⟩:=bx8 HY5.out
     clear HSX hcv hfz hc7 hw5 HZX HYX HS1 HXX
     go_wp2_with (refine wpList_store_row rfl 61 (.tmp 8) (.tmp 50) rfl (w.heap.size+1) #[.bool fin,.int .i64 op,.bool false,.int .u8 0,.int .u8 0,.int .u8 0,.int .u8 0,.string (strOf DT)] rfl rfl 61 #[.bool false,.int .i64 0,.bool false,.int .u8 0,.int .u8 0,.int .u8 0,.int .u8 0,.string {data:=#[]}] HZ5.out HI rfl (fr_all _ _ _ _ _ _ _ _) ?_)
     go_wp2
     refine bodyPost_ret (ret_fr rfl _ _ (w.heap.size+1) 61 _ (0,0) rfl (setRow_heap _ _ _ _ _ _ HZ5.out) rfl) rfl ?_
     rw [HQ.out]
     exact ⟨rfl,⟨below_setRow HB5.out (by omega) _⟩⟩
end Go.Proofs.YtlahonjmfecikaaGreatDoor.Fra
