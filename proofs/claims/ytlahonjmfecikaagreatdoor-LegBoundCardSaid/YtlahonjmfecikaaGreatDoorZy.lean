/- The texts below, joined. -/
import Derived.Test.YtlahonjmfecikaaGreatDoorZx
set_option maxRecDepth 100000
set_option linter.unusedVariables false
set_option linter.unusedSimpArgs false
set_option maxRecDepth 100000
namespace Go.Proofs.YtlahonjmfecikaaGreatDoor.Leg
open Go.RowKit Go.WideShapes Go.ChangeShapes Evt
structure Ac where
 kind:Int
 op:Int
 code:Int
 n:Int
 s:ByteArray
def Ac0:Ac:=⟨0,0,0,0,ByteArray.empty⟩
def ac (x:Ac):List Value:=[.int .i64 x.kind,.int .i64 x.op,.int .i64 x.code,.int .i64 x.n,.string x.s]
structure AcOk (x:Ac):Prop where
 s:x.s.size≤maxLen
 n:-9223372036854775808≤x.n∧x.n≤9223372036854775807
def ActsAt (W:World) (v:Value) (es:List Ac):Prop :=
 ∃ (a:Option Addr) (cap sb so:Nat),v=.slice a es.length cap∧es.length≤cap∧(0<es.length→a=some ⟨sb,so,none⟩)∧∀ i,i<es.length→∀ j,j<5→W.cell? ⟨sb,so+i*5+j,none⟩=(ac (es.getD i Ac0))[j]?
theorem list5 {α:Type} {l:List α} (h:l.length=5):∃ a b c d e,l=[a,b,c,d,e] :=
 match l,h with
 | [a,b,c,d,e],_=>⟨a,b,c,d,e,rfl⟩
theorem ac_of_trod {H:Type} {enc:TypeId×Value→H} {W:World} {base fuel:Nat} {sp:Nat→Bool} {held:Bool} {cs:List Value} {x:DataW H×List MemPlace}
 (hf:DataW.trod enc Tryz.prog W base sp held fuel 40 cs=some x):∃ e,cs=ac e∧AcOk e:=by
 obtain ⟨xs,n,_,hx,hl,hxl,hf⟩:=DataW.trod_struct Tryz.underlying40 hf
 have c3:Tryz.prog.cellsOf 3=1:=by kernel_rfl
 have c9:Tryz.prog.cellsOf 9=1:=by kernel_rfl
 have cf:Tryz.prog.cellsOf 40=5:=by kernel_rfl
 rw [cf] at hl
 match xs,hxl with
 | [y0,y1,y2,y3,y4],_ =>
   have h0:DataW.trod enc Tryz.prog W base sp held n 3 ((cs.drop 0).take (Tryz.prog.cellsOf 3))=some y0:=hf 0 _ rfl
   have h1:DataW.trod enc Tryz.prog W base sp held n 3 ((cs.drop 1).take (Tryz.prog.cellsOf 3))=some y1:=hf 1 _ rfl
   have h2:DataW.trod enc Tryz.prog W base sp held n 3 ((cs.drop 2).take (Tryz.prog.cellsOf 3))=some y2:=hf 2 _ rfl
   have h3:DataW.trod enc Tryz.prog W base sp held n 3 ((cs.drop 3).take (Tryz.prog.cellsOf 3))=some y3:=hf 3 _ rfl
   have h4:DataW.trod enc Tryz.prog W base sp held n 9 ((cs.drop 4).take (Tryz.prog.cellsOf 9))=some y4:=hf 4 _ rfl
   obtain ⟨a0,a1,a2,a3,a4,hcs⟩:=list5 hl
   rw [hcs] at h0 h1 h2 h3 h4
   rw [c3] at h0 h1 h2 h3
   rw [c9] at h4
   simp only [List.drop_zero,List.drop_succ_cons,List.take_succ_cons,List.take_zero] at h0 h1 h2 h3 h4
   obtain ⟨f0,g0,_,w0⟩:=DataW.trod_int Tryz.underlying3 h0
   obtain ⟨f1,g1,_,w1⟩:=DataW.trod_int Tryz.underlying3 h1
   obtain ⟨f2,g2,_,w2⟩:=DataW.trod_int Tryz.underlying3 h2
   obtain ⟨f3,g3,_,w3⟩:=DataW.trod_int Tryz.underlying3 h3
   obtain ⟨f4,g4,_,w4⟩:=DataW.trod_string Tryz.underlying9 h4
   simp only [List.cons.injEq,and_true] at g0 g1 g2 g3 g4
   subst g0 g1 g2 g3 g4
   exact ⟨⟨f0,f1,f2,f3,f4⟩,hcs,w4,bounds_i64 w3⟩
theorem actsAt_of_trod {H:Type} {enc:TypeId×Value→H} {W:World} {ad:Option Addr} {len cap:Nat} {d:DataW H} {p:List MemPlace} (h:DataW.Trod enc Tryz.prog W 0 (fun _=>true) true 27 (.slice ad len cap) d p) :
 ∃ l,ActsAt W (.slice ad len cap) l∧(∀ e∈l,AcOk e)∧l.length≤maxLen:=by
 obtain ⟨fuel,hf⟩:=h
 have cf:Tryz.prog.cellsOf 40=5:=by kernel_rfl
 rcases DataW.trod_slice Tryz.underlying27 hf with ⟨hcs,_⟩ | ⟨a,len',cap',el,rest,n,_,hcs,_,hb,hl,hm,hz,hcell,_⟩
 ·simp [Value.cells] at hcs
  obtain ⟨rfl,rfl,rfl⟩:=hcs
  exact ⟨[],⟨none,0,0,0,rfl,by simp,fun h=>by simp at h,fun i hi=>by simp at hi⟩,fun f hf=>by simp at hf,by simp⟩
 ·simp [Value.cells] at hcs
  obtain ⟨rfl,rfl,rfl⟩:=hcs
  rw [cf] at hcell
  have hsome:∀ i,i<len→∃ x,el[i]? = some x:=fun i hi=>⟨el[i]'(by omega),List.getElem?_eq_getElem (by omega)⟩
  by_cases h0:len=0
  ·subst h0
   exact ⟨[],⟨some a,cap,0,0,rfl,by simp,fun h=>by simp at h,fun i hi=>by simp at hi⟩,fun f hf=>by simp at hf,by simp⟩
  ·have hspot:a.spot=none:=by
    obtain ⟨x,hx⟩:=hsome 0 (by omega)
    have hc:=hcell 0 (by omega)
    rw [hx,Option.bind_eq_some_iff] at hc
    obtain ⟨cs,hcs,_⟩:=hc
    obtain ⟨_,hlen,hce⟩:=World.cells?_some hcs
    have:=hce 0 (by omega)
    rw [List.getElem?_eq_getElem (by omega)] at this
    simpa [Addr.add] using World.cell?_spot this
   obtain ⟨b,off,spot⟩:=a
   simp only at hspot
   subst hspot
   obtain ⟨l,hll,hp⟩:=list_of Ac0 len (fun i e=>AcOk e∧∀ j,j<5→W.cell? ⟨b,off+i*5+j,none⟩=(ac e)[j]?) (fun i hi=>by
    obtain ⟨x,hx⟩:=hsome i hi
    have hc:=hcell i hi
    rw [hx,Addr.add_mid,Option.bind_eq_some_iff] at hc
    obtain ⟨cs,hcs,hd⟩:=hc
    obtain ⟨_,hlen,hce⟩:=World.cells?_some hcs
    obtain ⟨e,he,hok⟩:=ac_of_trod hd
    subst he
    refine ⟨e,hok,fun j hj=>?_⟩
    have:=hce j hj
    rw [Addr.add_mid] at this
    exact this)
   refine ⟨l,⟨some ⟨b,off,none⟩,cap,b,off,by rw [hll],by rw [hll];omega,fun _=>rfl,fun i hi=>(hp i (by omega)).2⟩,fun e he=>?_,by rw [hll];omega⟩
   obtain ⟨i,hi,rfl⟩:=List.getElem_of_mem he
   have:=(hp i (by omega)).1
   rwa [List.getD_eq_getElem?_getD,List.getElem?_eq_getElem hi] at this
end Go.Proofs.YtlahonjmfecikaaGreatDoor.Leg
