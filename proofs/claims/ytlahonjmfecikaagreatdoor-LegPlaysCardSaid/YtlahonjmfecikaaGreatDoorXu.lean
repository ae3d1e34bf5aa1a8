/- Texts, joined. -/
import Derived.Test.YtlahonjmfecikaaGreatDoorXg
import Derived.HandedShaped
import Derived.Lay
import Derived.LaidMore
import Derived.Lib.LaidTab
import Derived.Stop.Joined
import Derived.Stop.LaidErr
set_option maxRecDepth 100000
set_option maxHeartbeats 64000000
set_option linter.unusedVariables false
set_option linter.unusedSimpArgs false
open Go.Proofs.Tryz
namespace Go.Proofs.YtlahonjmfecikaaGreatDoor.Xh
open Go.ChangeShapes Go.WideShapes Go.ChangeAt Go.RowKit jF
def nM (r:Row):DataW Unit:=.agg [.lit (.int .u8 (r.first:Int)),.lit (.int .i64 (r.j9:Int)),.lit (.int .u64 (r.ek:Int)),.lit (.int .u64 (r.ae:Int))]
theorem uD {enc:TypeId×Value→Unit} {w:World} {base:Nat} {sp:Nat→Bool} {eU:Bool} {fuel:Nat} {cs:List Value} {r:Row} {p:List MemPlace}
 (h:DataW.trod enc prog w base sp eU fuel 214 cs=some (nM r,p)):cs=r.cells:=by
 obtain ⟨xs,n,_,hx,hl,bt,hf⟩:=DataW.trod_struct underlying214 h;have cw:prog.cellsOf 214=4:=by kernel_rfl
 have cu:prog.cellsOf 162=1:=by kernel_rfl
 have c3:prog.cellsOf 3=1:=by kernel_rfl
 have c5:prog.cellsOf 5=1:=by kernel_rfl
 rw [cw] at hl
 match xs,bt with
 | [y0,y1,y2,y3],_ =>
   have h0:=hf 0 _ rfl;have h1:=hf 1 _ rfl;have h2:=hf 2 _ rfl;have h3:=hf 3 _ rfl;simp only [List.getElem?_cons_zero,List.getElem?_cons_succ] at h0 h1 h2 h3;have om:=lG Prod.fst hx;simp only [nM,JJ,NT,DataW.agg.injEq,List.cons.injEq,and_true] at om;obtain ⟨e0,e1,e2,e3⟩:=om;obtain ⟨d0,p0⟩:=y0;obtain ⟨d1,p1⟩:=y1;obtain ⟨d2,p2⟩:=y2;obtain ⟨d3,p3⟩:=y3;simp only at e0 e1 e2 e3;subst e0 e1 e2 e3;obtain ⟨z0,g0,ic,_⟩:=FM underlying5 h0;obtain ⟨z1,g1,eI,_⟩:=FM underlying3 h1;obtain ⟨z2,g2,dz,_⟩:=FM underlying162 h2;obtain ⟨z3,g3,Ex,_⟩:=FM underlying162 h3
   match cs,hl with
   | [a0,a1,a2,a3],_ =>
     simp [c3,c5,cu] at g0 g1 g2 g3 ic eI dz Ex;subst g0 g1 g2 g3;rw [← ic.1,← eI.1,← dz.1,← Ex.1];rfl
theorem sK {enc:TypeId×Value→Unit} {w:World} {base:Nat} {sp:Nat→Bool} {eU:Bool} {fuel:Nat} {cs:List Value} {p:List MemPlace}
 (h:DataW.trod enc prog w base sp eU fuel 215 cs=some (.agg [nM Rz,nM RD],p)):cs=nZ:=by
 obtain ⟨xs,n,_,hx,hl,bt,hf⟩:=DataW.trod_array underlying215 h;have ct:prog.cellsOf 215=8:=by kernel_rfl
 have cw:prog.cellsOf 214=4:=by kernel_rfl
 rw [ct] at hl;rw [cw] at hf;have om:=lG Prod.fst hx;simp only [DataW.agg.injEq] at om
 match xs,bt with
 | [y0,y1],_ =>
   obtain ⟨d0,p0⟩:=y0;obtain ⟨d1,p1⟩:=y1;simp only [JJ,NT,List.cons.injEq,and_true] at om;obtain ⟨rfl,rfl⟩:=om;have k0:=uD (hf 0 (by decide));have k1:=uD (hf 1 (by decide));simp only [Nat.zero_mul,Nat.one_mul,Af] at k0 k1;rw [← Ee 4 cs,k0,← nC (l:=cs.drop 4) (i:=4) (by rw [iP,hl];decide),k1];rfl
end Go.Proofs.YtlahonjmfecikaaGreatDoor.Xh
namespace Go.Proofs.YtlahonjmfecikaaGreatDoor.Xi
open Go.ChangeShapes Go.WideShapes Go.ChangeAt Go.RowKit bg oq
def nM (r:Row):DataW Unit:=.agg [Lib.tabData .u8 [(r.lo:Int),(r.hi:Int)],.lit (.int .i64 (r.dY:Int)),Lib.tabData .u8 [(r.u4:Int),(r.u9:Int)]]
theorem uD {enc:TypeId×Value→Unit} {w:World} {base:Nat} {sp:Nat→Bool} {eU:Bool} {fuel:Nat} {cs:List Value} {r:Row} {p:List MemPlace}
 (h:DataW.trod enc prog w base sp eU fuel 220 cs=some (nM r,p)):cs=r.cells:=by
 obtain ⟨xs,n,_,hx,hl,bt,hf⟩:=DataW.trod_struct underlying220 h;have c51:prog.cellsOf 220=5:=by kernel_rfl
 have c43:prog.cellsOf 208=2:=by kernel_rfl
 have c3:prog.cellsOf 3=1:=by kernel_rfl
 have c5:prog.cellsOf 5=1:=by kernel_rfl
 rw [c51] at hl
 match xs,bt with
 | [y0,y1,y2],_ =>
   have h0:=hf 0 _ rfl;have h1:=hf 1 _ rfl;have h2:=hf 2 _ rfl;simp only [List.getElem?_cons_zero,List.getElem?_cons_succ] at h0 h1 h2;have om:=lG Prod.fst hx;simp only [nM,JJ,NT,DataW.agg.injEq,List.cons.injEq,and_true] at om;obtain ⟨e0,e1,e2⟩:=om;obtain ⟨d0,p0⟩:=y0;obtain ⟨d1,p1⟩:=y1;obtain ⟨d2,p2⟩:=y2;simp only at e0 e1 e2;subst e0 e1 e2;have g0:=Lib.cells_of_tab underlying208 underlying5 c5 c43 h0;have g2:=Lib.cells_of_tab underlying208 underlying5 c5 c43 h2;obtain ⟨z,g1,hz,_⟩:=FM underlying3 h1
   match cs,hl with
   | [a0,a1,a2,a3,a4],_ =>
     simp [c3] at g0 g1 g2 hz;obtain ⟨rfl,rfl⟩:=g0;obtain ⟨rfl,rfl⟩:=g2;subst g1;rw [← hz.1];rfl
theorem sK {enc:TypeId×Value→Unit} {w:World} {base:Nat} {sp:Nat→Bool} {eU:Bool} {fuel:Nat} {cs:List Value} {p:List MemPlace}
 (h:DataW.trod enc prog w base sp eU fuel 221 cs=some (.agg (Oy.map nM),p)):cs=nZ:=by
 obtain ⟨xs,n,_,hx,hl,bt,hf⟩:=DataW.trod_array underlying221 h;have Yv:prog.cellsOf 221=45:=by kernel_rfl
 have c51:prog.cellsOf 220=5:=by kernel_rfl
 rw [Yv] at hl;rw [c51] at hf;have om:=lG Prod.fst hx;simp only [DataW.agg.injEq] at om;have key:∀ i,i<9→(cs.drop (i*5)).take 5=(row i).cells:=by
  intro i hi;have h1:=hf i hi;have h2:(xs.map (·.1))[i]? = some (nM (row i)):=by
   rw [← om,List.getElem?_map];have:Oy[i]? = some (row i):=by
    unfold row;rw [List.getD];have hr:i<Oy.length:=hi;rw [lD hr];rfl
   rw [this];rfl
  rw [List.getElem?_map,Option.map_eq_some_iff] at h2;obtain ⟨⟨d,q⟩,h3,h4⟩:=h2;rw [h3] at h1;simp only at h4;subst h4;exact uD h1
 have k0:=key 0 (by decide);have k1:=key 1 (by decide);have k2:=key 2 (by decide);have k3:=key 3 (by decide);have k4:=key 4 (by decide);have k5:=key 5 (by decide);have k6:=key 6 (by decide);have k7:=key 7 (by decide);have k8:=key 8 (by decide);have e:cs=cs.take 5++((cs.drop 5).take 5++((cs.drop 10).take 5++((cs.drop 15).take 5++((cs.drop 20).take 5++((cs.drop 25).take 5++((cs.drop 30).take 5++((cs.drop 35).take 5++(cs.drop 40).take 5))))))):=by
  have st:∀ k,cs.drop k=(cs.drop k).take 5++cs.drop (k+5):=fun k=>by
   conv=>lhs;rw [← Ee 5 (cs.drop k)]
   rw [QN]
  have l40:(cs.drop 40).take 5=cs.drop 40:=nC (by rw [iP,hl];decide);rw [l40,← st 35,← st 30,← st 25,← st 20,← st 15,← st 10,← st 5,Ee]
 simp only [Nat.zero_mul,Nat.one_mul,Af,Nat.reduceMul] at k0 k1 k2 k3 k4 k5 k6 k7 k8;rw [e,k0,k1,k2,k3,k4,k5,k6,k7,k8];rfl
end Go.Proofs.YtlahonjmfecikaaGreatDoor.Xi
namespace Go.Proofs.YtlahonjmfecikaaGreatDoor
open Go.ChangeShapes Go.WideShapes Go.ChangeAt Go.RowKit
theorem UL:ownKnob prog.godebug=none:=by kernel_rfl
def kM:List (String×DataW Unit):=Rows.legReadsRow.laid
theorem WW (os:Os) (args:Array Value):laidMetH prog kM ((World.laidAll prog os kM).forCall (fun _ _=>0) ⟨#[],args,[]⟩).memory:=by
 rw [MakeChecks.laidMetH_plain _ _ _ (by kernel_rfl)];exact laidMet_laidAll _ (by kernel_rfl) (by kernel_rfl)
theorem LP (os:Os) (args:Array Value):((World.laidAll prog os kM).forCall (fun _ _=>0) ⟨#[],args,[]⟩).Shaped prog :=
 World.shaped_of_ZipB (by kernel_rfl) (by kernel_rfl)
def JE:DataW Unit:=.agg [Lib.tabData .u8 [97,122],Lib.tabData .u8 [65,90],Lib.tabData .u8 [48,57]]
theorem LQ {enc:TypeId×Value→Unit} {w:World} {base:Nat} {sp:Nat→Bool} {eU:Bool} {fuel:Nat} {cs:List Value} {p:List MemPlace}
 (h:DataW.trod enc prog w base sp eU fuel 200 cs=some (JE,p)):cs=Je:=by
 obtain ⟨xs,n,_,hx,hl,bt,hf⟩:=DataW.trod_array underlying200 h;have agZ:prog.cellsOf 200=6:=by kernel_rfl
 have Yv:prog.cellsOf 199=2:=by kernel_rfl
 have c5:prog.cellsOf 5=1:=by kernel_rfl
 rw [agZ] at hl;rw [Yv] at hf;have om:=lG Prod.fst hx;simp only [JE,DataW.agg.injEq] at om
 match xs,bt with
 | [y0,y1,y2],_ =>
   simp only [JJ,NT,List.cons.injEq,and_true] at om;obtain ⟨e0,e1,e2⟩:=om;have h0:=hf 0 (by decide);have h1:=hf 1 (by decide);have h2:=hf 2 (by decide);simp only [List.getElem?_cons_zero,List.getElem?_cons_succ] at h0 h1 h2;obtain ⟨d0,p0⟩:=y0;obtain ⟨d1,p1⟩:=y1;obtain ⟨d2,p2⟩:=y2;simp only at e0 e1 e2;subst e0 e1 e2;have g0:=Lib.cells_of_tab underlying199 underlying5 c5 Yv h0;have g1:=Lib.cells_of_tab underlying199 underlying5 c5 Yv h1;have g2:=Lib.cells_of_tab underlying199 underlying5 c5 Yv h2
   match cs,hl with
   | [a0,a1,a2,a3,a4,a5],_ =>
     simp at g0 g1 g2;obtain ⟨rfl,rfl⟩:=g0;obtain ⟨rfl,rfl⟩:=g1;obtain ⟨rfl,rfl⟩:=g2;rfl
theorem Eb {W:World} (h:laidMetH prog kM W) (hsh:W.ShapedOpen prog):jo.G3 W:=by
 rw [MakeChecks.laidMetH_plain _ _ _ (by kernel_rfl)] at h;have h2:=laidMet.tail h;have h3:=laidMet.tail h2;refine ⟨?_,?_,?_⟩
 ·obtain ⟨ps,⟨g',t',cs,fuel,p,q,ww,mL,Da,hd,_⟩,_⟩:=h3
  obtain rfl := QF ((show prog.globalNamed "pendentive/head.tokenSpans" = some 0 by kernel_rfl).symm.trans ww);obtain rfl:=QF ((show (prog.globals[0]?).map (·.type)=some 200 by kernel_rfl).symm.trans mL);have hc:=LQ hd;refine ⟨fun j v hv=>?_,Tryz.laysM144.s1_3 W hsh⟩;rw [vT,World.var?_cell ww Da j,← hv,← hc];simp
 ·obtain ⟨ps,⟨g',t',cs,fuel,p,q,ww,mL,Da,hd,_,_⟩,_⟩:=h
  obtain rfl := QF ((show prog.globalNamed "pendentive/mask.wides" = some 1 by kernel_rfl).symm.trans ww);obtain rfl:=QF ((show (prog.globals[1]?).map (·.type)=some 215 by kernel_rfl).symm.trans mL);have hc:=Xh.sK hd;refine ⟨fun j v hv=>?_⟩;rw [vT,World.var?_cell ww Da j,← hv,← hc];simp
 ·obtain ⟨ps,⟨g',t',cs,fuel,p,q,ww,mL,Da,hd,_,_⟩,_⟩:=h2
  obtain rfl := QF ((show prog.globalNamed "pendentive/utf.starts" = some 3 by kernel_rfl).symm.trans ww);obtain rfl:=QF ((show (prog.globals[3]?).map (·.type)=some 221 by kernel_rfl).symm.trans mL);have hc:=Xi.sK hd;refine ⟨fun j v hv=>?_⟩;rw [vT,World.var?_cell ww Da j,← hv,← hc];simp
theorem LU {H:Type} {enc:TypeId×Value→H} {os:Os} {f:FuncId} {fn:Func} {s:ChangeSpec}
 (ln:os.Started) (Uq:prog.inits.idxOf? f=none) (My:prog.funcs[f]? = some fn)
 (K5:∃ (w:World) (tape:Tape) (i:Input),w.os=os∧(w.forCall tape i).Shaped prog∧i.vars=[]∧Input.okWide prog (w.forCall tape i) .any w.heap.size f i ∧
  ((s.pre enc prog fn [] false (w.forCall tape i).memory i.args∧laidMetH prog kM (w.forCall tape i).memory)∧sizedMet enc prog fn (OpenSpec.ofChange s) false (w.forCall tape i).memory i.args)∧({} : Assume).holds prog (lone (Frame.enter prog f i.args .normal) [] (w.forCall tape i)))
 (Db:∀ (W:World) (base:Nat) (args:Array Value) (ds gs:List (DataW H)) (before:List MemPlace),
  (∀ (j:Nat) t v,fn.params[j]? = some t→args[j]? = some v→Value.okWide prog W .any base t v) →
  DataW.Whole enc prog fn.params.toList s.vars false W args.toList ds gs before→jo.G3 W →
  Calls prog f args W fun e W'=>∃ v,e=.returned v∧s.post enc prog fn false true false false W args v W') :
 ReturnsInHanded {} Tryz.checked os f .any (fun w args=>(s.pre enc prog fn [] false w args∧laidMetH prog kM w)∧sizedMet enc prog fn (OpenSpec.ofChange s) false w args) (s.post enc prog fn false true false false):=by
 refine returnsInHanded_of_calls (C:=Tryz.checked) UL ln Uq K5 ?_;intro w tape i _ hsh _ ep ag1 _;obtain ⟨_,_,_,fg,ag2,_,_,_,_,cK⟩:=ep;have e:fg=fn:=QF (ag2.symm.trans My);subst e;obtain ⟨⟨⟨ds,gs,before,hw,_⟩,hx⟩,_⟩:=ag1;have hw':=DataW.Whole.of_heap (w':=w.forCall tape i) (by rfl) hw;have hx':laidMetH prog kM (w.forCall tape i):=hx.of_heap (by rfl);refine (Db (w.forCall tape i) w.heap.size i.args ds gs before cK hw' (Eb hx' hsh)).mono fun e W' ⟨v,he,hp⟩=>?_
 subst he;exact ChangeSpec.post_blind hp
end Go.Proofs.YtlahonjmfecikaaGreatDoor
