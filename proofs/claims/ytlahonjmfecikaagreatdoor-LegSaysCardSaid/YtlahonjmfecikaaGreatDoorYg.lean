/- The texts below, joined. -/
import Derived.Test.YtlahonjmfecikaaGreatDoorYf
import Derived.Laws.StructEq
set_option maxRecDepth 100000
set_option linter.unusedVariables false
set_option linter.unusedSimpArgs false
set_option maxRecDepth 100000
namespace Go.Proofs.YtlahonjmfecikaaGreatDoor.Msg
open Go.RowKit UtfPlain MsgPlain Fra Utf Cls
open FramePlain (Fr form chk ctl zero4 form_cases)
open ClosePlain (getC)
def tookV (r:Ms×Option Ev):Value:=.tuple #[evO r.2,.bool r.2.isSome,.int .i64 (r.1.err:Int)]
theorem ret_took {fn:Func} {p u x:Tmp} (h:fn.results=#[.cell p 52,.tmp u,.tmp x]) (tmps:Array Value) (w:World) (g:Nat) (t:TypeId) (cs:Array Value) (fr:Nat×Nat)
 (hp:tmps.getD p undef=.pointer (some ⟨g,0,none⟩)) (hg:w.heap[g]? = some (.cells cs t fr)) (hs:cs.size=3) :
 (results fn tmps).run Tryz.prog w=.ok (.tuple #[.agg cs,tmps.getD u undef,tmps.getD x undef]) w:=by
 have hi:(Tryz.prog.info? 52).map (·.size)=some cs.size:=ev_info hs
 have hp':tmps[p]?.getD undef=.pointer (some ⟨g,0,none⟩):=by simpa using hp
 simp only [results,h]
 simp [Result.andThen,hp',asAddr,run_loadVar_row (P:=Tryz.prog) w g t 52 cs fr _ hg Tryz.underlying52 rfl hi]
theorem tell_no (n:FuncId) (cs:Array Value) (V:World):(binOp BinOp.eql 142 (Value.func (Fn.func n) #[] cs) Value.nilFunc).run Tryz.prog V=.ok (.bool false) V:=by kernel_rfl
theorem tell_yes (V:World):(binOp BinOp.eql 142 Value.nilFunc Value.nilFunc).run Tryz.prog V=.ok (.bool true) V:=by kernel_rfl
theorem took_on {w0 W w3:World} {b q:Nat} {most op:Int} {text:List Nat} {o:Option St} {err:Nat} {over:Bool} {v p v' p':Value} {t:TypeId} {old:Array Value} (hm:Mac w0 w3 b most op text o err over v' p') (hg:Goes W w3 b v p v' p') (_:w3.heap[q]? = some (.cells old t (0,0))) (hn:∀ k,Mine b v' p' k→k≠q) (hl:W.heap.size≤q) (h0:w0.heap.size≤W.heap.size) (cs:Array Value) :
 Mac w0 (w3.setRow q cs) b most op text o err over v' p'∧Goes W (w3.setRow q cs) b v p v' p':=by
 have hk:Kept (fun k=>k=q) w3 (w3.setRow q cs):=.grown (grown_setRow w3 q cs) (fun k hk=>by injection hk with hk;exact hk.symm)
 refine ⟨hm.stay hk hn ?_,⟨hg.kept.trans hk (fun j hj e=>?_),hg.mine⟩⟩
 ·refine below_setRow hm.L ?_ _
  omega
 ·omega
section
variable {w0 W:World} {b:Nat} {most:Int} {st:Ms} {v p:Value}
set_option maxHeartbeats 2000000 in
theorem take_any (h:MacS w0 W b most st v p) (hg:Utf.Globs w0) (fin:Bool) (op:Int) (m:Bool) (ka kb kc kd:Nat) (s:ByteArray) (hk:Small 256 [ka,kb,kc,kd]) (hs:s.size≤100000) :
 Calls Tryz.prog 52 #[.pointer (some ⟨b,0,none⟩),(.agg #[.bool fin,.int .i64 op,.bool m,.int .u8 ((ka:Nat):Int),.int .u8 ((kb:Nat):Int),.int .u8 ((kc:Nat):Int),.int .u8 ((kd:Nat):Int),.string s])] W fun e w'=>∃ v' p',e=.returned (tookV (MsgPlain.take most st (⟨fin,op,m,[ka,kb,kc,kd],bytes s⟩:Fr))) ∧
  Sl (MacS w0 w' b most (MsgPlain.take most st (⟨fin,op,m,[ka,kb,kc,kd],bytes s⟩:Fr)).1 v' p')∧Sl (Goes W w' b v p v' p'):=by
 obtain ⟨r,hr⟩:∃ r,MsgPlain.take most st (⟨fin,op,m,[ka,kb,kc,kd],bytes s⟩:Fr)=r:=⟨_,rfl⟩
 have HFit:Sl (Fit most r.1):=⟨by rw [← hr];exact fit_take (by have:=h.lo;omega) h.f (bytes_small s)⟩
 rw [hr]
 obtain ⟨W1,hW1⟩:∃ V,W.alloc (.cells #[.bool fin,.int .i64 op,.bool m,.int .u8 ((ka:Nat):Int),.int .u8 ((kb:Nat):Int),.int .u8 ((kc:Nat):Int),.int .u8 ((kd:Nat):Int),.string s] 61)=V:=⟨_,rfl⟩
 obtain ⟨W2,hW2⟩:∃ V,W1.alloc (.cells #[.int .i64 0,.int .i64 0,.string {data:=#[]}] 52)=V:=⟨_,rfl⟩
 obtain ⟨g,hgs⟩:∃ g,W.heap.size=g:=⟨_,rfl⟩
 obtain ⟨q,hqs⟩:∃ q,W1.heap.size=q:=⟨_,rfl⟩
 have hq1:q=g+1:=by rw [← hqs,← hW1,alloc_size,hgs]
 have HF1:W1.heap[g]? = some (.cells #[.bool fin,.int .i64 op,.bool m,.int .u8 ((ka:Nat):Int),.int .u8 ((kb:Nat):Int),.int .u8 ((kc:Nat):Int),.int .u8 ((kd:Nat):Int),.string s] 61 (0,0)):=by rw [← hW1];exact alloc_new _ _ _ hgs.symm
 have HB1:Below W.heap.size W W1:=by rw [← hW1];exact (Below.refl _ _).alloc (Nat.le_refl _) _
 have HB2:Below W1.heap.size W1 W2:=by rw [← hW2];exact (Below.refl _ _).alloc (Nat.le_refl _) _
 have HF2:Sl (W2.heap[g]? = some (.cells #[.bool fin,.int .i64 op,.bool m,.int .u8 ((ka:Nat):Int),.int .u8 ((kb:Nat):Int),.int .u8 ((kc:Nat):Int),.int .u8 ((kd:Nat):Int),.string s] 61 (0,0))):=⟨below_key HF1 HB2⟩
 have HQ2:Sl (W2.heap[q]? = some (.cells #[.int .i64 0,.int .i64 0,.string {data:=#[]}] 52 (0,0))):=⟨by rw [← hW2];exact alloc_new _ _ _ hqs.symm⟩
 have HB:Sl (Below W.heap.size W W2):=⟨HB1.trans (HB2.mono HB1.size)⟩
 have HNG:Sl (∀ k,Mine b v p k→k<g):=⟨fun k hk=>by rw [← hgs];exact (h.m.own hk).2⟩
 have HM2:=Sl.mk (h.below HB.out)
 have HM0:=Sl.mk h
 have HQL:Sl (W.heap.size≤q∧q<W2.heap.size∧W.heap.size=g):=⟨by rw [hgs];omega,(Array.getElem?_eq_some_iff.1 HQ2.out).1,hgs⟩
 have HI:=ev_info (cs:=#[.int .i64 0,.int .i64 0,.string {data:=#[]}]) rfl
 have HG:=Sl.mk hg
 have HS:=Sl.mk hs
 have HR:=Sl.mk hr
 have HK:=Sl.mk hk
 obtain ⟨_,_,_,_,e4,e5⟩:=HM2.out.m.cells
 clear hr hg hs hk h hq1 HF1 HB1 HB2
 by_cases hstop:st.err≠0∨st.over=true
 ·have HES:Sl (r=(st,none)):=⟨by rw [← HR.out];exact take_stop most hstop _⟩
  by_cases he:st.err=0
  ·have hov:st.over=true:=by
    rcases hstop with h | h
    ·exact absurd he h
    ·exact h
   have HE:=Sl.mk he
   rw [he] at e4
   rw [hov] at e5
   clear hstop he hov
   have HXM:=HM2.out.m.X
   go_enter Tryz.func52,Tryz.ntmps52
   go_upto_region 2 with fail
   obtain ⟨Rw,hRw⟩:∃ R,W2.drew=R:=⟨_,rfl⟩
   have HBR:Below W2.heap.size W2 Rw:=by rw [← hRw];exact (Below.refl _ _).drew
   refine wp_region_noPanic ?_
   refine wp_region_held (S:=fun V=>V.cell? ⟨b,4,none⟩=some (.int .i64 ((0:Nat):Int))) (by kernel_rfl) ?_
   change wpAnyH _ _ _ _ _ _ _ _ W2.drew
   rw [hRw]
   clear hRw
   have HS0:Rw.cell? ⟨b,4,none⟩=some (.int .i64 ((0:Nat):Int)):=(HBR.cell (p:=⟨b,4,none⟩) HM2.out.m.lt).trans e4
   have HQR:=below_key HQ2.out HBR
   refine heldTake (d:=some 20) (op:=.build 52 #[]) (g:=none) 0 ?v0s rfl (by kernel_rfl) (by kernel_rfl) (by kernel_rfl) (by kernel_rfl) ?y0s HS0 ?_
   case y0s=>intro o' ho W hS;simp only [execOp,ho];go_simp;try rfl
   simp only [Act.put,List.setIfInBounds_toArray,List.set_cons_zero,List.set_cons_succ]
   refine heldTake (d:=some 21) (op:=.move (Operand.tmp 0)) (g:=none) 1 ?v1s rfl (by kernel_rfl) (by kernel_rfl) (by kernel_rfl) (by kernel_rfl) ?y1s HS0 ?_
   case y1s=>intro o' ho W hS;simp only [execOp,ho];go_simp;try rfl
   simp only [Act.put,List.setIfInBounds_toArray,List.set_cons_zero,List.set_cons_succ]
   refine heldTake (d:=some 22) (op:=.nilCheck (Operand.tmp 21)) (g:=none) 2 ?v2s rfl (by kernel_rfl) (by kernel_rfl) (by kernel_rfl) (by kernel_rfl) ?y2s HS0 ?_
   case y2s=>intro o' ho W hS;simp only [execOp,ho];go_simp;try rfl
   simp only [Act.put,List.setIfInBounds_toArray,List.set_cons_zero,List.set_cons_succ]
   refine heldTake (d:=some 23) (op:=.fieldAddr 124 (Operand.tmp 22) 2) (g:=none) 3 ?v3s rfl (by kernel_rfl) (by kernel_rfl) (by kernel_rfl) (by kernel_rfl) ?y3s HS0 ?_
   case y3s=>intro o' ho W hS;simp only [execOp,ho];go_simp;try rfl
   simp only [Act.put,List.setIfInBounds_toArray,List.set_cons_zero,List.set_cons_succ]
   refine heldTake (d:=some 24) (op:=.load 31 (Operand.tmp 23)) (g:=none) 4 ?v4s rfl (by kernel_rfl) (by kernel_rfl) (by kernel_rfl) (by kernel_rfl) ?y4s HS0 ?_
   case y4s=>intro o' ho W hS;have hc:=hS;simp only [execOp,ho];go_simp;try rfl
   simp only [Act.put,List.setIfInBounds_toArray,List.set_cons_zero,List.set_cons_succ]
   obtain ⟨w3,hw3⟩:∃ V,Rw.setRow q #[.int .i64 0,.int .i64 0,.string {data:=#[]}]=V:=⟨_,rfl⟩
   have HQ3:Sl (w3.heap[q]? = some (.cells #[.int .i64 0,.int .i64 0,.string {data:=#[]}] 52 (0,0))):=⟨by rw [← hw3];exact setRow_heap _ _ _ _ _ _ HQR⟩
   have hbq:b≠q:=by have h1:=HNG.out b (.inl rfl);have h2:=HQL.out;omega
   have HS3:w3.cell? ⟨b,4,none⟩=some (.int .i64 ((0:Nat):Int)):=by rw [World.cell?_of_block (w:=Rw) (a:=⟨b,4,none⟩) (by rw [← hw3];exact setRow_other _ _ _ _ hbq)];exact HS0
   have hb3:Sl (Below W.heap.size W w3):=⟨by rw [← hw3];exact below_setRow (HB.out.trans (HBR.mono HB.out.size)) HQL.out.1 _⟩
   refine heldStore (d:=none) (op:=.store 52 (Operand.tmp 4) (Operand.tmp 20)) (g:=none) (t:=0) 5 w3 rfl (by kernel_rfl) (by kernel_rfl) ?y5s HS3 ?_
   case y5s=>intro o' ho ht;rw [← hw3];exact store_ev ho (by rfl) (by rfl) HQR rfl HI (ev_all _ _ _)
   simp only [Act.put]
   refine heldTake (d:=some 5) (op:=.assign (Operand.const (Value.bool false))) (g:=none) 6 ?v6s rfl (by kernel_rfl) (by kernel_rfl) (by kernel_rfl) (by kernel_rfl) ?y6s HS3 ?_
   case y6s=>intro o' ho W hS;simp only [execOp,ho];go_simp;try rfl
   simp only [Act.put,List.setIfInBounds_toArray,List.set_cons_zero,List.set_cons_succ]
   refine heldTake (d:=some 6) (op:=.assign (Operand.tmp 24)) (g:=none) 7 ?v7s rfl (by kernel_rfl) (by kernel_rfl) (by kernel_rfl) (by kernel_rfl) ?y7s HS3 ?_
   case y7s=>intro o' ho W hS;simp only [execOp,ho];go_simp;try rfl
   simp only [Act.put,List.setIfInBounds_toArray,List.set_cons_zero,List.set_cons_succ]
   refine wpAnyH_done (by kernel_rfl) ?_ _
   refine NoPanic.normal ?_
   clear HS0 HS3 HQR hw3 hbq HBR HXM
   go_wp2
   refine bodyPost_ret (ret_took rfl _ _ q 52 _ (0,0) rfl HQ3.out rfl) rfl ?_
   have HE2:=HES.out
   subst HE2
   exact ⟨v,p,by unfold tookV;rw [HE.out];rfl,⟨HM0.out.below hb3.out⟩,⟨Goes.below b v p hb3.out⟩⟩
  ·have hq:((st.err:Int) != 0)=true:=by simpa using he
   clear hstop he
   have HXM:=HM2.out.m.X
   go_enter Tryz.func52,Tryz.ntmps52
   go_upto_region 2 with fail
   obtain ⟨Rw,hRw⟩:∃ R,W2.drew=R:=⟨_,rfl⟩
   have HBR:Below W2.heap.size W2 Rw:=by rw [← hRw];exact (Below.refl _ _).drew
   refine wp_region_noPanic ?_
   refine wp_region_held (S:=fun V=>V.cell? ⟨b,4,none⟩=some (.int .i64 (st.err:Int))) (by kernel_rfl) ?_
   change wpAnyH _ _ _ _ _ _ _ _ W2.drew
   rw [hRw]
   clear hRw
   have HS0:Rw.cell? ⟨b,4,none⟩=some (.int .i64 (st.err:Int)):=(HBR.cell (p:=⟨b,4,none⟩) HM2.out.m.lt).trans e4
   have HQR:=below_key HQ2.out HBR
   refine heldTake (d:=some 20) (op:=.build 52 #[]) (g:=none) 0 ?v0t rfl (by kernel_rfl) (by kernel_rfl) (by kernel_rfl) (by kernel_rfl) ?y0t HS0 ?_
   case y0t=>intro o' ho W hS;simp only [execOp,ho];go_simp;try rfl
   simp only [Act.put,List.setIfInBounds_toArray,List.set_cons_zero,List.set_cons_succ]
   refine heldTake (d:=some 21) (op:=.move (Operand.tmp 0)) (g:=none) 1 ?v1t rfl (by kernel_rfl) (by kernel_rfl) (by kernel_rfl) (by kernel_rfl) ?y1t HS0 ?_
   case y1t=>intro o' ho W hS;simp only [execOp,ho];go_simp;try rfl
   simp only [Act.put,List.setIfInBounds_toArray,List.set_cons_zero,List.set_cons_succ]
   refine heldTake (d:=some 22) (op:=.nilCheck (Operand.tmp 21)) (g:=none) 2 ?v2t rfl (by kernel_rfl) (by kernel_rfl) (by kernel_rfl) (by kernel_rfl) ?y2t HS0 ?_
   case y2t=>intro o' ho W hS;simp only [execOp,ho];go_simp;try rfl
   simp only [Act.put,List.setIfInBounds_toArray,List.set_cons_zero,List.set_cons_succ]
   refine heldTake (d:=some 23) (op:=.fieldAddr 124 (Operand.tmp 22) 2) (g:=none) 3 ?v3t rfl (by kernel_rfl) (by kernel_rfl) (by kernel_rfl) (by kernel_rfl) ?y3t HS0 ?_
   case y3t=>intro o' ho W hS;simp only [execOp,ho];go_simp;try rfl
   simp only [Act.put,List.setIfInBounds_toArray,List.set_cons_zero,List.set_cons_succ]
   refine heldTake (d:=some 24) (op:=.load 31 (Operand.tmp 23)) (g:=none) 4 ?v4t rfl (by kernel_rfl) (by kernel_rfl) (by kernel_rfl) (by kernel_rfl) ?y4t HS0 ?_
   case y4t=>intro o' ho W hS;have hc:=hS;simp only [execOp,ho];go_simp;try rfl
   simp only [Act.put,List.setIfInBounds_toArray,List.set_cons_zero,List.set_cons_succ]
   obtain ⟨w3,hw3⟩:∃ V,Rw.setRow q #[.int .i64 0,.int .i64 0,.string {data:=#[]}]=V:=⟨_,rfl⟩
   have HQ3:Sl (w3.heap[q]? = some (.cells #[.int .i64 0,.int .i64 0,.string {data:=#[]}] 52 (0,0))):=⟨by rw [← hw3];exact setRow_heap _ _ _ _ _ _ HQR⟩
   have hbq:b≠q:=by have h1:=HNG.out b (.inl rfl);have h2:=HQL.out;omega
   have HS3:w3.cell? ⟨b,4,none⟩=some (.int .i64 (st.err:Int)):=by rw [World.cell?_of_block (w:=Rw) (a:=⟨b,4,none⟩) (by rw [← hw3];exact setRow_other _ _ _ _ hbq)];exact HS0
   have hb3:Sl (Below W.heap.size W w3):=⟨by rw [← hw3];exact below_setRow (HB.out.trans (HBR.mono HB.out.size)) HQL.out.1 _⟩
   refine heldStore (d:=none) (op:=.store 52 (Operand.tmp 4) (Operand.tmp 20)) (g:=none) (t:=0) 5 w3 rfl (by kernel_rfl) (by kernel_rfl) ?y5t HS3 ?_
   case y5t=>intro o' ho ht;rw [← hw3];exact store_ev ho (by rfl) (by rfl) HQR rfl HI (ev_all _ _ _)
   simp only [Act.put]
   refine heldTake (d:=some 5) (op:=.assign (Operand.const (Value.bool false))) (g:=none) 6 ?v6t rfl (by kernel_rfl) (by kernel_rfl) (by kernel_rfl) (by kernel_rfl) ?y6t HS3 ?_
   case y6t=>intro o' ho W hS;simp only [execOp,ho];go_simp;try rfl
   simp only [Act.put,List.setIfInBounds_toArray,List.set_cons_zero,List.set_cons_succ]
   refine heldTake (d:=some 6) (op:=.assign (Operand.tmp 24)) (g:=none) 7 ?v7t rfl (by kernel_rfl) (by kernel_rfl) (by kernel_rfl) (by kernel_rfl) ?y7t HS3 ?_
   case y7t=>intro o' ho W hS;simp only [execOp,ho];go_simp;try rfl
   simp only [Act.put,List.setIfInBounds_toArray,List.set_cons_zero,List.set_cons_succ]
   refine wpAnyH_done (by kernel_rfl) ?_ _
   refine NoPanic.normal ?_
   clear HS0 HS3 HQR hw3 hbq HBR HXM
   go_wp2
   refine bodyPost_ret (ret_took rfl _ _ q 52 _ (0,0) rfl HQ3.out rfl) rfl ?_
   have HE2:=HES.out
   subst HE2
   exact ⟨v,p,rfl,⟨HM0.out.below hb3.out⟩,⟨Goes.below b v p hb3.out⟩⟩
 ·have he:st.err=0:=by
   by_cases h:st.err=0
   ·exact h
   ·exact absurd (.inl h) hstop
  have hov:st.over=false:=by
   cases h:st.over with
   | true=>exact absurd (.inr h) hstop
   | false=>rfl
  have HST:Sl (MsgPlain.step most st (⟨fin,op,m,[ka,kb,kc,kd],bytes s⟩:Fr)=r):=⟨by rw [← HR.out,take_go most he hov]⟩
  have CR:=read_any HM2.out he hov HG.out fin op m ka kb kc kd s HK.out HS.out
  rw [HST.out] at CR
  have HERR:Sl (r.1.err≠0→r.2=none):=⟨fun hne=>by
   by_cases h:r.2=none
   ·exact h
   ·have h2:=step_err (most:=most) (f:=(⟨fin,op,m,[ka,kb,kc,kd],bytes s⟩:Fr)) he (by rw [HST.out];exact h)
    rw [HST.out] at h2
    exact absurd h2 hne⟩
  rw [he] at e4
  rw [hov] at e5
  obtain ⟨g0,g1,g2,g3,g4,g5,g6,g7⟩:=bx8 HF2.out
  clear hstop he hov
  go_enter Tryz.func52,Tryz.ntmps52
  go_wp2_with fail
  refine CR.mono ?_
  rintro e w3 ⟨v',p',tv,rfl,HWT⟩
  clear CR g0 g1 g2 g3 g4 g5 g6 g7
  have HQ3:Sl (w3.heap[q]? = some (.cells #[.int .i64 0,.int .i64 0,.string {data:=#[]}] 52 (0,0))):=⟨by
   rw [HWT.out.goes.kept.block q HQL.out.2.1 (fun e=>by have h1:=HNG.out q e;have h2:=HQL.out;omega)]
   exact HQ2.out⟩
  have HGW:Sl (Goes W w3 b v p v' p'):=⟨(Goes.below b v p HB.out).trans HWT.out.goes⟩
  have HQN:Sl (∀ k,Mine b v' p' k→k≠q):=⟨fun k hk e=>by
   subst e
   have h2:=HQL.out
   rcases HWT.out.goes.mine k hk with h | h
   ·have:=HNG.out k h;omega
   ·omega⟩
  by_cases hz:r.1.err=0
  ·obtain ⟨op',text',o',hm,heq⟩:=HWT.out.mac
   obtain ⟨q1,q2,q3⟩:=heq hz
   subst q1 q2 q3
   have HMM:=Sl.mk hm
   have ht:=HWT.out.tell hz
   have HZ:=Sl.mk hz
   clear hm heq
   cases hev:r.2 with
   | none =>
     rw [hev] at ht
     have ht':tv=.nilFunc:=ht
     subst ht'
     have HEV:=Sl.mk hev
     rw [hz]
     clear hev ht hz e4 e5
     have hny:=tell_yes
     go_wp2_with (refine wpList_store_row rfl 52 (.tmp 4) (.tmp 45) rfl q #[.int .i64 0,.int .i64 0,.string {data:=#[]}] rfl rfl 52 #[.int .i64 0,.int .i64 0,.string {data:=#[]}] HQ3.out HI rfl (ev_all _ _ _) ?_)
     refine bodyPost_ret (ret_took rfl _ _ q 52 _ (0,0) rfl (setRow_heap _ _ _ _ _ _ HQ3.out) rfl) rfl ?_
     have hE:=HEV.out
     obtain ⟨r1,r2⟩:=r
     simp only at hE
     subst hE
     have hz:=HZ.out
     simp only at hz
     obtain ⟨hm4,hg4⟩:=took_on HMM.out HGW.out HQ3.out HQN.out HQL.out.1 HM0.out.m.L.size #[.int .i64 0,.int .i64 0,.string {data:=#[]}]
     exact ⟨v',p',by unfold tookV;rw [hz];rfl,⟨⟨by rw [hz];exact hm4,HFit.out,HM0.out.lo,HM0.out.hi⟩⟩,⟨hg4⟩⟩
   | some x =>
     rw [hev] at ht
     obtain ⟨n,cs,ht1,hen,hca⟩:=ht
     subst ht1
     have HEV:=Sl.mk hev
     rw [hz]
     clear hev hz e4 e5
     have hnf:=tell_no n cs
     go_wp2_with fail
     refine hca.mono ?_
     rintro e w4 ⟨rfl,HB4⟩
     have HQ4:Sl (w4.heap[q]? = some (.cells #[.int .i64 0,.int .i64 0,.string {data:=#[]}] 52 (0,0))):=⟨below_key HQ3.out HB4.out⟩
     have HIX:=ev_info (cs:=evC x.op x.code (strOf x.data)) rfl
     clear hca hen hnf HI
     go_wp2_with (refine wpList_store_row rfl 52 (.tmp 4) (.tmp 47) rfl q (evC x.op x.code (strOf x.data)) rfl rfl 52 #[.int .i64 0,.int .i64 0,.string {data:=#[]}] HQ4.out HIX rfl (ev_all _ _ _) ?_)
     refine bodyPost_ret (ret_took rfl _ _ q 52 _ (0,0) rfl (setRow_heap _ _ _ _ _ _ HQ4.out) rfl) rfl ?_
     have hE:=HEV.out
     obtain ⟨r1,r2⟩:=r
     simp only at hE
     subst hE
     have hz:=HZ.out
     simp only at hz
     obtain ⟨hm4,hg4⟩:=took_on (HMM.out.below HB4.out) (HGW.out.trans (Goes.below b _ _ HB4.out)) HQ4.out HQN.out HQL.out.1 HM0.out.m.L.size (evC x.op x.code (strOf x.data))
     exact ⟨v',p',by unfold tookV;rw [hz];rfl,⟨⟨by rw [hz];exact hm4,HFit.out,HM0.out.lo,HM0.out.hi⟩⟩,⟨hg4⟩⟩
  ·have hzq:((r.1.err:Int) != 0)=true:=by simpa using hz
   obtain ⟨op',text',o',hm,_⟩:=HWT.out.mac
   have hov:r.1.over=false:=by rw [HFit.out.err hz];rfl
   rw [hov] at hm
   have HMM:=Sl.mk hm
   obtain ⟨_,d1,d2,d3,d4,_⟩:=hm.cells
   have f1:=hm.froz 1
   have f2:=hm.froz 2
   have f3:=hm.froz 3
   have f4:=hm.froz 4
   have HZ:=Sl.mk hz
   have hX:(w3.setCell ⟨b,4,none⟩ (.int .i64 (r.1.err:Int))).heap[b]? = some (.cells #[.int .i64 most,.int .i64 op',v',p',.int .i64 (r.1.err:Int),.bool false] 124 (0,0)):=by
    rw [heap_setCell_same _ _ _ _ _ _ hm.X];rfl
   obtain ⟨hm4,hg4,hr4⟩:=wiped hm (grown_setCell _ _ _ _) hX
   obtain ⟨w4,hw4⟩:∃ V,(((w3.setCell ⟨b,4,none⟩ (.int .i64 (r.1.err:Int))).setCell ⟨b,1,none⟩ (.int .i64 0)).setCell ⟨b,2,none⟩ (.slice none 0 0)).setCell ⟨b,3,none⟩ (.pointer none)=V:=⟨_,rfl⟩
   rw [hw4] at hm4 hg4 hr4
   have hbq:b≠q:=by have h1:=HNG.out b (.inl rfl);have h2:=HQL.out;omega
   have HQ4:Sl (w4.heap[q]? = some (.cells #[.int .i64 0,.int .i64 0,.string {data:=#[]}] 52 (0,0))):=⟨by rw [hr4.block q (Array.getElem?_eq_some_iff.1 HQ3.out).1 (fun e=>hbq (by injection e with e;exact e.symm))];exact HQ3.out⟩
   have HM4:=Sl.mk hm4
   have HG4:=Sl.mk (HGW.out.trans hg4)
   clear hm hov hz hX hm4 hg4 hr4 hbq e4 e5
   go_upto_region 6 with fail
   clear hw4 d1 d2 d3 d4 f1 f2 f3 f4
   go_wp2_with (refine wpList_store_row rfl 52 (.tmp 4) (.tmp 41) rfl q #[.int .i64 0,.int .i64 0,.string {data:=#[]}] rfl rfl 52 #[.int .i64 0,.int .i64 0,.string {data:=#[]}] HQ4.out HI rfl (ev_all _ _ _) ?_)
   refine bodyPost_ret (ret_took rfl _ _ q 52 _ (0,0) rfl (setRow_heap _ _ _ _ _ _ HQ4.out) rfl) rfl ?_
   have hz:=HZ.out
   have hE:=HERR.out hz
   have hb:=HFit.out.err hz
   obtain ⟨r1,r2⟩:=r
   simp only at hE hb hz
   subst hE
   obtain ⟨hm5,hg5⟩:=took_on HM4.out HG4.out HQ4.out (fun k hk e=>by have:=mine_zero hk;have h1:=HNG.out b (.inl rfl);have h2:=HQL.out;omega) HQL.out.1 HM0.out.m.L.size #[.int .i64 0,.int .i64 0,.string {data:=#[]}]
   refine ⟨_,_,rfl,⟨⟨?_,HFit.out,HM0.out.lo,HM0.out.hi⟩⟩,⟨hg5⟩⟩
   rw [hb]
   exact hm5
end
end Go.Proofs.YtlahonjmfecikaaGreatDoor.Msg
set_option maxRecDepth 100000
namespace Go.Proofs.YtlahonjmfecikaaGreatDoor.Msg
open Go.RowKit UtfPlain MsgPlain Fra Utf Cls
open FramePlain (Fr form chk ctl zero4 form_cases)
open ClosePlain (getC)
theorem evO_any (x:Option Ev):∃ o c t,evO x=.agg #[.int .i64 o,.int .i64 c,.string t]:=by
 cases x with
 | none=>exact ⟨_,_,_,rfl⟩
 | some e=>exact ⟨_,_,_,rfl⟩
theorem eq_ev (o c:Int) (s:ByteArray) (o' c':Int) (s':ByteArray) (W:World):(Op.equalIn 10000 52 (.agg #[.int .i64 o,.int .i64 c,.string s]) (.agg #[.int .i64 o',.int .i64 c',.string s'])).run Tryz.prog W=.ok ((o==o')&&((c==c')&&(s.toList==s'.toList))) W:=by
 have hp:Tryz.prog.stoodInHeld 52=false:=by kernel_rfl
 have hu:Tryz.prog.underlying 52=some (.struct (Tryz.prog.fieldsOf 52)):=by kernel_rfl
 have hf : (Tryz.prog.fieldsOf 52).toList = [⟨"Op", 3, 0, false, "", "", 0⟩, ⟨"Code", 3, 1, false, "", "", 8⟩, ⟨"Data", 9, 2, false, "", "", 16⟩] := by kernel_rfl
 rw [run_equalIn_struct W 9999 52 _ _ hu hp,hf]
 have e3:∀ (p q:Int) (w:World),(Op.equalIn 9999 3 (.int .i64 p) (.int .i64 q)).run Tryz.prog w=.ok (p==q) w:=fun p q w=>run_equalIn_int w 9998 3 .i64 .i64 p q Tryz.underlying3
 have e9:∀ (p q:ByteArray) (w:World),(Op.equalIn 9999 9 (.string p) (.string q)).run Tryz.prog w=.ok (p.toList==q.toList) w:=fun p q w=>run_equalIn_string w 9998 9 p q Tryz.underlying9
 have p0:∀ (o c:Int) (s:ByteArray) (w:World),(part 3 #[.int .i64 o,.int .i64 c,.string s] 0).run Tryz.prog w=.ok (.int .i64 o) w:=fun o c s w=>by kernel_rfl
 have p1:∀ (o c:Int) (s:ByteArray) (w:World),(part 3 #[.int .i64 o,.int .i64 c,.string s] 1).run Tryz.prog w=.ok (.int .i64 c) w:=fun o c s w=>by kernel_rfl
 have p2:∀ (o c:Int) (s:ByteArray) (w:World),(part 9 #[.int .i64 o,.int .i64 c,.string s] 2).run Tryz.prog w=.ok (.string s) w:=fun o c s w=>by kernel_rfl
 have n0 : ("Op" ≠ "_") = True := eq_true (by decide)
 have n1 : ("Code" ≠ "_") = True := eq_true (by decide)
 have n2 : ("Data" ≠ "_") = True := eq_true (by decide)
 cases h0:(o==o')<;>cases h1:(c==c')<;>cases h2:(s.toList==s'.toList)<;>
  simp only [Op.eqFields,n0,n1,n2,if_true,Sem.run_bind,Sem.run_pure,Sem.run_ite,p0,p1,p2,e3,e9,h0,h1,h2,Result.andThen_ok,Bool.not_true,Bool.not_false,Bool.false_eq_true,if_false,Bool.true_and,Bool.false_and,Bool.and_true]
theorem ev_same (o c:Int) (s:ByteArray) (W:World):(Op.equalIn 10000 52 (.agg #[.int .i64 o,.int .i64 c,.string s]) (.agg #[.int .i64 o,.int .i64 c,.string s])).run Tryz.prog W=.ok true W :=
 (eq_ev o c s o c s W).trans (congrArg (fun b=>Result.ok b W) (by simp))
theorem ev_cells {W:World} {g:Nat} {o c:Int} {s:ByteArray} (h:W.heap[g]? = some (.cells #[.int .i64 o,.int .i64 c,.string s] 52 (0,0))):W.cell? ⟨g,0,none⟩=some (.int .i64 o)∧W.cell? ⟨g,1,none⟩=some (.int .i64 c)∧W.cell? ⟨g,2,none⟩=some (.string s):=by
 refine ⟨?_,?_,?_⟩<;>(rw [cell_of_row _ _ _ _ _ _ h];rfl)
section
variable {w0 W:World} {b:Nat} {most:Int} {st:Ms} {v p:Value}
theorem take_ex (h:MacS w0 W b most st v p) (hg:Utf.Globs w0) (fin:Bool) (op:Int) (m:Bool) (ka kb kc kd:Nat) (s:ByteArray) (hk:Small 256 [ka,kb,kc,kd]) (hs:s.size≤100000) (fv:Value) (hf:(.agg #[.bool fin,.int .i64 op,.bool m,.int .u8 ((ka:Nat):Int),.int .u8 ((kb:Nat):Int),.int .u8 ((kc:Nat):Int),.int .u8 ((kd:Nat):Int),.string s])=fv)
 (st':Ms) (x:Option Ev) (hr:MsgPlain.take most st (⟨fin,op,m,[ka,kb,kc,kd],bytes s⟩:Fr)=(st',x)) (o c:Int) (t:ByteArray) (hx:evO x=.agg #[.int .i64 o,.int .i64 c,.string t]) (d:Bool) (hd:x.isSome=d) (k:Int) (hk2:(st'.err:Int)=k) :
 Calls Tryz.prog 52 #[.pointer (some ⟨b,0,none⟩),fv] W fun e w'=>∃ v' p',e=.returned (.tuple #[.agg #[.int .i64 o,.int .i64 c,.string t],.bool d,.int .i64 k]) ∧
  Sl (MacS w0 w' b most st' v' p')∧Sl (Goes W w' b v p v' p'):=by
 subst hf
 refine (take_any h hg fin op m ka kb kc kd s hk hs).mono ?_
 rintro e w' ⟨v',p',rfl,h1,h2⟩
 refine ⟨v',p',?_,by rw [hr] at h1;exact h1,h2⟩
 rw [hr]
 unfold tookV
 rw [hx,hd,hk2]
end
theorem MacS.keeps {w0 W V w':World} {b q:Nat} {most:Int} {st:Ms} {v p v' p':Value} {x:Obj} (h:MacS w0 W b most st v p) (hq:W.heap.size≤q) (hV:V.heap[q]? = some x) (hg:Goes V w' b v p v' p'):w'.heap[q]? = some x:=by
 rw [hg.kept.block q (Array.getElem?_eq_some_iff.1 hV).1 (fun e=>by have:=(h.m.own e).2;omega)];exact hV
end Go.Proofs.YtlahonjmfecikaaGreatDoor.Msg
set_option maxRecDepth 100000
namespace Go.Proofs.YtlahonjmfecikaaGreatDoor.Msg
open Go.RowKit Go.WideShapes Go.ChangeShapes UtfPlain MsgPlain Fra Utf Cls
open Stm (cv FrsAt FrOk fr_parts)
open FramePlain (Fr Fr0 form chk ctl zero4 form_cases)
open ClosePlain (getC)
end Go.Proofs.YtlahonjmfecikaaGreatDoor.Msg
set_option maxRecDepth 100000
namespace Go.Proofs.YtlahonjmfecikaaGreatDoor.Msg
open Go.RowKit UtfPlain MsgPlain Fra Utf Cls
open FramePlain (Fr form chk ctl zero4 form_cases)
open ClosePlain (getC)
structure Pair (w0 W:World) (b:Nat) (most:Int) (st:Ms) (v p:Value) (b2:Nat) (most2:Int) (st2:Ms) (v2 p2:Value):Prop where
 one:MacS w0 W b most st v p
 two:MacS w0 W b2 most2 st2 v2 p2
 ap:∀ k,Mine b v p k→¬ Mine b2 v2 p2 k
section
variable {w0 W W':World} {b b2:Nat} {most most2:Int} {st st' st2:Ms} {v p v' p' v2 p2:Value}
theorem Pair.below (h:Pair w0 W b most st v p b2 most2 st2 v2 p2) (hB:Below W.heap.size W W'):Pair w0 W' b most st v p b2 most2 st2 v2 p2:=⟨h.one.below hB,h.two.below hB,h.ap⟩
theorem Pair.symm (h:Pair w0 W b most st v p b2 most2 st2 v2 p2):Pair w0 W b2 most2 st2 v2 p2 b most st v p:=⟨h.two,h.one,fun k hk e=>h.ap k e hk⟩
end
end Go.Proofs.YtlahonjmfecikaaGreatDoor.Msg
set_option maxRecDepth 100000
namespace Go.Proofs.YtlahonjmfecikaaGreatDoor.Cut
open Go.RowKit MaskPlain Mas Fra Stm CutPlain
open FramePlain (Fr Fr0 form chk ctl zero4)
def fromF (a:Option Addr) (k cap:Nat):Option Addr:=if cap=k then a else a.map (·.add (k*8))
theorem size44 (V:World):(sizeOf 61).run Tryz.prog V=.ok 8 V:=by
 obtain ⟨i0,hi,hz0,hz1,hz2⟩:=info43
 simp [sizeOf,typeInfo,hi,hz1]
theorem fslice_from (V:World) (a:Option Addr) (n cap k:Nat) (hk:k≤n):(Instr.slice 34 (.slice a n cap) (some (.int .i64 (k:Int))) none none).run Tryz.prog V=.ok (.slice (fromF a k cap) (n-k) (cap-k)) V:=by
 rw [run_slice_l (ht:=Tryz.underlying34) (h0:=by omega) (h1:=by omega),show Tryz.prog.elem 34=61 from rfl,size44]
 simp [Result.andThen,sliced,fromF]
theorem FrsAt.to {W:World} {a:Option Addr} {n cap k:Nat} {fs:List Fr} (h:FrsAt W (.slice a n cap) fs) (hk:k≤n):FrsAt W (.slice a k cap) (fs.take k):=by
 obtain ⟨a',c',sb,so,he,h1,h2,h3⟩:=h
 injection he with e1 e2 e3
 subst e1 e2 e3
 have hl:(fs.take k).length=k:=by rw [List.length_take];omega
 refine ⟨a,cap,sb,so,by rw [hl],by rw [hl];omega,fun hp=>h2 (by rw [hl] at hp;omega),fun i hi j hj=>?_⟩
 rw [hl] at hi
 rw [h3 i (by omega) j hj]
 congr 2
 rw [List.getD_eq_getElem?_getD,List.getD_eq_getElem?_getD,List.getElem?_take_of_lt hi]
theorem FrsAt.from {W:World} {a:Option Addr} {n cap k:Nat} {fs:List Fr} (h:FrsAt W (.slice a n cap) fs) (hk:k≤n):FrsAt W (.slice (fromF a k cap) (n-k) (cap-k)) (fs.drop k):=by
 obtain ⟨a',c',sb,so,he,h1,h2,h3⟩:=h
 injection he with e1 e2 e3
 subst e1 e2 e3
 have hl:(fs.drop k).length=fs.length-k:=List.length_drop ..
 refine ⟨_,_,sb,so+k*8,by rw [hl],by rw [hl];omega,fun hp=>?_,fun i hi j hj=>?_⟩
 ·rw [hl] at hp
  unfold fromF
  rw [if_neg (by omega),h2 (by omega),Option.map_some,Addr.add_mid]
 ·rw [hl] at hi
  have h4:=h3 (k+i) (by omega) j hj
  rw [show so+(k+i)*8+j=so+k*8+i*8+j from by omega] at h4
  rw [h4]
  congr 2
  rw [List.getD_eq_getElem?_getD,List.getD_eq_getElem?_getD,List.getElem?_drop]
end Go.Proofs.YtlahonjmfecikaaGreatDoor.Cut
set_option maxRecDepth 100000
namespace Go.Proofs.YtlahonjmfecikaaGreatDoor.Cut
open Go.RowKit MaskPlain Mas Fra Stm CutPlain
open FramePlain (Fr Fr0 form chk ctl zero4)
def strL (v:Value):Nat:=match v with | .string s=>s.size | _=>0
end Go.Proofs.YtlahonjmfecikaaGreatDoor.Cut
set_option maxRecDepth 100000
namespace Go.Proofs.YtlahonjmfecikaaGreatDoor.Cut
open Go.RowKit MaskPlain Mas Fra Stm CutPlain
open FramePlain (Fr Fr0 form chk ctl zero4)
theorem strOf_nil:strOf []={data:=#[]}:=by decide +kernel
end Go.Proofs.YtlahonjmfecikaaGreatDoor.Cut
namespace Go.Proofs.YtlahonjmfecikaaGreatDoor.Rng
def pos (L a i:Nat):Nat:=if a+i<L then a+i else a+i-L
def held (l:List Nat) (a n:Nat):List Nat:=(List.range n).map fun i=>l.getD (pos l.length a i) 0
@[simp] theorem held_length (l:List Nat) (a n:Nat):(held l a n).length=n:=by simp [held]
theorem held_get (l:List Nat) (a n i:Nat) (h:i<n):(held l a n).getD i 0=l.getD (pos l.length a i) 0:=by
 simp [held,List.getD_eq_getElem?_getD,h]
theorem put_one (l c:List Nat) (a n:Nat) (_ha:a<l.length) (hn:n+c.length≤l.length) (e:Nat) (he:e=pos l.length a n) (hfit:e+c.length≤l.length) :
 held (splice l e c) a (n+c.length)=held l a n++c:=by
 have hL:=splice_length l c e hfit
 apply ext_getD (by simp)
 intro i hi
 rw [held_length] at hi
 rw [held_get _ _ _ _ hi,hL,splice_get l c e _ hfit]
 by_cases h1:i<n
 ·rw [getD_append_left' (by rw [held_length];exact h1),held_get _ _ _ _ h1]
  rw [if_neg]
  rw [he];unfold pos;split<;>split<;>omega
 ·rw [getD_append_right' (by rw [held_length];omega),held_length]
  have hp:e≤pos l.length a i∧pos l.length a i<e+c.length∧pos l.length a i-e=i-n:=by
   rw [he] at hfit ⊢;unfold pos at *;split at hfit<;>split<;>split<;>omega
  rw [if_pos ⟨hp.1,hp.2.1⟩,hp.2.2]
theorem held_drop (l:List Nat) (a n k:Nat) (ha:a<l.length) (hk:k≤n) (hn:n≤l.length) (b:Nat) (hb:b=pos l.length a k∨(n=k)) (hbl:b<l.length):held l b (n-k)=(held l a n).drop k:=by
 apply ext_getD (by simp)
 intro i hi
 rw [held_length] at hi
 have e:((held l a n).drop k).getD i 0=(held l a n).getD (k+i) 0:=by simp [List.getD_eq_getElem?_getD,List.getElem?_drop]
 rw [e,held_get _ _ _ _ hi,held_get _ _ _ _ (by omega)]
 congr 1
 rcases hb with rfl | h
 ·unfold pos at *;split at hbl<;>split<;>split<;>split<;>omega
 ·omega
theorem held_take (l:List Nat) (a n k:Nat) (hk:k≤n):(held l a n).take k=held l a k:=by
 apply ext_getD (by simp;omega)
 intro i hi
 have hi':i<k:=by simp at hi;omega
 have e:((held l a n).take k).getD i 0=(held l a n).getD i 0:=by simp [List.getD_eq_getElem?_getD,hi']
 rw [e,held_get _ _ _ _ (by omega),held_get _ _ _ _ hi']
theorem held_one (l:List Nat) (a k:Nat) (h:a+k≤l.length):held l a k=(l.drop a).take k:=by
 apply ext_getD (by simp;omega)
 intro i hi
 rw [held_length] at hi
 have e:((l.drop a).take k).getD i 0=l.getD (a+i) 0:=by simp [List.getD_eq_getElem?_getD,List.getElem?_drop,hi]
 rw [held_get _ _ _ _ hi,e]
 congr 1
 unfold pos;rw [if_pos (by omega)]
theorem held_two (l:List Nat) (a k:Nat) (ha:a<l.length) (hk:k≤l.length) (h:l.length≤a+k):held l a k=l.drop a++l.take (a+k-l.length):=by
 apply ext_getD (by simp;omega)
 intro i hi
 rw [held_length] at hi
 rw [held_get _ _ _ _ hi]
 by_cases h1:a+i<l.length
 ·rw [getD_append_left' (by rw [List.length_drop];omega)]
  simp only [List.getD_eq_getElem?_getD,List.getElem?_drop]
  unfold pos;rw [if_pos h1]
 ·rw [getD_append_right' (by rw [List.length_drop];omega),List.length_drop]
  simp only [List.getD_eq_getElem?_getD,List.getElem?_take]
  unfold pos;rw [if_neg h1,if_pos (by omega)]
  congr 2;omega
theorem put_two (l c d:List Nat) (a n:Nat) (ha:a<l.length) (hn:n+c.length+d.length≤l.length) (e:Nat) (he:e=pos l.length a n) (hc:e+c.length=l.length) (hd:c.length≤l.length→pos l.length a (n+c.length)=0∨d=[]) :
 held (splice (splice l e c) 0 d) a (n+(c++d).length)=held l a n++(c++d):=by
 have h1:=put_one l c a n ha (by omega) e he (by omega)
 have hL:=splice_length l c e (by omega)
 rcases hd (by omega) with hp | hp
 ·have h2:=put_one (splice l e c) d a (n+c.length) (by omega) (by omega) 0 (by rw [hL,hp]) (by omega)
  rw [List.length_append,← Nat.add_assoc,h2,h1,List.append_assoc]
 ·subst hp
  have e0:splice (splice l e c) 0 []=splice l e c:=by simp [splice]
  rw [e0,List.append_nil,h1]
end Go.Proofs.YtlahonjmfecikaaGreatDoor.Rng
namespace Go.Proofs.YtlahonjmfecikaaGreatDoor.Rng
open Go.RowKit
structure RingAt (w:World) (b p:Nat) (l:List Nat) (a n:Nat):Prop where
 hb:w.heap[b]? = some (.cells #[.slice (some ⟨p,0,none⟩) l.length l.length,.int .i64 a,.int .i64 n] 126 (0,0))
 hp:w.heap[p]? = some (.cells (u8s l).toArray 5 (0,0))
 ne:b≠p
 lt:a<l.length
 le:n≤l.length
 top:l.length≤65536
 small:Small 256 l
def Still (w w':World):Prop:=∃ m,w'=w.drewN m
theorem Still.heap {w w':World} (h:Still w w'):w'.heap=w.heap:=by obtain ⟨m,rfl⟩:=h;rfl
theorem Still.below {w w':World} (h:Still w w'):Below w.heap.size w w':=by obtain ⟨m,rfl⟩:=h;exact ⟨rfl,rfl,rfl,Nat.le_refl _,fun _ _=>rfl⟩
theorem RingAt.still {w w':World} {b p a n:Nat} {l:List Nat} (h:RingAt w b p l a n) (k:Still w w'):RingAt w' b p l a n :=
 ⟨by rw [k.heap];exact h.hb,by rw [k.heap];exact h.hp,h.ne,h.lt,h.le,h.top,h.small⟩
theorem RingAt.c0 {w:World} {b p a n:Nat} {l:List Nat} (h:RingAt w b p l a n):w.cell? ⟨b,0,none⟩=some (.slice (some ⟨p,0,none⟩) l.length l.length):=by rw [cell_of_row _ _ _ _ _ _ h.hb];rfl
theorem RingAt.c1 {w:World} {b p a n:Nat} {l:List Nat} (h:RingAt w b p l a n):w.cell? ⟨b,1,none⟩=some (.int .i64 a):=by rw [cell_of_row _ _ _ _ _ _ h.hb];rfl
theorem RingAt.c2 {w:World} {b p a n:Nat} {l:List Nat} (h:RingAt w b p l a n):w.cell? ⟨b,2,none⟩=some (.int .i64 n):=by rw [cell_of_row _ _ _ _ _ _ h.hb];rfl
theorem mod_pos {L a k:Nat} (ha:a<L) (hk:k≤L):((a:Int)+(k:Int)) % (L:Int)=(pos L a k:Nat):=by
 unfold pos
 split
 ·rw [Int.emod_eq_of_lt (by omega) (by omega)];omega
 ·have e:((a:Int)+(k:Int))=((a+k-L:Nat):Int)+(L:Int):=by omega
  rw [e,Int.add_emod_right,Int.emod_eq_of_lt (by omega) (by omega)]
theorem pos_lt {L a k:Nat} (ha:a<L) (hk:k≤L):pos L a k<L:=by unfold pos;split<;>omega
theorem len_any (b p a n:Nat) (l:List Nat) (w:World) (h:RingAt w b p l a n):Calls Tryz.prog 95 #[.pointer (some ⟨b,0,none⟩)] w fun e w'=>e=.returned (.int .i64 n)∧w=w':=by
 have c2:=h.c2
 clear h
 go_enter Tryz.func95,Tryz.ntmps95
 go_wp2
 go_ret
 exact ⟨rfl,rfl⟩
theorem room_any (b p a n:Nat) (l:List Nat) (w:World) (h:RingAt w b p l a n):Calls Tryz.prog 145 #[.pointer (some ⟨b,0,none⟩)] w fun e w'=>e=.returned (.int .i64 ((l.length-n:Nat):Int))∧Still w w':=by
 have c0:=h.c0
 have c2:=h.c2
 have h1:=h.le
 have h2:=h.top
 clear h
 generalize l.length=L at *
 go_enter Tryz.func145,Tryz.ntmps145
 go_wp2
 go_quiet (fail)
 go_wp2
 go_ret
 exact ⟨ret_int (by omega),⟨_,rfl⟩⟩
theorem place_any (b p a n k:Nat) (l:List Nat) (w:World) (h:RingAt w b p l a n) (hk:k≤l.length):Calls Tryz.prog 123 #[.pointer (some ⟨b,0,none⟩),.int .i64 k] w fun e w'=>e=.returned (.int .i64 (pos l.length a k:Nat))∧Still w w':=by
 have c0:=h.c0
 have c1:=h.c1
 have h1:=h.lt
 have h2:=h.top
 clear h
 generalize l.length=L at *
 have HM:=Sl.mk (mod_pos h1 hk)
 go_enter Tryz.func123,Tryz.ntmps123
 go_wp2
 go_quiet (fail)
 go_wp2
 go_ret
 exact ⟨ret_int HM.out,⟨_,rfl⟩⟩
end Go.Proofs.YtlahonjmfecikaaGreatDoor.Rng
namespace Go.Proofs.YtlahonjmfecikaaGreatDoor.Rng
open Go.RowKit
def Pcs (w:World) (p e x y:Nat) (en:Ending) (w':World):Prop :=
 ∃ d:Addr,en=.returned (.tuple #[.slice (some d) x x,.slice (some ⟨p,0,none⟩) y y])∧(0<x→d=⟨p,e,none⟩)∧(x=0→d=⟨p,0,none⟩)∧Still w w'
theorem ret_pcs {d:Addr} {p x x' y y':Nat} (hx:x=x') (hy:y=y'):Ending.returned (.tuple #[.slice (some d) x x,.slice (some ⟨p,0,none⟩) y y])=.returned (.tuple #[.slice (some d) x' x',.slice (some ⟨p,0,none⟩) y' y']):=by rw [hx,hy]
theorem Still.drewN {w w':World} (h:Still w w') (n:Nat):Still w (w'.drewN n):=by
 obtain ⟨m,rfl⟩:=h
 exact ⟨m+n,by rw [World.drewN_drewN]⟩
set_option maxHeartbeats 400000 in
theorem pieces_fit (b p a n k m e:Nat) (l:List Nat) (w:World) (h:RingAt w b p l a n) (hk:k≤l.length) (he:pos l.length a k=e) (hm:0<m) (hf:e+m≤l.length) :
 Calls Tryz.prog 96 #[.pointer (some ⟨b,0,none⟩),.int .i64 k,.int .i64 m] w (Pcs w p e m 0):=by
 have HP:Sl (Calls Tryz.prog 123 #[.pointer (some ⟨b,0,none⟩),.int .i64 k] w fun e' w'=>e'=.returned (.int .i64 e)∧Still w w'):=⟨by rw [← he];exact place_any b p a n k l w h hk⟩
 have H:=Sl.mk h
 have h2:=h.top
 have h3:e<l.length:=by rw [← he];exact pos_lt h.lt hk
 clear h he
 go_enter Tryz.func96,Tryz.ntmps96
 go_wp2_with fail
 refine HP.out.mono ?_
 rintro e1 w1 ⟨rfl,k1⟩
 have h1:=H.out.still k1
 have c0:=h1.c0
 have K1:=Sl.mk k1
 clear h1 k1
 generalize l.length=L at *
 have g1:¬ (L:Int)<(e:Int)+(m:Int):=by omega
 have g2:¬ ((e:Int)+(m:Int)=(e:Int)):=by omega
 go_wp2
 go_quiet (fail)
 go_wp2
 go_ret2
 exact ⟨_,ret_pcs (by omega) rfl,fun _=>rfl,fun h=>by omega,K1.out.drewN _⟩
set_option maxHeartbeats 400000 in
theorem pieces_none (b p a n k m e:Nat) (l:List Nat) (w:World) (h:RingAt w b p l a n) (hk:k≤l.length) (he:pos l.length a k=e) (hm:m=0) :
 Calls Tryz.prog 96 #[.pointer (some ⟨b,0,none⟩),.int .i64 k,.int .i64 m] w (Pcs w p e 0 0):=by
 have HP:Sl (Calls Tryz.prog 123 #[.pointer (some ⟨b,0,none⟩),.int .i64 k] w fun e' w'=>e'=.returned (.int .i64 e)∧Still w w'):=⟨by rw [← he];exact place_any b p a n k l w h hk⟩
 have H:=Sl.mk h
 have h2:=h.top
 have h3:e<l.length:=by rw [← he];exact pos_lt h.lt hk
 clear h he
 go_enter Tryz.func96,Tryz.ntmps96
 go_wp2_with fail
 refine HP.out.mono ?_
 rintro e1 w1 ⟨rfl,k1⟩
 have h1:=H.out.still k1
 have c0:=h1.c0
 have K1:=Sl.mk k1
 clear h1 k1
 generalize l.length=L at *
 subst hm
 have g1:¬ (L:Int)<(e:Int):=by omega
 go_wp2
 go_quiet (fail)
 go_wp2
 go_ret2
 exact ⟨_,ret_pcs (by omega) (by omega),fun h=>by omega,fun _=>rfl,K1.out.drewN _⟩
set_option maxHeartbeats 400000 in
theorem pieces_over (b p a n k m e:Nat) (l:List Nat) (w:World) (h:RingAt w b p l a n) (hk:k≤l.length) (he:pos l.length a k=e) (hf:l.length<e+m) (hm:m≤l.length) :
 Calls Tryz.prog 96 #[.pointer (some ⟨b,0,none⟩),.int .i64 k,.int .i64 m] w (Pcs w p e (l.length-e) (e+m-l.length)):=by
 have HP:Sl (Calls Tryz.prog 123 #[.pointer (some ⟨b,0,none⟩),.int .i64 k] w fun e' w'=>e'=.returned (.int .i64 e)∧Still w w'):=⟨by rw [← he];exact place_any b p a n k l w h hk⟩
 have H:=Sl.mk h
 have h2:=h.top
 have h3:e<l.length:=by rw [← he];exact pos_lt h.lt hk
 clear h he
 go_enter Tryz.func96,Tryz.ntmps96
 go_wp2_with fail
 refine HP.out.mono ?_
 rintro e1 w1 ⟨rfl,k1⟩
 have h1:=H.out.still k1
 have c0:=h1.c0
 have K1:=Sl.mk k1
 clear h1 k1
 generalize l.length=L at *
 have g1:(L:Int)<(e:Int)+(m:Int):=by omega
 have g2:¬ (L=e):=by omega
 have g3:((e:Int)+(m:Int)-(L:Int))≤(L:Int):=by omega
 go_wp2
 go_quiet (fail)
 go_wp2
 go_ret2
 exact ⟨_,ret_pcs (by omega) (by omega),fun _=>rfl,fun h=>by omega,K1.out.drewN _⟩
theorem pieces_any (b p a n k m e x y:Nat) (l:List Nat) (w:World) (h:RingAt w b p l a n) (hk:k≤l.length) (hm:m≤l.length) (he:pos l.length a k=e) (hx:x=min m (l.length-e)) (hy:y=m-x) :
 Calls Tryz.prog 96 #[.pointer (some ⟨b,0,none⟩),.int .i64 k,.int .i64 m] w (Pcs w p e x y):=by
 have h3:e<l.length:=by rw [← he];exact pos_lt h.lt hk
 by_cases h0:m=0
 ·obtain rfl:x=0:=by omega
  obtain rfl:y=0:=by omega
  exact pieces_none b p a n k m e l w h hk he h0
 ·by_cases hf:e+m≤l.length
  ·obtain rfl:x=m:=by omega
   obtain rfl:y=0:=by omega
   exact pieces_fit b p a n k x e l w h hk he (by omega) hf
  ·obtain rfl:x=l.length-e:=by omega
   obtain rfl:y=e+m-l.length:=by omega
   exact pieces_over b p a n k m e l w h hk he (by omega) hm
def pd (p e x:Nat):Addr:=if x=0 then ⟨p,0,none⟩ else ⟨p,e,none⟩
theorem pieces_q (b p a n k m e x y:Nat) (l:List Nat) (w:World) (h:RingAt w b p l a n) (hk:k≤l.length) (hm:m≤l.length) (he:pos l.length a k=e) (hx:x=min m (l.length-e)) (hy:y=m-x) :
 Calls Tryz.prog 96 #[.pointer (some ⟨b,0,none⟩),.int .i64 k,.int .i64 m] w fun en w'=>en=.returned (.tuple #[.slice (some (pd p e x)) x x,.slice (some ⟨p,0,none⟩) y y])∧∃ m,w'=w.drewN m :=
 (pieces_any b p a n k m e x y l w h hk hm he hx hy).mono fun en w' ⟨d,h1,h2,h3,h4⟩=>⟨by
  rw [h1]
  have:d=pd p e x:=by
   unfold pd
   by_cases h0:x=0
   ·rw [if_pos h0];exact h3 h0
   ·rw [if_neg h0];exact h2 (by omega)
  rw [this],h4⟩
end Go.Proofs.YtlahonjmfecikaaGreatDoor.Rng
namespace Go.Proofs.YtlahonjmfecikaaGreatDoor.Rng
open Go.RowKit
theorem RingAt.cell {w:World} {b p a n:Nat} {l:List Nat} (h:RingAt w b p l a n) (i:Nat) (hi:i<l.length):w.cell? ⟨p,i,none⟩=some (.int .u8 ((l.getD i 0:Nat):Int)):=by
 rw [cell_of_row _ _ _ _ _ _ h.hp,List.getElem?_toArray];exact u8s_get l i hi
theorem RingAt.plt {w:World} {b p a n:Nat} {l:List Nat} (h:RingAt w b p l a n):p<w.heap.size:=(Array.getElem?_eq_some_iff.1 h.hp).1
theorem RingAt.blt {w:World} {b p a n:Nat} {l:List Nat} (h:RingAt w b p l a n):b<w.heap.size:=(Array.getElem?_eq_some_iff.1 h.hb).1
theorem RingAt.below {w w':World} {b p a n:Nat} {l:List Nat} (h:RingAt w b p l a n) (k:Below w.heap.size w w'):RingAt w' b p l a n :=
 ⟨by rw [k.block _ h.blt];exact h.hb,by rw [k.block _ h.plt];exact h.hp,h.ne,h.lt,h.le,h.top,h.small⟩
theorem splice_fill (s1 s2:List Nat) (c x y:Nat) (h1:s1.length=x) (h2:s2.length=y) (h:x+y=c):splice (splice (zs c) 0 s1) x s2=s1++s2:=by
 apply ext_getD
 ·rw [splice_length _ _ _ (by rw [splice_length _ _ _ (by simp;omega)];simp;omega),splice_length _ _ _ (by simp;omega)];simp;omega
 ·intro i hi
  rw [splice_length _ _ _ (by rw [splice_length _ _ _ (by simp;omega)];simp;omega),splice_length _ _ _ (by simp;omega),zs_length] at hi
  rw [splice_get _ _ _ _ (by rw [splice_length _ _ _ (by simp;omega)];simp;omega),splice_get _ _ _ _ (by simp;omega)]
  by_cases hc:i<x
  ·rw [if_neg (by omega),if_pos (by omega),getD_append_left' (by omega)];simp
  ·rw [if_pos (by omega),getD_append_right' (by omega),h1]
theorem held_parts (l:List Nat) (a c x y:Nat) (ha:a<l.length) (hc:c≤l.length) (hx:x=min c (l.length-a)) (hy:y=c-x):held l a c=(l.drop a).take x++l.take y:=by
 by_cases h:a+c≤l.length
 ·obtain rfl:x=c:=by omega
  obtain rfl:y=0:=by omega
  rw [held_one l a x h];simp
 ·obtain rfl:x=l.length-a:=by omega
  have e1:(l.drop a).take (l.length-a)=l.drop a:=List.take_of_length_le (by rw [List.length_drop];exact Nat.le_refl _)
  have e2:a+c-l.length=y:=by omega
  rw [held_two l a c ha hc (by omega),e1,e2]
set_option maxHeartbeats 400000 in
theorem peek_mid (b p a n c x y:Nat) (z:Int) (l:List Nat) (w:World) (h:RingAt w b p l a n) (h1:¬ (n:Int)<z) (h2:0<z) (hz:z=c) (hx:x=min c (l.length-a)) (hy:y=c-x) :
 Calls Tryz.prog 66 #[.pointer (some ⟨b,0,none⟩),.int .i64 z] w fun e w'=>e=.returned (.slice (some ⟨w.heap.size,0,none⟩) c c)∧Sl (w'.heap[w.heap.size]? = some (.cells (u8s (held l a c)).toArray 5 (0,0)))∧Sl (Below w.heap.size w w'):=by
 have hn:=h.le
 have ha:=h.lt
 have ht:=h.top
 have HP:=Sl.mk (pieces_any b p a n 0 c a x y l w h (by omega) (by omega) (by unfold pos;rw [if_pos (by omega)];omega) hx hy)
 have H:=Sl.mk h
 have c2:=h.c2
 have HXY:Sl (x+y=c):=⟨by omega⟩
 have h3:y≤65536:=by omega
 have h4:x≤65536:=by omega
 obtain ⟨s1,hs1⟩:∃ s1,s1=(l.drop a).take x:=⟨_,rfl⟩
 obtain ⟨s2,hs2⟩:∃ s2,s2=l.take y:=⟨_,rfl⟩
 have L1:Sl (s1.length=x):=⟨by rw [hs1];simp;omega⟩
 have L2:Sl (s2.length=y):=⟨by rw [hs2];simp;omega⟩
 have HH:Sl (held l a c=s1++s2):=⟨by rw [hs1,hs2];exact held_parts l a c x y ha (by omega) hx hy⟩
 have G1:Sl (∀ j,j<x→s1.getD j 0=l.getD (a+j) 0):=⟨fun j hj=>by rw [hs1];simp [List.getD_eq_getElem?_getD,List.getElem?_drop,hj]⟩
 have G2:Sl (∀ j,j<y→s2.getD j 0=l.getD j 0):=⟨fun j hj=>by rw [hs2];simp [List.getD_eq_getElem?_getD,hj]⟩
 have X1:Sl (x≤l.length-a∧y≤l.length):=⟨by omega⟩
 clear h hx hy hs1 hs2
 subst hz
 go_enter Tryz.func66,Tryz.ntmps66
 go_wp2_with fail
 refine HP.out.mono ?_
 rintro e1 w1 ⟨d,rfl,hd,-,k1⟩
 have hmk:=make_u8 ((x:Int)+(y:Int)) c (by have:=HXY.out;omega) (by have:=HXY.out;omega) w1
 have HD:=Sl.mk hd
 have K1:=Sl.mk k1
 have hsz:w1.heap.size=w.heap.size:=by rw [k1.heap]
 have HSZ:=Sl.mk hsz
 have R1:=Sl.mk (H.out.still k1)
 clear hd k1 hsz
 go_wp2_with (with_reducible refine copy_into rfl (.tmp 26) (.tmp 27) 49 49 rfl 5 Tryz.underlying49 size5 _ _ _ _ _ _ rfl rfl w1.heap.size 0 x (zs c) s1 5 (alloc_new _ _ _ rfl) (by rw [L1.out]) (by rw [L1.out];have:=HXY.out;omega) (fun hp=>⟨rfl,p,a,by rw [HD.out (by rw [← L1.out];exact hp)],fun j hj=>by rw [L1.out] at hj;rw [G1.out j hj,(R1.out.below ((Below.refl _ _).alloc (Nat.le_refl _) _)).cell _ (by have:=X1.out;omega)]⟩) (by rw [L1.out];have:=HXY.out;simp;omega) ?_)
 intro w2 HG2 HW2
 have e2:=HG2.out
 have K2:Sl (Below w.heap.size w w2):=⟨((Still.below K1.out).alloc (by have:=HSZ.out;omega) _).grown HW2.out (by rw [alloc_size];have:=HSZ.out;omega) (fun k hk=>by injection hk with hk;have:=HSZ.out;omega)⟩
 clear e2
 have R2:=Sl.mk (H.out.below K2.out)
 clear hmk
 have hxc:x≤c:=by have:=HXY.out;omega
 have FIN:∀ w3:World,Sl (w3.heap[w1.heap.size]? = some (.cells (u8s (splice (splice (zs c) 0 s1) x s2)).toArray 5 (0,0)))→Sl (w2.grownBy w3 (some w1.heap.size)) →
  (Ending.returned (.slice (some ⟨w1.heap.size,0,none⟩) c c)=.returned (.slice (some ⟨w.heap.size,0,none⟩) c c)∧Sl (w3.heap[w.heap.size]? = some (.cells (u8s (held l a c)).toArray 5 (0,0)))∧Sl (Below w.heap.size w w3)):=by
  intro w3 hg hw
  refine ⟨by rw [HSZ.out],⟨?_⟩,⟨K2.out.grown hw.out (by have:=K2.out.size;omega) (fun k hk=>by injection hk with hk;have:=HSZ.out;omega)⟩⟩
  rw [← HSZ.out,hg.out,splice_fill s1 s2 c x y L1.out L2.out HXY.out,HH.out]
 have FN:=Sl.mk FIN
 clear FIN
 by_cases hy0:y=0
 ·have q:Sl (c=x):=⟨by have:=HXY.out;omega⟩
  obtain rfl:=q.out
  subst hy0
  go_wp2_with (with_reducible refine copy_into rfl (.tmp 32) (.tmp 33) 49 49 rfl 5 Tryz.underlying49 size5 _ _ _ _ _ _ rfl rfl w1.heap.size c 0 _ s2 5 HG2.out (by rw [L2.out]) (by rw [L2.out];simp) (fun hp=>absurd hp (by rw [L2.out];decide)) (by rw [L2.out,splice_length _ _ _ (by simp [L1.out])];simp) ?_)
  intro w3 HG3 HW3
  have F:=Sl.mk (FN.out w3 HG3 HW3)
  clear FN HG2 HW2 HG3 HW3
  go_wp2
  go_ret
  exact F.out
 ·have q:¬ (c=x):=by have:=HXY.out;omega
  go_wp2_with (with_reducible refine copy_into rfl (.tmp 32) (.tmp 33) 49 49 rfl 5 Tryz.underlying49 size5 _ _ _ _ _ _ rfl rfl w1.heap.size x y _ s2 5 HG2.out (by rw [L2.out]) (by rw [L2.out];have:=HXY.out;omega) (fun hp=>⟨rfl,p,0,rfl,fun j hj=>by rw [L2.out] at hj;rw [G2.out j hj,Nat.zero_add,R2.out.cell _ (by have:=X1.out;omega)]⟩) (by rw [L2.out,splice_length _ _ _ (by simp [L1.out];exact hxc)];simp;have:=HXY.out;omega) ?_)
  intro w3 HG3 HW3
  have F:=Sl.mk (FN.out w3 HG3 HW3)
  clear FN HG2 HW2 HG3 HW3
  go_wp2
  go_ret
  exact F.out
set_option maxHeartbeats 400000 in
theorem peek_high (b p a n c x y:Nat) (z:Int) (l:List Nat) (w:World) (h:RingAt w b p l a n) (h1:(n:Int)<z) (h2:0<(n:Int)) (hz:c=n) (hx:x=min c (l.length-a)) (hy:y=c-x) :
 Calls Tryz.prog 66 #[.pointer (some ⟨b,0,none⟩),.int .i64 z] w fun e w'=>e=.returned (.slice (some ⟨w.heap.size,0,none⟩) c c)∧Sl (w'.heap[w.heap.size]? = some (.cells (u8s (held l a c)).toArray 5 (0,0)))∧Sl (Below w.heap.size w w'):=by
 have hn:=h.le
 have ha:=h.lt
 have ht:=h.top
 have HP:=Sl.mk (pieces_any b p a n 0 c a x y l w h (by omega) (by omega) (by unfold pos;rw [if_pos (by omega)];omega) hx hy)
 have H:=Sl.mk h
 have c2:=h.c2
 have HXY:Sl (x+y=c):=⟨by omega⟩
 have h3:y≤65536:=by omega
 have h4:x≤65536:=by omega
 obtain ⟨s1,hs1⟩:∃ s1,s1=(l.drop a).take x:=⟨_,rfl⟩
 obtain ⟨s2,hs2⟩:∃ s2,s2=l.take y:=⟨_,rfl⟩
 have L1:Sl (s1.length=x):=⟨by rw [hs1];simp;omega⟩
 have L2:Sl (s2.length=y):=⟨by rw [hs2];simp;omega⟩
 have HH:Sl (held l a c=s1++s2):=⟨by rw [hs1,hs2];exact held_parts l a c x y ha (by omega) hx hy⟩
 have G1:Sl (∀ j,j<x→s1.getD j 0=l.getD (a+j) 0):=⟨fun j hj=>by rw [hs1];simp [List.getD_eq_getElem?_getD,List.getElem?_drop,hj]⟩
 have G2:Sl (∀ j,j<y→s2.getD j 0=l.getD j 0):=⟨fun j hj=>by rw [hs2];simp [List.getD_eq_getElem?_getD,hj]⟩
 have X1:Sl (x≤l.length-a∧y≤l.length):=⟨by omega⟩
 clear h hx hy hs1 hs2
 subst hz
 go_enter Tryz.func66,Tryz.ntmps66
 go_wp2_with fail
 refine HP.out.mono ?_
 rintro e1 w1 ⟨d,rfl,hd,-,k1⟩
 have hmk:=make_u8 ((x:Int)+(y:Int)) c (by have:=HXY.out;omega) (by have:=HXY.out;omega) w1
 have HD:=Sl.mk hd
 have K1:=Sl.mk k1
 have hsz:w1.heap.size=w.heap.size:=by rw [k1.heap]
 have HSZ:=Sl.mk hsz
 have R1:=Sl.mk (H.out.still k1)
 clear hd k1 hsz
 go_wp2_with (with_reducible refine copy_into rfl (.tmp 26) (.tmp 27) 49 49 rfl 5 Tryz.underlying49 size5 _ _ _ _ _ _ rfl rfl w1.heap.size 0 x (zs c) s1 5 (alloc_new _ _ _ rfl) (by rw [L1.out]) (by rw [L1.out];have:=HXY.out;omega) (fun hp=>⟨rfl,p,a,by rw [HD.out (by rw [← L1.out];exact hp)],fun j hj=>by rw [L1.out] at hj;rw [G1.out j hj,(R1.out.below ((Below.refl _ _).alloc (Nat.le_refl _) _)).cell _ (by have:=X1.out;omega)]⟩) (by rw [L1.out];have:=HXY.out;simp;omega) ?_)
 intro w2 HG2 HW2
 have e2:=HG2.out
 have K2:Sl (Below w.heap.size w w2):=⟨((Still.below K1.out).alloc (by have:=HSZ.out;omega) _).grown HW2.out (by rw [alloc_size];have:=HSZ.out;omega) (fun k hk=>by injection hk with hk;have:=HSZ.out;omega)⟩
 clear e2
 have R2:=Sl.mk (H.out.below K2.out)
 clear hmk
 have hxc:x≤c:=by have:=HXY.out;omega
 have FIN:∀ w3:World,Sl (w3.heap[w1.heap.size]? = some (.cells (u8s (splice (splice (zs c) 0 s1) x s2)).toArray 5 (0,0)))→Sl (w2.grownBy w3 (some w1.heap.size)) →
  (Ending.returned (.slice (some ⟨w1.heap.size,0,none⟩) c c)=.returned (.slice (some ⟨w.heap.size,0,none⟩) c c)∧Sl (w3.heap[w.heap.size]? = some (.cells (u8s (held l a c)).toArray 5 (0,0)))∧Sl (Below w.heap.size w w3)):=by
  intro w3 hg hw
  refine ⟨by rw [HSZ.out],⟨?_⟩,⟨K2.out.grown hw.out (by have:=K2.out.size;omega) (fun k hk=>by injection hk with hk;have:=HSZ.out;omega)⟩⟩
  rw [← HSZ.out,hg.out,splice_fill s1 s2 c x y L1.out L2.out HXY.out,HH.out]
 have FN:=Sl.mk FIN
 clear FIN
 by_cases hy0:y=0
 ·have q:Sl (c=x):=⟨by have:=HXY.out;omega⟩
  obtain rfl:=q.out
  subst hy0
  go_wp2_with (with_reducible refine copy_into rfl (.tmp 32) (.tmp 33) 49 49 rfl 5 Tryz.underlying49 size5 _ _ _ _ _ _ rfl rfl w1.heap.size c 0 _ s2 5 HG2.out (by rw [L2.out]) (by rw [L2.out];simp) (fun hp=>absurd hp (by rw [L2.out];decide)) (by rw [L2.out,splice_length _ _ _ (by simp [L1.out])];simp) ?_)
  intro w3 HG3 HW3
  have F:=Sl.mk (FN.out w3 HG3 HW3)
  clear FN HG2 HW2 HG3 HW3
  go_wp2
  go_ret
  exact F.out
 ·have q:¬ (c=x):=by have:=HXY.out;omega
  go_wp2_with (with_reducible refine copy_into rfl (.tmp 32) (.tmp 33) 49 49 rfl 5 Tryz.underlying49 size5 _ _ _ _ _ _ rfl rfl w1.heap.size x y _ s2 5 HG2.out (by rw [L2.out]) (by rw [L2.out];have:=HXY.out;omega) (fun hp=>⟨rfl,p,0,rfl,fun j hj=>by rw [L2.out] at hj;rw [G2.out j hj,Nat.zero_add,R2.out.cell _ (by have:=X1.out;omega)]⟩) (by rw [L2.out,splice_length _ _ _ (by simp [L1.out];exact hxc)];simp;have:=HXY.out;omega) ?_)
  intro w3 HG3 HW3
  have F:=Sl.mk (FN.out w3 HG3 HW3)
  clear FN HG2 HW2 HG3 HW3
  go_wp2
  go_ret
  exact F.out
set_option maxHeartbeats 400000 in
theorem peek_low (b p a n:Nat) (z:Int) (l:List Nat) (w:World) (h:RingAt w b p l a n) (h1:¬ (n:Int)<z) (h2:¬ 0<z) :
 Calls Tryz.prog 66 #[.pointer (some ⟨b,0,none⟩),.int .i64 z] w fun e w'=>e=.returned (.slice (some ⟨w.heap.size,0,none⟩) 0 0)∧Sl (w'.heap[w.heap.size]? = some (.cells (u8s (held l a 0)).toArray 5 (0,0)))∧Sl (Below w.heap.size w w'):=by
 have ha:=h.lt
 have HP:Sl (Calls Tryz.prog 96 #[.pointer (some ⟨b,0,none⟩),.int .i64 0,.int .i64 0] w (Pcs w p a 0 0)):=⟨pieces_any b p a n 0 0 a 0 0 l w h (by omega) (by omega) (by unfold pos;rw [if_pos (by omega)];omega) (by omega) (by omega)⟩
 have c2:=h.c2
 clear h
 go_enter Tryz.func66,Tryz.ntmps66
 go_wp2_with fail
 refine HP.out.mono ?_
 rintro e1 w1 ⟨d,rfl,hd,-,k1⟩
 have hmk:=make_u8 0 0 rfl (by omega) w1
 have K1:=Sl.mk k1
 have HSZ:Sl (w1.heap.size=w.heap.size):=⟨by rw [k1.heap]⟩
 clear hd k1
 go_wp2_with (with_reducible refine copy_into rfl (.tmp 26) (.tmp 27) 49 49 rfl 5 Tryz.underlying49 size5 _ _ _ _ _ _ rfl rfl w1.heap.size 0 0 (zs 0) [] 5 (alloc_new _ _ _ rfl) rfl rfl (fun hp=>absurd hp (by decide)) (by decide) ?_)
 intro w2 HG2 HW2
 have K2:Sl (Below w.heap.size w w2):=⟨((Still.below K1.out).alloc (by have:=HSZ.out;omega) _).grown HW2.out (by rw [alloc_size];have:=HSZ.out;omega) (fun k hk=>by injection hk with hk;have:=HSZ.out;omega)⟩
 have FN:Sl (∀ w3:World,Sl (w3.heap[w1.heap.size]? = some (.cells (u8s (splice (splice (zs 0) 0 []) 0 [])).toArray 5 (0,0)))→Sl (w2.grownBy w3 (some w1.heap.size)) →
  (Ending.returned (.slice (some ⟨w1.heap.size,0,none⟩) 0 0)=.returned (.slice (some ⟨w.heap.size,0,none⟩) 0 0)∧Sl (w3.heap[w.heap.size]? = some (.cells (u8s (held l a 0)).toArray 5 (0,0)))∧Sl (Below w.heap.size w w3))):=⟨by
  intro w3 hg hw
  refine ⟨by rw [HSZ.out],⟨?_⟩,⟨K2.out.grown hw.out (by have:=K2.out.size;omega) (fun k hk=>by injection hk with hk;have:=HSZ.out;omega)⟩⟩
  rw [← HSZ.out,hg.out];rfl⟩
 clear hmk
 go_wp2_with (with_reducible refine copy_into rfl (.tmp 32) (.tmp 33) 49 49 rfl 5 Tryz.underlying49 size5 _ _ _ _ _ _ rfl rfl w1.heap.size 0 0 _ [] 5 HG2.out rfl rfl (fun hp=>absurd hp (by decide)) (by decide) ?_)
 intro w3 HG3 HW3
 have F:=Sl.mk (FN.out w3 HG3 HW3)
 clear FN HG2 HW2 HG3 HW3
 go_wp2
 go_ret
 exact F.out
set_option maxHeartbeats 400000 in
theorem peek_none (b p a n:Nat) (z:Int) (l:List Nat) (w:World) (h:RingAt w b p l a n) (h1:(n:Int)<z) (hn0:n=0) :
 Calls Tryz.prog 66 #[.pointer (some ⟨b,0,none⟩),.int .i64 z] w fun e w'=>e=.returned (.slice (some ⟨w.heap.size,0,none⟩) 0 0)∧Sl (w'.heap[w.heap.size]? = some (.cells (u8s (held l a 0)).toArray 5 (0,0)))∧Sl (Below w.heap.size w w'):=by
 have ha:=h.lt
 have HP:Sl (Calls Tryz.prog 96 #[.pointer (some ⟨b,0,none⟩),.int .i64 0,.int .i64 0] w (Pcs w p a 0 0)):=⟨pieces_any b p a n 0 0 a 0 0 l w h (by omega) (by omega) (by unfold pos;rw [if_pos (by omega)];omega) (by omega) (by omega)⟩
 have c2:=h.c2
 rw [hn0] at c2 h1
 clear hn0
 clear h
 go_enter Tryz.func66,Tryz.ntmps66
 go_wp2_with fail
 refine HP.out.mono ?_
 rintro e1 w1 ⟨d,rfl,hd,-,k1⟩
 have hmk:=make_u8 0 0 rfl (by omega) w1
 have K1:=Sl.mk k1
 have HSZ:Sl (w1.heap.size=w.heap.size):=⟨by rw [k1.heap]⟩
 clear hd k1
 go_wp2_with (with_reducible refine copy_into rfl (.tmp 26) (.tmp 27) 49 49 rfl 5 Tryz.underlying49 size5 _ _ _ _ _ _ rfl rfl w1.heap.size 0 0 (zs 0) [] 5 (alloc_new _ _ _ rfl) rfl rfl (fun hp=>absurd hp (by decide)) (by decide) ?_)
 intro w2 HG2 HW2
 have K2:Sl (Below w.heap.size w w2):=⟨((Still.below K1.out).alloc (by have:=HSZ.out;omega) _).grown HW2.out (by rw [alloc_size];have:=HSZ.out;omega) (fun k hk=>by injection hk with hk;have:=HSZ.out;omega)⟩
 have FN:Sl (∀ w3:World,Sl (w3.heap[w1.heap.size]? = some (.cells (u8s (splice (splice (zs 0) 0 []) 0 [])).toArray 5 (0,0)))→Sl (w2.grownBy w3 (some w1.heap.size)) →
  (Ending.returned (.slice (some ⟨w1.heap.size,0,none⟩) 0 0)=.returned (.slice (some ⟨w.heap.size,0,none⟩) 0 0)∧Sl (w3.heap[w.heap.size]? = some (.cells (u8s (held l a 0)).toArray 5 (0,0)))∧Sl (Below w.heap.size w w3))):=⟨by
  intro w3 hg hw
  refine ⟨by rw [HSZ.out],⟨?_⟩,⟨K2.out.grown hw.out (by have:=K2.out.size;omega) (fun k hk=>by injection hk with hk;have:=HSZ.out;omega)⟩⟩
  rw [← HSZ.out,hg.out];rfl⟩
 clear hmk
 go_wp2_with (with_reducible refine copy_into rfl (.tmp 32) (.tmp 33) 49 49 rfl 5 Tryz.underlying49 size5 _ _ _ _ _ _ rfl rfl w1.heap.size 0 0 _ [] 5 HG2.out rfl rfl (fun hp=>absurd hp (by decide)) (by decide) ?_)
 intro w3 HG3 HW3
 have F:=Sl.mk (FN.out w3 HG3 HW3)
 clear FN HG2 HW2 HG3 HW3
 go_wp2
 go_ret
 exact F.out
def got (n:Nat) (z:Int):Nat:=min n z.toNat
theorem got_le (n:Nat) (z:Int):got n z≤n:=Nat.min_le_left _ _
theorem peek_any (b p a n:Nat) (z:Int) (l:List Nat) (w:World) (h:RingAt w b p l a n) :
 Calls Tryz.prog 66 #[.pointer (some ⟨b,0,none⟩),.int .i64 z] w fun e w'=>e=.returned (.slice (some ⟨w.heap.size,0,none⟩) (got n z) (got n z))∧Sl (w'.heap[w.heap.size]? = some (.cells (u8s (held l a (got n z))).toArray 5 (0,0)))∧Sl (Below w.heap.size w w'):=by
 by_cases h1:(n:Int)<z
 ·have e:got n z=n:=by unfold got;omega
  rw [e]
  by_cases h0:n=0
  ·rw [h0]
   exact peek_none b p a n z l w h h1 h0
  ·exact peek_high b p a n n _ _ z l w h h1 (by omega) rfl rfl rfl
 ·by_cases h2:0<z
  ·exact peek_mid b p a n _ _ _ z l w h h1 h2 (by unfold got;omega) rfl rfl
  ·rw [show got n z=0 from by unfold got;omega]
   exact peek_low b p a n z l w h h1 h2
end Go.Proofs.YtlahonjmfecikaaGreatDoor.Rng
namespace Go.Proofs.YtlahonjmfecikaaGreatDoor.Rng
open Go.RowKit
theorem take_parts (bs:List Nat) (m x y:Nat) (h:x+y=m):bs.take x++(bs.drop x).take y=bs.take m:=by
 rw [← h,List.take_add]
theorem put_ring {w1 w':World} {b p a n m e x y:Nat} {l bs:List Nat} (h:RingAt w1 b p l a n) (hm:x+y=m) (hn:n+m≤l.length) (he:pos l.length a n=e) (hx:x=min m (l.length-e)) (hb:m≤bs.length) (sm:Small 256 bs)
 (hr:w'.heap[b]? = some (.cells #[.slice (some ⟨p,0,none⟩) l.length l.length,.int .i64 a,.int .i64 ((n:Int)+((x:Int)+(y:Int)))] 126 (0,0))) (hp:w'.heap[p]? = some (.cells (u8s (splice (splice l e (bs.take x)) 0 ((bs.drop x).take y))).toArray 5 (0,0))) :
 ∃ l',RingAt w' b p l' a (n+m)∧l'.length=l.length∧held l' a (n+m)=held l a n++bs.take m:=by
 have ha:=h.lt
 have hel:e<l.length:=by rw [← he];exact pos_lt h.lt h.le
 have l1:(bs.take x).length=x:=by simp;omega
 have l2:((bs.drop x).take y).length=y:=by simp;omega
 have s1:(splice l e (bs.take x)).length=l.length:=splice_length _ _ _ (by rw [l1];omega)
 have s2:(splice (splice l e (bs.take x)) 0 ((bs.drop x).take y)).length=l.length:=by rw [splice_length _ _ _ (by rw [l2,s1];omega),s1]
 refine ⟨splice (splice l e (bs.take x)) 0 ((bs.drop x).take y),⟨?_,hp,h.ne,by rw [s2];exact ha,by rw [s2];exact hn,by rw [s2];exact h.top,?_⟩,s2,?_⟩
 ·rw [hr,s2]
  have:((n:Int)+((x:Int)+(y:Int)))=((n+m:Nat):Int):=by omega
  rw [this]
 ·have q:=h.small
  exact ((((q.take _).append (sm.take _)).append (q.drop _)).take _ |>.append ((sm.drop _).take _)).append (Small.drop (((q.take _).append (sm.take _)).append (q.drop _)) _)
 ·rw [← take_parts bs m x y hm]
  have hlen:n+m=n+(bs.take x++(bs.drop x).take y).length:=by rw [List.length_append,l1,l2,hm]
  rw [hlen]
  by_cases hfit:e+m≤l.length
  ·obtain rfl:x=m:=by omega
   obtain rfl:y=0:=by omega
   have e0:(bs.drop x).take 0=[]:=rfl
   rw [e0,List.append_nil]
   have e1:splice (splice l e (bs.take x)) 0 []=splice l e (bs.take x):=by simp [splice]
   rw [e1]
   exact put_one l (bs.take x) a n ha (by rw [l1];omega) e he.symm (by rw [l1];omega)
  ·have hxe:e+x=l.length:=by omega
   refine put_two l (bs.take x) ((bs.drop x).take y) a n ha (by rw [l1,l2];omega) e he.symm (by rw [l1];exact hxe) (fun _=>Or.inl ?_)
   rw [l1]
   unfold pos at he ⊢
   split at he<;>split<;>omega
set_option maxHeartbeats 400000 in
theorem put_all (b p a n m e x y r LB:Nat) (l bs:List Nat) (v:Value) (w:World) (h:RingAt w b p l a n) (hv:SrcN w p v bs) (sm:Small 256 bs) (hL:LB≤100000) (hLB:bs.length=LB) (hr:r=l.length-n) (hm:m=LB) (hlt:¬ (r:Int)<(LB:Int)) (he:pos l.length a n=e) (hx:x=min m (l.length-e)) (hy:y=m-x) :
 Calls Tryz.prog 118 #[.pointer (some ⟨b,0,none⟩),v] w fun en w'=>en=.returned (.int .i64 m)∧Sl (∃ l',RingAt w' b p l' a (n+m)∧l'.length=l.length∧held l' a (n+m)=held l a n++bs.take m)∧Sl (Two w w' b p):=by
 subst hm
 have hn:=h.le
 have ha:=h.lt
 have ht:=h.top
 have hel:e<l.length:=by rw [← he];exact pos_lt h.lt h.le
 have HP:=Sl.mk (fun k=>pieces_q b p a n n m e x y l (w.drewN k) (h.still ⟨k,rfl⟩) hn (by omega) he hx hy)
 have HR:Sl (∀ k,Calls Tryz.prog 145 #[.pointer (some ⟨b,0,none⟩)] (w.drewN k) fun e w'=>e=.returned (.int .i64 r)∧∃ m,w'=(w.drewN k).drewN m):=⟨fun k=>by rw [hr];exact room_any b p a n l _ (h.still ⟨k,rfl⟩)⟩
 have H:=Sl.mk h
 have c2:=h.c2
 have f2:w.frozen? ⟨b,2,none⟩=false:=frozen_of_row _ _ _ _ _ h.hb
 obtain ⟨ad,cap,sb,so,rfl,hcap,had,hsb,hcell⟩:=hv
 rw [hLB] at hcap had hsb hcell ⊢
 have HAD:=Sl.mk had
 have HSB:=Sl.mk hsb
 have HC:=Sl.mk hcell
 have HLB:=Sl.mk hLB
 have HE:=Sl.mk he
 have HX:=Sl.mk hx
 have HXY:Sl (x+y=m):=⟨by omega⟩
 have HM:Sl (n+m≤l.length∧m≤m):=⟨by omega⟩
 have hxL:x≤m:=by omega
 have hyL:y≤m-x:=by omega
 have hn6:n≤65536:=by omega
 have L1:Sl ((bs.take x).length=x):=⟨by rw [List.length_take];omega⟩
 have L2:Sl (((bs.drop x).take y).length=y):=⟨by rw [List.length_take,List.length_drop];omega⟩
 have P1:Sl (e+x≤l.length∧y≤l.length):=⟨by omega⟩
 have NE:=Sl.mk h.ne
 have HSM:=Sl.mk sm
 clear h hr hLB he hx hy had hsb hcell sm
 go_enter Tryz.func118,Tryz.ntmps118
 go_wp2
 go_quiet (first | (go_at_call 145;exact Calls.quiet_of (HR.out _)) | (go_at_call 96;exact Calls.quiet_of (HP.out _)))
 have H1:Sl ((w.drewN nq).heap[p]? = some (.cells (u8s l).toArray 5 (0,0))):=⟨H.out.hp⟩
 have HC1:Sl (∀ j,j<m→(w.drewN nq).cell? ⟨sb,so+j,none⟩=some (.int .u8 ((bs.getD j 0:Nat):Int))):=⟨HC.out⟩
 go_wp2_with (with_reducible refine copy_into rfl (.tmp 22) (.tmp 23) 49 49 rfl 5 Tryz.underlying49 size5 _ _ _ _ _ _ rfl rfl p e x l (bs.take x) 5 H1.out (by rw [L1.out]) (by rw [L1.out];omega) (fun hp=>⟨by unfold pd;rw [if_neg (by rw [L1.out] at hp;omega)],sb,so,HAD.out (by rw [L1.out] at hp;omega),fun j hj=>by rw [L1.out] at hj;rw [show (bs.take x).getD j 0=bs.getD j 0 from by simp [List.getD_eq_getElem?_getD,hj]];exact HC1.out j (by omega)⟩) (by rw [L1.out];exact P1.out.1) ?_)
 intro w2 HG2 HW2
 have LS:Sl ((splice l e (bs.take x)).length=l.length):=⟨splice_length _ _ _ (by rw [L1.out];exact P1.out.1)⟩
 have B2:Sl (w2.heap[b]? = w.heap[b]?):=⟨HW2.out.block b H.out.blt (fun e=>NE.out (by injection e))⟩
 have HC2:Sl (∀ j,j<m→w2.cell? ⟨sb,so+j,none⟩=some (.int .u8 ((bs.getD j 0:Nat):Int))):=⟨fun j hj=>by
  rw [World.cell?_of_block (w:=w) (HW2.out.block sb (block_lt_of_cell (HC.out j hj)) (fun e=>HSB.out (by omega) (by injection e)))]
  exact HC.out j hj⟩
 have FIN:Sl (∀ w3:World,Sl (w3.heap[p]? = some (.cells (u8s (splice (splice l e (bs.take x)) 0 ((bs.drop x).take y))).toArray 5 (0,0)))→Sl (w2.grownBy w3 (some p)) →
  w3.cell? ⟨b,2,none⟩=some (.int .i64 n)∧w3.frozen? ⟨b,2,none⟩=false∧Sl (Ending.returned (.int .i64 ((x:Int)+(y:Int)))=.returned (.int .i64 m)∧Sl (∃ l',RingAt (w3.setCell ⟨b,2,none⟩ (.int .i64 ((n:Int)+((x:Int)+(y:Int))))) b p l' a (n+m)∧l'.length=l.length∧held l' a (n+m)=held l a n++bs.take m)∧Sl (Two w (w3.setCell ⟨b,2,none⟩ (.int .i64 ((n:Int)+((x:Int)+(y:Int))))) b p))):=⟨by
  intro w3 hg hw
  have e3:w3.heap[b]? = w.heap[b]?:=by rw [hw.out.block b (Nat.lt_of_lt_of_le H.out.blt HW2.out.size) (fun e=>NE.out (by injection e)),B2.out]
  have h3:=e3.trans H.out.hb
  refine ⟨by rw [cell_of_row _ _ _ _ _ _ h3];rfl,frozen_of_row _ _ _ _ _ h3,⟨ret_int (by have:=HXY.out;omega),⟨?_⟩,⟨?_⟩⟩⟩
  ·refine put_ring H.out HXY.out HM.out.1 HE.out HX.out (by rw [HLB.out];exact HM.out.2) HSM.out ?_ ?_
   ·rw [heap_setCell_same _ _ _ _ _ _ h3];rfl
   ·rw [heap_setCell_other _ _ _ _ (by exact (Ne.symm NE.out))];exact hg.out
  ·exact ((Two.ofBelow (b:=b) (p:=p) (Still.below ⟨nq,rfl⟩)).trans ((Two.right HW2.out).trans (Two.right hw.out))).trans (Two.left (grown_setCell _ _ _ _))⟩
 clear c2 f2
 by_cases hcx:cap=x
 ·obtain rfl:y=0:=by omega
  go_wp2_with (with_reducible refine copy_into rfl (.tmp 26) (.tmp 29) 49 49 rfl 5 Tryz.underlying49 size5 _ _ _ _ _ _ rfl rfl p 0 0 _ ((bs.drop x).take 0) 5 HG2.out (by rw [L2.out]) (by rw [L2.out];simp) (fun hp=>absurd hp (by rw [L2.out];decide)) (by rw [L2.out,LS.out];have:=P1.out;omega) ?_)
  intro w3 HG3 HW3
  obtain ⟨c3,f3,F⟩:=FIN.out w3 HG3 HW3
  clear FIN HG2 HW2 HG3 HW3
  go_wp2
  go_ret
  exact F.out
 ·go_wp2_with (with_reducible refine copy_into rfl (.tmp 26) (.tmp 29) 49 49 rfl 5 Tryz.underlying49 size5 _ _ _ _ _ _ rfl rfl p 0 y _ ((bs.drop x).take y) 5 HG2.out (by rw [L2.out]) (by rw [L2.out];omega) (fun hp=>⟨rfl,sb,so+x,by rw [L2.out] at hp;rw [HAD.out (by omega)];simp [Addr.add],fun j hj=>by rw [L2.out] at hj;rw [show ((bs.drop x).take y).getD j 0=bs.getD (x+j) 0 from by simp [List.getD_eq_getElem?_getD,List.getElem?_drop,hj],Nat.add_assoc];exact HC2.out (x+j) (by omega)⟩) (by rw [L2.out,LS.out];have:=P1.out;omega) ?_)
  intro w3 HG3 HW3
  obtain ⟨c3,f3,F⟩:=FIN.out w3 HG3 HW3
  clear FIN HG2 HW2 HG3 HW3
  go_wp2
  go_ret
  exact F.out
set_option maxHeartbeats 400000 in
theorem put_some (b p a n m e x y r LB:Nat) (l bs:List Nat) (v:Value) (w:World) (h:RingAt w b p l a n) (hv:SrcN w p v bs) (sm:Small 256 bs) (hL:LB≤100000) (hLB:bs.length=LB) (hr:r=l.length-n) (hm:m=r) (hlt:(r:Int)<(LB:Int)) (he:pos l.length a n=e) (hx:x=min m (l.length-e)) (hy:y=m-x) :
 Calls Tryz.prog 118 #[.pointer (some ⟨b,0,none⟩),v] w fun en w'=>en=.returned (.int .i64 m)∧Sl (∃ l',RingAt w' b p l' a (n+m)∧l'.length=l.length∧held l' a (n+m)=held l a n++bs.take m)∧Sl (Two w w' b p):=by
 subst hm
 have hn:=h.le
 have ha:=h.lt
 have ht:=h.top
 have hel:e<l.length:=by rw [← he];exact pos_lt h.lt h.le
 have HP:=Sl.mk (fun k=>pieces_q b p a n n m e x y l (w.drewN k) (h.still ⟨k,rfl⟩) hn (by omega) he hx hy)
 have HR:Sl (∀ k,Calls Tryz.prog 145 #[.pointer (some ⟨b,0,none⟩)] (w.drewN k) fun e w'=>e=.returned (.int .i64 m)∧∃ m,w'=(w.drewN k).drewN m):=⟨fun k=>by rw [hr];exact room_any b p a n l _ (h.still ⟨k,rfl⟩)⟩
 have H:=Sl.mk h
 have c2:=h.c2
 have f2:w.frozen? ⟨b,2,none⟩=false:=frozen_of_row _ _ _ _ _ h.hb
 obtain ⟨ad,cap,sb,so,rfl,hcap,had,hsb,hcell⟩:=hv
 rw [hLB] at hcap had hsb hcell ⊢
 have HAD:=Sl.mk had
 have HSB:=Sl.mk hsb
 have HC:=Sl.mk hcell
 have HLB:=Sl.mk hLB
 have HE:=Sl.mk he
 have HX:=Sl.mk hx
 have HXY:Sl (x+y=m):=⟨by omega⟩
 have HM:Sl (n+m≤l.length∧m≤LB):=⟨by omega⟩
 have hxL:x≤LB:=by omega
 have hyL:y≤LB-x:=by omega
 have hn6:n≤65536:=by omega
 have L1:Sl ((bs.take x).length=x):=⟨by rw [List.length_take];omega⟩
 have L2:Sl (((bs.drop x).take y).length=y):=⟨by rw [List.length_take,List.length_drop];omega⟩
 have P1:Sl (e+x≤l.length∧y≤l.length):=⟨by omega⟩
 have NE:=Sl.mk h.ne
 have HSM:=Sl.mk sm
 clear h hr hLB he hx hy had hsb hcell sm
 go_enter Tryz.func118,Tryz.ntmps118
 go_wp2
 go_quiet (first | (go_at_call 145;exact Calls.quiet_of (HR.out _)) | (go_at_call 96;exact Calls.quiet_of (HP.out _)))
 have H1:Sl ((w.drewN nq).heap[p]? = some (.cells (u8s l).toArray 5 (0,0))):=⟨H.out.hp⟩
 have HC1:Sl (∀ j,j<LB→(w.drewN nq).cell? ⟨sb,so+j,none⟩=some (.int .u8 ((bs.getD j 0:Nat):Int))):=⟨HC.out⟩
 go_wp2_with (with_reducible refine copy_into rfl (.tmp 22) (.tmp 23) 49 49 rfl 5 Tryz.underlying49 size5 _ _ _ _ _ _ rfl rfl p e x l (bs.take x) 5 H1.out (by rw [L1.out]) (by rw [L1.out];omega) (fun hp=>⟨by unfold pd;rw [if_neg (by rw [L1.out] at hp;omega)],sb,so,HAD.out (by rw [L1.out] at hp;omega),fun j hj=>by rw [L1.out] at hj;rw [show (bs.take x).getD j 0=bs.getD j 0 from by simp [List.getD_eq_getElem?_getD,hj]];exact HC1.out j (by omega)⟩) (by rw [L1.out];exact P1.out.1) ?_)
 intro w2 HG2 HW2
 have LS:Sl ((splice l e (bs.take x)).length=l.length):=⟨splice_length _ _ _ (by rw [L1.out];exact P1.out.1)⟩
 have B2:Sl (w2.heap[b]? = w.heap[b]?):=⟨HW2.out.block b H.out.blt (fun e=>NE.out (by injection e))⟩
 have HC2:Sl (∀ j,j<LB→w2.cell? ⟨sb,so+j,none⟩=some (.int .u8 ((bs.getD j 0:Nat):Int))):=⟨fun j hj=>by
  rw [World.cell?_of_block (w:=w) (HW2.out.block sb (block_lt_of_cell (HC.out j hj)) (fun e=>HSB.out (by omega) (by injection e)))]
  exact HC.out j hj⟩
 have FIN:Sl (∀ w3:World,Sl (w3.heap[p]? = some (.cells (u8s (splice (splice l e (bs.take x)) 0 ((bs.drop x).take y))).toArray 5 (0,0)))→Sl (w2.grownBy w3 (some p)) →
  w3.cell? ⟨b,2,none⟩=some (.int .i64 n)∧w3.frozen? ⟨b,2,none⟩=false∧Sl (Ending.returned (.int .i64 ((x:Int)+(y:Int)))=.returned (.int .i64 m)∧Sl (∃ l',RingAt (w3.setCell ⟨b,2,none⟩ (.int .i64 ((n:Int)+((x:Int)+(y:Int))))) b p l' a (n+m)∧l'.length=l.length∧held l' a (n+m)=held l a n++bs.take m)∧Sl (Two w (w3.setCell ⟨b,2,none⟩ (.int .i64 ((n:Int)+((x:Int)+(y:Int))))) b p))):=⟨by
  intro w3 hg hw
  have e3:w3.heap[b]? = w.heap[b]?:=by rw [hw.out.block b (Nat.lt_of_lt_of_le H.out.blt HW2.out.size) (fun e=>NE.out (by injection e)),B2.out]
  have h3:=e3.trans H.out.hb
  refine ⟨by rw [cell_of_row _ _ _ _ _ _ h3];rfl,frozen_of_row _ _ _ _ _ h3,⟨ret_int (by have:=HXY.out;omega),⟨?_⟩,⟨?_⟩⟩⟩
  ·refine put_ring H.out HXY.out HM.out.1 HE.out HX.out (by rw [HLB.out];exact HM.out.2) HSM.out ?_ ?_
   ·rw [heap_setCell_same _ _ _ _ _ _ h3];rfl
   ·rw [heap_setCell_other _ _ _ _ (by exact (Ne.symm NE.out))];exact hg.out
  ·exact ((Two.ofBelow (b:=b) (p:=p) (Still.below ⟨nq,rfl⟩)).trans ((Two.right HW2.out).trans (Two.right hw.out))).trans (Two.left (grown_setCell _ _ _ _))⟩
 clear c2 f2
 by_cases hcx:cap=x
 ·obtain rfl:y=0:=by omega
  go_wp2_with (with_reducible refine copy_into rfl (.tmp 26) (.tmp 29) 49 49 rfl 5 Tryz.underlying49 size5 _ _ _ _ _ _ rfl rfl p 0 0 _ ((bs.drop x).take 0) 5 HG2.out (by rw [L2.out]) (by rw [L2.out];simp) (fun hp=>absurd hp (by rw [L2.out];decide)) (by rw [L2.out,LS.out];have:=P1.out;omega) ?_)
  intro w3 HG3 HW3
  obtain ⟨c3,f3,F⟩:=FIN.out w3 HG3 HW3
  clear FIN HG2 HW2 HG3 HW3
  go_wp2
  go_ret
  exact F.out
 ·go_wp2_with (with_reducible refine copy_into rfl (.tmp 26) (.tmp 29) 49 49 rfl 5 Tryz.underlying49 size5 _ _ _ _ _ _ rfl rfl p 0 y _ ((bs.drop x).take y) 5 HG2.out (by rw [L2.out]) (by rw [L2.out];omega) (fun hp=>⟨rfl,sb,so+x,by rw [L2.out] at hp;rw [HAD.out (by omega)];simp [Addr.add],fun j hj=>by rw [L2.out] at hj;rw [show ((bs.drop x).take y).getD j 0=bs.getD (x+j) 0 from by simp [List.getD_eq_getElem?_getD,List.getElem?_drop,hj],Nat.add_assoc];exact HC2.out (x+j) (by omega)⟩) (by rw [L2.out,LS.out];have:=P1.out;omega) ?_)
  intro w3 HG3 HW3
  obtain ⟨c3,f3,F⟩:=FIN.out w3 HG3 HW3
  clear FIN HG2 HW2 HG3 HW3
  go_wp2
  go_ret
  exact F.out
end Go.Proofs.YtlahonjmfecikaaGreatDoor.Rng
namespace Go.Proofs.YtlahonjmfecikaaGreatDoor.Rng
open Go.RowKit
set_option maxHeartbeats 400000 in
theorem take_cells (b p a n g:Nat) (z:Int) (l:List Nat) (w:World) (h:RingAt w b p l a n) (hg:got n z=g) :
 Calls Tryz.prog 93 #[.pointer (some ⟨b,0,none⟩),.int .i64 z] w fun e w'=>e=.returned (.slice (some ⟨w.heap.size,0,none⟩) g g)∧Sl (w'.heap[w.heap.size]? = some (.cells (u8s (held l a g)).toArray 5 (0,0)))∧Sl (RingAt w' b p l (pos l.length a g) (n-g))∧Sl (Two w w' b p):=by
 have HP:=Sl.mk (peek_any b p a n z l w h)
 rw [hg] at HP
 have H:=Sl.mk h
 have HG:=Sl.mk hg
 have hgn:g≤n:=by rw [← hg];exact got_le n z
 have hn:=h.le
 have ha:=h.lt
 have ht:=h.top
 have hq:pos l.length a g<l.length:=pos_lt ha (by omega)
 have hn6:n≤65536:=by omega
 clear h hg
 go_enter Tryz.func93,Tryz.ntmps93
 go_wp2_with fail
 refine HP.out.mono ?_
 rintro e1 w1 ⟨rfl,HX1,HB1⟩
 have R1:=Sl.mk (H.out.below HB1.out)
 have hb:=R1.out.hb
 have f1:w1.frozen? ⟨b,1,none⟩=false:=frozen_of_row _ _ _ _ _ hb
 have c1:=R1.out.c1
 obtain ⟨q,hq'⟩:∃ q,pos l.length a g=q:=⟨_,rfl⟩
 have PL:Sl (Calls Tryz.prog 123 #[.pointer (some ⟨b,0,none⟩),.int .i64 g] w1 fun e w'=>e=.returned (.int .i64 q)∧Still w1 w'):=⟨by rw [← hq'];exact place_any b p a n g l w1 R1.out (by omega)⟩
 have HQ:=Sl.mk hq'
 rw [hq'] at hq
 clear hq' hb f1 c1
 go_wp2_with fail
 refine PL.out.mono ?_
 rintro e2 w2 ⟨rfl,k2⟩
 have R2:=Sl.mk (R1.out.still k2)
 have K2:=Sl.mk k2
 have c1:=R2.out.c1
 have c2:=R2.out.c2
 have f1:w2.frozen? ⟨b,1,none⟩=false:=frozen_of_row _ _ _ _ _ R2.out.hb
 have f2:w2.frozen? ⟨b,2,none⟩=false:=frozen_of_row _ _ _ _ _ R2.out.hb
 have FIN:Sl (Sl ((((w2.setCell ⟨b,1,none⟩ (.int .i64 q)).setCell ⟨b,2,none⟩ (.int .i64 ((n:Int)-(g:Int)))).heap[w.heap.size]? = some (.cells (u8s (held l a g)).toArray 5 (0,0))))∧Sl (RingAt ((w2.setCell ⟨b,1,none⟩ (.int .i64 q)).setCell ⟨b,2,none⟩ (.int .i64 ((n:Int)-(g:Int)))) b p l (pos l.length a g) (n-g))∧Sl (Two w ((w2.setCell ⟨b,1,none⟩ (.int .i64 q)).setCell ⟨b,2,none⟩ (.int .i64 ((n:Int)-(g:Int)))) b p)):=⟨by
  have hbn:b≠w.heap.size:=by have:=H.out.blt;omega
  refine ⟨⟨?_⟩,⟨⟨?_,?_,R2.out.ne,?_,?_,R2.out.top,R2.out.small⟩⟩,⟨?_⟩⟩
  ·rw [heap_setCell_other _ _ _ _ (by exact Ne.symm hbn),heap_setCell_other _ _ _ _ (by exact Ne.symm hbn),K2.out.heap];exact HX1.out
  ·rw [heap_setCell_same _ _ _ _ _ _ (heap_setCell_same _ _ _ _ _ _ R2.out.hb),HQ.out]
   have:((n:Int)-(g:Int))=((n-g:Nat):Int):=by omega
   rw [this];rfl
  ·rw [heap_setCell_other _ _ _ _ (by exact Ne.symm R2.out.ne),heap_setCell_other _ _ _ _ (by exact Ne.symm R2.out.ne)];exact R2.out.hp
  ·rw [HQ.out];exact hq
  ·omega
  ·exact (((Two.ofBelow HB1.out).trans (Two.ofBelow K2.out.below)).trans (Two.left (grown_setCell _ _ _ _))).trans (Two.left (grown_setCell _ _ _ _))⟩
 clear k2 hn ha ht
 go_wp2
 go_ret
 exact ⟨rfl,FIN.out⟩
theorem new_any (L:Nat) (w:World) (h1:1≤L) (h2:L≤65536) :
 Calls Tryz.prog 40 #[.int .i64 L] w fun e w'=>e=.returned (.tuple #[.pointer (some ⟨w.heap.size+1,0,none⟩),.int .i64 0])∧Sl (RingAt w' (w.heap.size+1) w.heap.size (zs L) 0 0)∧Sl (Below w.heap.size w w')∧Sl (w.heap.size+1<w'.heap.size):=by
 have hmk:=make_u8 L L rfl (by omega) w
 have g1:¬ (L:Int)<1:=by omega
 have g2:¬ (65536:Int)<(L:Int):=by omega
 go_enter Tryz.func40,Tryz.ntmps40
 go_wp2
 go_ret2
 refine ⟨rfl,⟨⟨?_,?_,by omega,by simp;omega,by omega,by simp;exact h2,zs_small L⟩⟩,⟨((Below.refl _ _).alloc (Nat.le_refl _) _).alloc (by simp) _⟩,⟨by simp⟩⟩
 ·rw [alloc_new _ _ _ (by simp)];simp
 ·rw [alloc_old _ _ _ (by simp),alloc_new _ _ _ rfl]
end Go.Proofs.YtlahonjmfecikaaGreatDoor.Rng
namespace Go.Proofs.YtlahonjmfecikaaGreatDoor.Rng
open Go.RowKit
def RingH (w:World) (b p L:Nat) (hs:List Nat):Prop:=∃ l a,RingAt w b p l a hs.length∧l.length=L∧held l a hs.length=hs
theorem RingH.le {w:World} {b p L:Nat} {hs:List Nat} (h:RingH w b p L hs):hs.length≤L:=by
 obtain ⟨l,a,h,rfl,_⟩:=h;exact h.le
theorem RingH.top {w:World} {b p L:Nat} {hs:List Nat} (h:RingH w b p L hs):L≤65536:=by
 obtain ⟨l,a,h,rfl,_⟩:=h;exact h.top
theorem RingH.blt {w:World} {b p L:Nat} {hs:List Nat} (h:RingH w b p L hs):b<w.heap.size:=by
 obtain ⟨l,a,h,_⟩:=h;exact h.blt
theorem RingH.plt {w:World} {b p L:Nat} {hs:List Nat} (h:RingH w b p L hs):p<w.heap.size:=by
 obtain ⟨l,a,h,_⟩:=h;exact h.plt
theorem RingH.below {w w':World} {b p L:Nat} {hs:List Nat} (h:RingH w b p L hs) (k:Below w.heap.size w w'):RingH w' b p L hs:=by
 obtain ⟨l,a,h,h2,h3⟩:=h;exact ⟨l,a,h.below k,h2,h3⟩
theorem RingAt.two {w w':World} {b p a n c q:Nat} {l:List Nat} (h:RingAt w b p l a n) (k:Two w w' c q) (h1:b≠c) (h2:b≠q) (h3:p≠c) (h4:p≠q):RingAt w' b p l a n :=
 ⟨by rw [k.block _ h.blt h1 h2];exact h.hb,by rw [k.block _ h.plt h3 h4];exact h.hp,h.ne,h.lt,h.le,h.top,h.small⟩
theorem RingH.two {w w':World} {b p L c q:Nat} {hs:List Nat} (h:RingH w b p L hs) (k:Two w w' c q) (h1:b≠c) (h2:b≠q) (h3:p≠c) (h4:p≠q):RingH w' b p L hs:=by
 obtain ⟨l,a,h,h5,h6⟩:=h;exact ⟨l,a,h.two k h1 h2 h3 h4,h5,h6⟩
theorem RingH.small {w:World} {b p L:Nat} {hs:List Nat} (h:RingH w b p L hs):Small 256 hs:=by
 obtain ⟨l,a,h,_,h3⟩:=h
 rw [← h3]
 intro x hx
 simp only [held,List.mem_map] at hx
 obtain ⟨i,_,rfl⟩:=hx
 exact h.small.getD (by decide) _
theorem new_ex (w0 W:World) (L:Nat) (h1:1≤L) (h2:L≤65536) (hB:Below w0.heap.size w0 W) :
 Calls Tryz.prog 40 #[.int .i64 L] W fun e w'=>e=.returned (.tuple #[.pointer (some ⟨W.heap.size+1,0,none⟩),.int .i64 0])∧Sl (RingH w' (W.heap.size+1) W.heap.size L [])∧Sl (Below W.heap.size W w')∧Sl (Below w0.heap.size w0 w') :=
 (new_any L W h1 h2).mono fun _ _ ⟨he,hr,hb,_⟩=>⟨he,⟨zs L,0,hr.out,zs_length L,rfl⟩,hb,⟨hB.trans (hb.out.mono hB.size)⟩⟩
theorem len_ex (W:World) (b p L n:Nat) (hs:List Nat) (h:RingH W b p L hs) (hn:hs.length=n) :
 Calls Tryz.prog 95 #[.pointer (some ⟨b,0,none⟩)] W fun e w'=>e=.returned (.int .i64 n)∧W=w':=by
 obtain ⟨l,a,h,_,_⟩:=h
 rw [hn] at h
 exact len_any b p a n l W h
theorem put_ex (w0 W:World) (b p L m:Nat) (hs bs:List Nat) (v:Value) (hB:Below w0.heap.size w0 W) (h1:w0.heap.size≤b) (h2:w0.heap.size≤p) (h:RingH W b p L hs) (hv:SrcN W p v bs) (sm:Small 256 bs) (hL:bs.length≤100000) (hm:min bs.length (L-hs.length)=m) :
 Calls Tryz.prog 118 #[.pointer (some ⟨b,0,none⟩),v] W fun e w'=>e=.returned (.int .i64 m)∧Sl (RingH w' b p L (hs++bs.take m))∧Sl (Two W w' b p)∧Sl (Below w0.heap.size w0 w'):=by
 obtain ⟨l,a,h,hl,hh⟩:=h
 have fin:∀ (e:Ending) (w':World),(e=.returned (.int .i64 m)∧Sl (∃ l',RingAt w' b p l' a (hs.length+m)∧l'.length=l.length∧held l' a (hs.length+m)=held l a hs.length++bs.take m)∧Sl (Two W w' b p)) →
  e=.returned (.int .i64 m)∧Sl (RingH w' b p L (hs++bs.take m))∧Sl (Two W w' b p)∧Sl (Below w0.heap.size w0 w'):=by
  rintro e w' ⟨rfl,⟨l',q1,q2,q3⟩,q4⟩
  have hlen:(hs++bs.take m).length=hs.length+m:=by rw [List.length_append,List.length_take];omega
  exact ⟨rfl,⟨l',a,by rw [hlen];exact q1,by rw [q2];exact hl,by rw [hlen,q3,hh]⟩,q4,⟨q4.out.below hB h1 h2⟩⟩
 by_cases hc:L-hs.length<bs.length
 ·exact (put_some b p a hs.length m _ _ _ (L-hs.length) bs.length l bs v W h hv sm hL rfl (by rw [hl]) (by omega) (by omega) rfl rfl rfl).mono fin
 ·exact (put_all b p a hs.length m _ _ _ (L-hs.length) bs.length l bs v W h hv sm hL rfl (by rw [hl]) (by omega) (by omega) rfl rfl rfl).mono fin
theorem got_take (hs:List Nat) (z:Int):hs.take (got hs.length z)=hs.take z.toNat:=by
 unfold got
 by_cases h:hs.length≤z.toNat
 ·rw [Nat.min_eq_left h,List.take_of_length_le (Nat.le_refl _),List.take_of_length_le h]
 ·rw [Nat.min_eq_right (by omega)]
theorem got_drop (hs:List Nat) (z:Int):hs.drop (got hs.length z)=hs.drop z.toNat:=by
 unfold got
 by_cases h:hs.length≤z.toNat
 ·rw [Nat.min_eq_left h,List.drop_eq_nil_of_le (Nat.le_refl _),List.drop_eq_nil_of_le h]
 ·rw [Nat.min_eq_right (by omega)]
theorem peek_ex (w0 W:World) (b p L k:Nat) (hs out:List Nat) (z:Int) (hB:Below w0.heap.size w0 W) (h:RingH W b p L hs) (ho:hs.take z.toNat=out) (hk:out.length=k) :
 Calls Tryz.prog 66 #[.pointer (some ⟨b,0,none⟩),.int .i64 z] W fun e w'=>e=.returned (.slice (some ⟨W.heap.size,0,none⟩) k k)∧Sl (RowB w' W.heap.size out)∧Sl (RingH w' b p L hs)∧Sl (Below W.heap.size W w')∧Sl (Below w0.heap.size w0 w'):=by
 have h0:=h
 obtain ⟨l,a,h,hl,hh⟩:=h
 have e1:got hs.length z=k:=by rw [← hk,← ho,← got_take,List.length_take];have:=got_le hs.length z;omega
 refine (peek_any b p a hs.length z l W h).mono fun _ _ ⟨he,hr,hb⟩=>⟨by rw [he,e1],⟨?_⟩,⟨h0.below hb.out⟩,hb,⟨hB.trans (hb.out.mono hB.size)⟩⟩
 have e2:held l a (got hs.length z)=out:=by rw [← held_take l a hs.length _ (got_le _ _),hh,got_take,ho]
 rw [← e2];exact hr.out
theorem take_ex (w0 W:World) (b p L k:Nat) (hs out rest:List Nat) (z:Int) (hB:Below w0.heap.size w0 W) (h1:w0.heap.size≤b) (h2:w0.heap.size≤p) (h:RingH W b p L hs) (ho:hs.take z.toNat=out) (hk:out.length=k) (hr:hs.drop z.toNat=rest) :
 Calls Tryz.prog 93 #[.pointer (some ⟨b,0,none⟩),.int .i64 z] W fun e w'=>e=.returned (.slice (some ⟨W.heap.size,0,none⟩) k k)∧Sl (RowB w' W.heap.size out)∧Sl (RingH w' b p L rest)∧Sl (Two W w' b p)∧Sl (Below w0.heap.size w0 w'):=by
 obtain ⟨l,a,h,hl,hh⟩:=h
 have hg:=got_le hs.length z
 have e1:got hs.length z=k:=by rw [← hk,← ho,← got_take,List.length_take];omega
 refine (take_cells b p a hs.length _ z l W h rfl).mono fun _ w' ⟨he,hx,hq,ht⟩=>⟨by rw [he,e1],⟨?_⟩,⟨?_⟩,ht,⟨ht.out.below hB h1 h2⟩⟩
 ·have e2:held l a (got hs.length z)=out:=by rw [← held_take l a hs.length _ hg,hh,got_take,ho]
  rw [← e2];exact hx.out
 ·have hle:=h.le
  have hlt:=h.lt
  have e3:rest.length=hs.length-got hs.length z:=by rw [← hr,← got_drop,List.length_drop]
  refine ⟨l,_,by rw [e3];exact hq.out,hl,?_⟩
  rw [e3,held_drop l a hs.length _ hlt hg hle _ (Or.inl rfl) (pos_lt hlt (by omega)),hh,got_drop,hr]
end Go.Proofs.YtlahonjmfecikaaGreatDoor.Rng
set_option maxRecDepth 100000
namespace Go.Proofs.YtlahonjmfecikaaGreatDoor
open Go.RowKit
def idle (D:Nat→Bool) (listed:Array Bool):Bool:=(List.range listed.size).all fun d=>!D d||!listed.getD d false
theorem idle_iff {D:Nat→Bool} {listed:Array Bool} : idle D listed=true↔∀ d,D d=true→listed.getD d false=false:=by
 unfold idle
 rw [List.all_eq_true]
 refine ⟨fun h d hd=>?_,fun h d _=>?_⟩
 ·by_cases hs:d<listed.size
  ·have:=h d (List.mem_range.2 hs)
   simpa [hd] using this
  ·simp [Array.getElem?_eq_none (Nat.le_of_not_lt hs)]
 ·cases hd:D d with
  | false=>rfl
  | true=>simp [h d hd]
theorem idle_set {D:Nat→Bool} {listed:Array Bool} {j:Nat} (h:idle D listed=true) (hj:D j=false):idle D (listed.setIfInBounds j true)=true :=
 idle_iff.2 fun d hd=>by rw [getD_set_ne false (fun e=>by rw [e,hd] at hj;cases hj)];exact idle_iff.1 h d hd
theorem idle_back {D:Nat→Bool} {listed:Array Bool} {i:Nat} (h:idle D (listed.setIfInBounds i true)=true):idle D listed=true :=
 idle_iff.2 fun d hd=>by
  cases g:listed.getD d false with
  | false=>rfl
  | true=>exact absurd (getD_set_true (i:=i) g) (by rw [idle_iff.1 h d hd];decide)
section
variable {P:Program} {md:Region.Mode} {ops:Array Oper} {Q:Exit→Act→World→Prop} {S:World→Prop} {D:Nat→Bool}
def wpAnyL (P:Program) (md:Region.Mode) (ops:Array Oper) (Q:Exit→Act→World→Prop) (S:World→Prop) (D:Nat→Bool) (fuel:Nat) (listed:Array Bool) (a:Act) (w:World):Prop :=
 match fuel with
 | 0=>Region.ready md ops listed=[]∧Q .normal a w
 | n+1=>(Region.ready md ops listed=[]→Q .normal a w)∧∀ k,k∈Region.ready md ops listed→wpOp P ops Q k (fun b u=>(idle D (listed.setIfInBounds k true)=true→S u)∧wpAnyL P md ops Q S D n (listed.setIfInBounds k true) b u) a w
theorem any_of_last (fuel:Nat):∀ (listed:Array Bool) (a:Act) (w:World),wpAnyL P md ops Q S D fuel listed a w→wpAny P md ops Q fuel listed a w:=by
 induction fuel with
 | zero=>intro listed a w h;exact h
 | succ n ih=>intro listed a w h;exact ⟨h.1,fun k hk=>wpOp_mono (fun b u g=>ih _ b u g.2) (h.2 k hk)⟩
def waits (md:Region.Mode) (ops:Array Oper) (D:Nat→Bool) (i:Nat):Bool:=(List.range ops.size).all fun j=>!D j||match ops[j]? with
 | some o=>o.after.any (fun e=>Region.binds md e&&e.on==i)
 | none=>true
theorem waits_spec {i j:Nat} {o:Oper} (h:waits md ops D i=true) (hj:ops[j]? = some o) (hd:D j=true):∃ e∈o.after,Region.binds md e=true∧e.on=i:=by
 unfold waits at h
 rw [List.all_eq_true] at h
 have g:=h j (List.mem_range.2 (Array.getElem?_eq_some_iff.1 hj).1)
 rw [hd,hj] at g
 simp only [Bool.not_true,Bool.false_or] at g
 obtain ⟨e,he,hb⟩:=Array.any_eq_true'.1 g
 rw [Bool.and_eq_true,beq_iff_eq] at hb
 exact ⟨e,he,hb⟩
theorem last_first {T:World→Prop} {i:Nat} {oi:Oper} {v:Value} (hi:ops[i]? = some oi) (hsel:∀ (j:Nat) (o:Oper) cs b,ops[j]? = some o→o.op≠.select cs b) (hDi:D i=false)
 (n:Nat):∀ (listed:Array Bool) (a:Act) (w:World),((∀ u,T u)∨(waits md ops D i=true∧idle D listed=true∧∀ u,S u→T u))→Region.free md ops listed i=true→i∈Region.ready md ops listed→YieldsIf P ops T oi v a→T w→(idle D listed=true→S w) →
  wpAnyL P md ops (NoPanic Q) S D n (listed.setIfInBounds i true) (a.put oi.dst v) w→wpAnyL P md ops (NoPanic Q) S D (n+1) listed a w:=by
 induction n with
 | zero =>
   intro listed a w _ _ hr hy hT hS H
   refine ⟨fun e=>by rw [e] at hr;exact absurd hr List.not_mem_nil,fun j hj=>?_⟩
   by_cases e:j=i
   ·rw [e];exact hy.wpOp hi hT ⟨fun g=>hS (idle_back g),H⟩
   ·exact absurd (ready_mono hj e) (by rw [H.1];exact List.not_mem_nil)
 | succ n ih =>
   intro listed a w hc hf hr hy hT hS H
   refine ⟨fun e=>by rw [e] at hr;exact absurd hr List.not_mem_nil,fun j hj=>?_⟩
   by_cases e:j=i
   ·rw [e];exact hy.wpOp hi hT ⟨fun g=>hS (idle_back g),H⟩
   obtain ⟨hun,oj,hoj,hall⟩:=mem_ready.1 hj
   have hno:∀ e∈oj.after,Region.binds md e=true→e.on≠i:=fun x hx hb heq=>by
    have g1:=hall x hx hb
    have g0:=(mem_ready.1 hr).1
    rw [heq] at g1
    rcases Nat.lt_or_ge i listed.size with h | h
    ·simp [h] at g0 g1
     rw [g0] at g1;cases g1
    ·simp [Array.getElem?_eq_none h] at g1
   have hcj:(∀ u,T u)∨(waits md ops D i=true∧idle D (listed.setIfInBounds j true)=true∧∀ u,S u→T u):=by
    rcases hc with hc | ⟨h1,h2,h3⟩
    ·exact .inl hc
    ·refine .inr ⟨h1,idle_set h2 ?_,h3⟩
     cases hd:D j with
     | false=>rfl
     | true =>
       obtain ⟨x,hx,hb,he⟩:=waits_spec h1 hoj hd
       exact absurd he (hno x hx hb)
   have hap:=Region.free_spec hi hf j oj hoj e hun hno
   have hf2:Region.free md ops (listed.setIfInBounds j true) i=true:=by
    unfold Region.free at hf ⊢
    rw [hi] at hf ⊢
    simp only [List.all_eq_true,Bool.or_eq_true] at hf ⊢
    intro k hk
    rcases hf k hk with (g | g) | g
    ·exact .inl (.inl g)
    ·refine .inl (.inr ?_)
     by_cases ejk:j=k
     ·subst ejk;rw [hun] at g;cases g
     ·rw [getD_set_ne true ejk];exact g
    ·exact .inr g
   refine wpOp_mono (fun b u h3=>?_) (wpOp_putIf hoj hap (fun cs b=>hsel i oi cs b hi) (fun cs b=>hsel j oj cs b hoj) (fun _ _ _ h=>h) hy (H.2 j (ready_mono hj e)))
   have hSu:idle D (listed.setIfInBounds j true)=true→S u:=fun g=>h3.2.1 (by rw [Array.setIfInBounds_comm _ _ (Ne.symm e)];exact idle_set g hDi)
   have hTu:T u:=by
    rcases hcj with g | ⟨_,g2,g3⟩
    ·exact g u
    ·exact g3 u (hSu g2)
   exact ⟨hSu,ih _ b u hcj hf2 (ready_mono hr (Ne.symm e)) h3.1 hTu hSu (by rw [Array.setIfInBounds_comm _ _ e];exact h3.2.2)⟩
theorem last_begin {id:Nat} {a:Act} {w:World} (hm:P.follows .mixedOrders=true) (h:wpAnyL P .any ops Q S D ops.size (Array.replicate ops.size false) a w.drew):(Code.region id ops true).wp P Q a w :=
 wp_region_any hm (any_of_last _ _ _ _ h)
theorem last_done {listed:Array Bool} {a:Act} {w:World} (hr:Region.ready md ops listed=[]) (h:Q .normal a w):∀ fuel,wpAnyL P md ops Q S D fuel listed a w
 | 0=>⟨hr,h⟩
 | n+1=>⟨fun _=>h,fun k hk=>absurd hk (by rw [hr];exact List.not_mem_nil)⟩
theorem last_take {fuel:Nat} {listed:Array Bool} {a:Act} {w:World} {d:Option Tmp} {op:Op} {g:Option (Nat×Bool)} (i:Nat) (v:Value) (hi:opIsG ops i d op g) (hw:lets ops a g=true)
 (hs:Region.noSelect ops=true) (hf:Region.free md ops listed i=true) (hr:(Region.ready md ops listed).contains i=true) (hc:(!D i&&waits md ops D i&&idle D listed)=true)
 (hy:∀ o:Oper,o.op=op→∀ w,S w→(execOp a.eval o).run P w=.ok (.value v) w) (hS:S w)
 (h:wpAnyL P md ops (NoPanic Q) S D fuel (listed.setIfInBounds i true) (a.put d v) w):wpAnyL P md ops (NoPanic Q) S D (fuel+1) listed a w:=by
 obtain ⟨o,ho,hd,hop,hg⟩:=op_ofG hi
 simp only [Bool.and_eq_true,Bool.not_eq_true'] at hc
 refine last_first (T:=S) ho (Region.noSelect_spec hs) hc.1.1 fuel listed a w (.inr ⟨hc.1.2,hc.2,fun _ h=>h⟩) hf (by simpa using hr) (.inl ⟨wanted_of hg hw,hy o hop⟩) hS (fun _=>hS) ?_
 rw [hd];exact h
theorem last_pure {fuel:Nat} {listed:Array Bool} {a:Act} {w:World} {d:Option Tmp} {op:Op} {g:Option (Nat×Bool)} (i:Nat) (v:Value) (hi:opIsG ops i d op g) (hw:lets ops a g=true)
 (hs:Region.noSelect ops=true) (hf:Region.free md ops listed i=true) (hr:(Region.ready md ops listed).contains i=true) (hc:D i=false)
 (hy:∀ o:Oper,o.op=op→∀ w,(execOp a.eval o).run P w=.ok (.value v) w) (hS:S w)
 (h:wpAnyL P md ops (NoPanic Q) S D fuel (listed.setIfInBounds i true) (a.put d v) w):wpAnyL P md ops (NoPanic Q) S D (fuel+1) listed a w:=by
 obtain ⟨o,ho,hd,hop,hg⟩:=op_ofG hi
 refine last_first (T:=fun _=>True) ho (Region.noSelect_spec hs) hc fuel listed a w (.inl fun _=>trivial) hf (by simpa using hr) (.inl ⟨wanted_of hg hw,fun w _=>hy o hop w⟩) trivial (fun _=>hS) ?_
 rw [hd];exact h
theorem last_all {rs:List Nat} {fuel:Nat} {listed:Array Bool} {a:Act} {w:World} (hr:Region.ready md ops listed=rs) (hne:rs≠[])
 (h:∀ k∈rs,wpOp P ops Q k (fun b u=>(idle D (listed.setIfInBounds k true)=true→S u)∧wpAnyL P md ops Q S D fuel (listed.setIfInBounds k true) b u) a w):wpAnyL P md ops Q S D (fuel+1) listed a w :=
 ⟨fun e=>absurd (hr.symm.trans e) hne,hr ▸ h⟩
theorem last_store {fuel:Nat} {listed:Array Bool} {a:Act} {w:World} {d:Option Tmp} {op:Op} {g:Option (Nat×Bool)} {t:TypeId} (i:Nat) (w':World) (hi:opIsT ops i d op g t) (hw:lets ops a g=true)
 (hr:Region.ready md ops listed=[i]) (hy:∀ o:Oper,o.op=op→o.type=t→(execOp a.eval o).run P w=.ok .skip w') (hD:idle D (listed.setIfInBounds i true)=false)
 (h:wpAnyL P md ops Q S D fuel (listed.setIfInBounds i true) (a.put d undef) w'):wpAnyL P md ops Q S D (fuel+1) listed a w:=by
 obtain ⟨o,ho,hd,hop,hg,ht⟩:=op_ofT hi
 refine last_all hr (by simp) (fun k hk=>?_)
 rw [List.mem_singleton] at hk
 subst hk
 refine wpOp_step ho (fun K hK=>?_)
 rw [if_pos (wanted_of hg hw)]
 unfold Oper.wp
 rw [hy o hop ht,Oper.upon_skip,hd]
 exact hK _ _ ⟨fun e=>absurd (e.symm.trans hD) (by decide),h⟩
theorem last_call {fuel:Nat} {listed:Array Bool} {a:Act} {w:World} {d:Option Tmp} {op:Op} {g:Option (Nat×Bool)} (i:Nat) (f:FuncId) (args:Array Value) (hi:opIsG ops i d op g) (hw:lets ops a g=true)
 (hr:Region.ready md ops listed=[i]) (hy:∀ o:Oper,o.op=op→(execOp a.eval o).run P w=.ok (.enter f args) w) (hD:idle D (listed.setIfInBounds i true)=false)
 (h:Calls P f args w fun e w'=>∃ v,e=.returned v∧wpAnyL P md ops Q S D fuel (listed.setIfInBounds i true) (a.put d v) w'):wpAnyL P md ops Q S D (fuel+1) listed a w:=by
 obtain ⟨o,ho,hd,hop,hg⟩:=op_ofG hi
 refine last_all hr (by simp) (fun k hk=>?_)
 rw [List.mem_singleton] at hk
 subst hk
 refine wpOp_step ho (fun K hK=>?_)
 rw [if_pos (wanted_of hg hw)]
 unfold Oper.wp
 rw [hy o hop,Oper.upon_enter]
 refine h.mono ?_
 rintro e w' ⟨v,rfl,h'⟩
 rw [hd]
 exact hK _ _ ⟨fun e=>absurd (e.symm.trans hD) (by decide),h'⟩
theorem last_two {fuel:Nat} {listed:Array Bool} {a:Act} {w:World} {di dj:Option Tmp} {opi opj:Op} {gi gj:Option (Nat×Bool)} {ti tj:TypeId} (i j:Nat) (vi:Value) (wi:World) (vj:Value) (wj:World)
 (hi:opIsT ops i di opi gi ti) (hj:opIsT ops j dj opj gj tj) (hwi:lets ops a gi=true) (hwj:lets ops a gj=true) (hr:Region.ready md ops listed=[i,j])
 (yi:∀ o:Oper,o.op=opi→o.type=ti→(execOp a.eval o).run P w=.ok (.value vi) wi) (yj:∀ o:Oper,o.op=opj→o.type=tj→(execOp a.eval o).run P w=.ok (.value vj) wj) (hSi:S wi) (hSj:S wj)
 (h1:wpAnyL P md ops Q S D fuel (listed.setIfInBounds i true) (a.put di vi) wi) (h2:wpAnyL P md ops Q S D fuel (listed.setIfInBounds j true) (a.put dj vj) wj):wpAnyL P md ops Q S D (fuel+1) listed a w:=by
 obtain ⟨o,ho,hd,hop,hg,ht⟩:=op_ofT hi
 obtain ⟨o',ho',hd',hop',hg',ht'⟩:=op_ofT hj
 refine last_all hr (by simp) (fun k hk=>?_)
 rcases List.mem_cons.1 hk with rfl | hk
 ·refine wpOp_step ho (fun K hK=>?_)
  rw [if_pos (wanted_of hg hwi)]
  unfold Oper.wp
  rw [yi o hop ht,Oper.upon_value,hd]
  exact hK _ _ ⟨fun _=>hSi,h1⟩
 ·rw [List.mem_singleton] at hk
  subst hk
  refine wpOp_step ho' (fun K hK=>?_)
  rw [if_pos (wanted_of hg' hwj)]
  unfold Oper.wp
  rw [yj o' hop' ht',Oper.upon_value,hd']
  exact hK _ _ ⟨fun _=>hSj,h2⟩
end
end Go.Proofs.YtlahonjmfecikaaGreatDoor
namespace LegPlain
open FramePlain (Fr Fr0 form ctl zero4 text)
open MsgPlain (Ev Ms M0 run)
open CutPlain (frs)
open ClosePlain (putC getC codeC acrossC valid)
theorem pend_le {c:Cf} {l:Lg} (h:Low c l) {k m:Nat} (hk:l.ctl.length≤k) (hm:wts l.rest≤m):pend l≤c.out+(14+max c.frm 125)+k*139+m:=by
 have h1:=h.ring
 have h2:=h.tail
 have h3:=wts_le (k:=125) l.ctl (fun f hf=>(h.ctl f hf).len)
 have h6:l.ctl.length*139≤k*139:=Nat.mul_le_mul_right _ hk
 unfold pend
 omega
theorem frs_wts {most:Nat} (hm:1≤most):∀ (n:Nat) (op:Int) (t:List Nat),t.length≤n→wts (frs most op t)≤14+15*t.length
 | 0,op,t,h=>by
   rw [CutPlain.frs_last (by omega)]
   show 14+t.length+0≤_
   omega
 | n+1,op,t,h=>by
   by_cases h1:t.length≤most
   ·rw [CutPlain.frs_last h1]
    show 14+t.length+0≤_
    omega
   ·rw [CutPlain.frs_more hm h1,wts_cons]
    have:=frs_wts hm n 0 (t.drop most) (by rw [List.length_drop];omega)
    rw [List.length_drop] at this
    unfold wt
    rw [List.length_take]
    omega
theorem wts_drop (l:List Fr) (k:Nat):wts (l.drop k)≤wts l:=by
 have:=wts_append (l.take k) (l.drop k)
 rw [List.take_append_drop] at this
 omega
def pongs (l:List Fr):Nat:=(l.filter fun f=>decide (f.op=10)).length
def others (l:List Fr):Nat:=(l.filter fun f=>!decide (f.op=10)).length
theorem few_sum (l:List Fr):l.length=pongs l+others l:=by
 unfold pongs others
 induction l with
 | nil=>rfl
 | cons f l ih =>
   rw [List.filter_cons,List.filter_cons,List.length_cons]
   by_cases h:f.op=10
   ·rw [if_pos (by simp [h]),if_neg (by simp [h]),List.length_cons];omega
   ·rw [if_neg (by simp [h]),if_pos (by simp [h]),List.length_cons];omega
theorem pongs_drop (l:List Fr) (k:Nat):pongs (l.drop k)≤pongs l:=((List.drop_sublist k l).filter _).length_le
theorem others_drop (l:List Fr) (k:Nat):others (l.drop k)≤others l:=((List.drop_sublist k l).filter _).length_le
theorem pongs_append (a b:List Fr):pongs (a++b)=pongs a+pongs b:=by unfold pongs;rw [List.filter_append,List.length_append]
theorem others_append (a b:List Fr):others (a++b)=others a+others b:=by unfold others;rw [List.filter_append,List.length_append]
theorem repl_pongs (d:List Nat):∀ l:List Fr,pongs (repl d l)=pongs l∧others (repl d l)=others l
 | []=>⟨rfl,rfl⟩
 | f :: l=>by
   obtain ⟨i1,i2⟩:=repl_pongs d l
   have c1:∀ (g:Fr) (l:List Fr),pongs (g :: l)=pongs [g]+pongs l:=fun g l=>pongs_append [g] l
   have c2:∀ (g:Fr) (l:List Fr),others (g :: l)=others [g]+others l:=fun g l=>others_append [g] l
   unfold repl
   by_cases h:f.op=10
   ·rw [if_pos h]
    have e1:pongs [{f with data:=d}]=pongs [f]:=by unfold pongs;simp [h]
    have e2:others [{f with data:=d}]=others [f]:=by unfold others;simp [h]
    exact ⟨by rw [c1,e1,← c1],by rw [c2,e2,← c2]⟩
   ·rw [if_neg h]
    exact ⟨by rw [c1,i1,← c1],by rw [c2,i2,← c2]⟩
theorem no_pongs {l:List Fr} (h:¬ (l.any fun f=>decide (f.op=10))=true):pongs l=0:=by
 unfold pongs
 rw [List.filter_eq_nil_iff.2 (fun f hf e=>h (List.any_eq_true.2 ⟨f,hf,e⟩))];rfl
structure Few (c:Cf) (l:Lg) (k:Nat):Prop where
 ok:Ok c l
 tail:l.tail.length≤14+max c.frm 125
 pongs:pongs l.ctl≤1
 others:others l.ctl≤k+l.sent.toNat
 rest:wts l.rest≤14+15*c.msg
theorem Few.low {c:Cf} {l:Lg} {k:Nat} (h:Few c l k):Low c l:=low_of h.ok h.tail
theorem toNat_le (b:Bool):b.toNat≤1:=by cases b<;>decide
theorem Few.pend {c:Cf} {l:Lg} {k:Nat} (h:Few c l k):pend l≤c.out+(14+max c.frm 125)+(k+2)*139+(14+15*c.msg) :=
 pend_le h.low (by rw [few_sum];have:=h.pongs;have:=h.others;have:=toNat_le l.sent;omega) h.rest
theorem Few.mono {c:Cf} {l:Lg} {k j:Nat} (h:Few c l k) (hj:k≤j):Few c l j:=⟨h.ok,h.tail,h.pongs,by have:=h.others;omega,h.rest⟩
theorem few_zero (c:Cf) (d:Nat):Few c (L0 d) 0:=⟨ok_zero c d,Nat.zero_le _,Nat.zero_le _,Nat.zero_le _,Nat.zero_le _⟩
theorem few_move {c:Cf} (hf:c.frm≤65536) {l:Lg} {k:Nat} (hok:Ok c (move c l)) (hi:Inv c l) (ht:l.tail.length≤14+max c.frm 125) (hp:LegPlain.pongs l.ctl≤1) (hk:LegPlain.others l.ctl≤k+l.sent.toNat) (hr:wts l.rest≤14+15*c.msg):Few c (move c l) k:=by
 obtain ⟨_,p2,j,p3⟩:=move_low hf hi.ctl hi.rest ht
 have sm:=(move_inv hi).2
 obtain ⟨i,hi⟩:=sm.rest
 refine ⟨hok,p2,by rw [p3];exact Nat.le_trans (pongs_drop _ _) hp,by rw [p3,sm.sent];exact Nat.le_trans (others_drop _ _) hk,?_⟩
 rw [hi]
 exact Nat.le_trans (wts_drop _ _) hr
theorem few_take {c:Cf} (hf:c.frm≤65536) {l:Lg} {k:Nat} (h:Few c l k) (n:Int):Few c (takeN c l n).1 k:=by
 have hok:=ok_take h.ok n
 refine few_move hf hok ⟨?_,h.ok.inv.hist,h.ok.inv.ctl,h.ok.inv.rest,?_⟩ h.tail h.pongs h.others h.rest
 ·show l.gone++l.ring.take n.toNat++l.ring.drop n.toNat++l.tail=_
  rw [List.append_assoc l.gone,List.take_append_drop];exact h.ok.inv.bytes
 ·show (l.ring.drop n.toNat).length≤_
  rw [List.length_drop];have:=h.ok.inv.ring;omega
theorem few_send {c:Cf} (hf:c.frm≤65536) (hm:1≤c.frm) {l:Lg} {k:Nat} (h:Few c l k) (op:Int) (t:List Nat) (hs:∀ y∈t,y<256):Few c (send c l op t).1 k:=by
 have hok:=ok_send hm h.ok op t hs
 unfold send at hok ⊢
 by_cases hc:free l=true∧(op=1∨op=2)∧t.length≤c.msg
 ·rw [if_pos hc] at hok ⊢
  have hR:=frs_isR (c:=c) hm hc.2.1 t hs
  refine few_move hf hok ⟨h.ok.inv.bytes,h.ok.inv.hist,h.ok.inv.ctl,hR,h.ok.inv.ring⟩ h.tail h.pongs h.others ?_
  have:=frs_wts hm _ op t (Nat.le_refl _)
  show wts (frs c.frm op t)≤_
  have:=hc.2.2
  omega
 ·rw [if_neg hc];exact h
theorem few_control {c:Cf} (hf:c.frm≤65536) {l:Lg} {k:Nat} (hi:Inv c l) (ht:l.tail.length≤14+max c.frm 125) (hr:wts l.rest≤14+15*c.msg) (op:Int) (ho:op=8∨op=9∨op=10) (d:List Nat) (hd:d.length≤125) (hs:∀ y∈d,y<256) (hok:Ok c (control c l op d)) (hp:LegPlain.pongs l.ctl+LegPlain.pongs [ctlF op d]≤1) (hk:LegPlain.others l.ctl+LegPlain.others [ctlF op d]≤k+l.sent.toNat):Few c (control c l op d) k:=by
 have hC:∀ f∈l.ctl++[ctlF op d],IsC f:=fun f hf=>by
  rcases List.mem_append.1 hf with hf | hf
  ·exact hi.ctl f hf
  ·rw [List.mem_singleton] at hf
   rw [hf]
   exact ⟨rfl,ho,rfl,rfl,hd,hs⟩
 exact few_move hf hok ⟨hi.bytes,hi.hist,hC,hi.rest,hi.ring⟩ ht (by show LegPlain.pongs (l.ctl++[_])≤1;rw [pongs_append];exact hp) (by show LegPlain.others (l.ctl++[_])≤_;rw [others_append];exact hk) hr
theorem few_ping {c:Cf} (hf:c.frm≤65536) {l:Lg} {k:Nat} (h:Few c l k) (d:List Nat) (hs:∀ y∈d,y<256):Few c (ping c l d).1 (k+1):=by
 have hok:=ok_ping h.ok d hs
 unfold ping at hok ⊢
 by_cases hc:l.sent=true∨l.got=true∨l.wrong≠0∨125<d.length
 ·rw [if_pos hc];exact h.mono (by omega)
 ·rw [if_neg hc] at hok ⊢
  exact few_control hf h.ok.inv h.tail h.rest 9 (.inr (.inl rfl)) d (by omega) hs hok h.pongs (by have:=h.others;show _+1≤_;omega)
theorem few_close {c:Cf} (hf:c.frm≤65536) {l:Lg} {k:Nat} (h:Few c l k) (code:Int) (words:List Nat) (hw:∀ y∈words,y<256):Few c (close c l code words).1 k:=by
 have hok:=ok_close h.ok code words hw
 unfold close at hok ⊢
 by_cases hc:l.sent=true∨(putC code words).2≠0
 ·rw [if_pos hc];exact h
 ·rw [if_neg hc] at hok ⊢
  have hp:(putC code words).2=0:=Classical.byContradiction fun e=>hc (.inr e)
  have hsn:l.sent=false:=by simpa using fun e=>hc (.inl e)
  obtain ⟨s,hsd⟩:∃ s,(putC code words).1=s:=⟨_,rfl⟩
  have hpc:putC code words=(s,0):=by rw [← hsd,← hp]
  have hlen:=(ClosePlain.put_sizes hpc).1
  have hsm:=ClosePlain.put_small hw hpc
  rw [hsd] at hok ⊢
  refine few_control (l:={l with sent:=true,rest:=[],last:=s}) hf ⟨h.ok.inv.bytes,h.ok.inv.hist,h.ok.inv.ctl,fun f hf=>absurd hf List.not_mem_nil,h.ok.inv.ring⟩ h.tail (Nat.zero_le _) 8 (.inl rfl) s hlen hsm hok h.pongs ?_
  have:=h.others
  rw [hsn] at this
  exact Nat.add_le_add_right this 1
theorem few_in {c:Cf} {l m:Lg} {k:Nat} (h:Few c l k) (hok:Ok c m) (h1:m.tail=l.tail∧m.ctl=l.ctl∧m.rest=l.rest∧m.sent=l.sent):Few c m k:=by
 obtain ⟨e1,e2,e3,e4⟩:=h1
 exact ⟨hok,by rw [e1];exact h.tail,by rw [e2];exact h.pongs,by rw [e2,e4];exact h.others,by rw [e3];exact h.rest⟩
theorem few_pong {c:Cf} (hf:c.frm≤65536) {l:Lg} {k:Nat} (h:Few c l k) (d:List Nat) (hd:d.length≤125) (hs:∀ y∈d,y<256):Few c (pong c l d) k:=by
 have hok:=ok_pong h.ok d hd hs
 unfold pong at hok ⊢
 by_cases hs1:l.sent=true
 ·rw [if_pos hs1];exact h
 rw [if_neg hs1] at hok ⊢
 by_cases hp:l.ctl.any (fun f=>decide (f.op=10))=true
 ·rw [if_pos hp] at hok ⊢
  obtain ⟨r1,r2⟩:=repl_pongs d l.ctl
  refine few_move hf hok ⟨h.ok.inv.bytes,h.ok.inv.hist,fun f hf=>?_,h.ok.inv.rest,h.ok.inv.ring⟩ h.tail (by show LegPlain.pongs (repl d l.ctl)≤1;rw [r1];exact h.pongs) (by show LegPlain.others (repl d l.ctl)≤_;rw [r2];exact h.others) h.rest
  rcases repl_mem hf with ⟨g,h1,h2,rfl⟩ | h1
  ·have:=h.ok.inv.ctl g h1
   exact ⟨this.fin,.inr (.inr h2),this.masked,this.key,hd,hs⟩
  ·exact h.ok.inv.ctl f h1
 ·rw [if_neg hp] at hok ⊢
  exact few_control hf h.ok.inv h.tail h.rest 10 (.inr (.inr rfl)) d hd hs hok (by rw [no_pongs hp];exact Nat.le_refl _) h.others
theorem few_react {c:Cf} (hf:c.frm≤65536) {l:Lg} {k:Nat} (h:Few c l k) (x:Ev) (hx:x.op=9→x.data.length≤125) (hs:∀ y∈x.data,y<256):Few c (react c l x) k:=by
 unfold react
 by_cases h9:x.op=9
 ·rw [if_pos h9];exact few_pong hf h x.data (hx h9) hs
 ·rw [if_neg h9]
  by_cases h8:x.op=8
  ·rw [if_pos h8]
   exact few_close hf (few_in (m:={l with got:=true}) h (ok_in h.ok ⟨rfl,rfl,rfl,rfl,rfl,rfl,rfl,rfl,rfl⟩) ⟨rfl,rfl,rfl,rfl⟩) _ _ (fun y hy=>absurd hy List.not_mem_nil)
  ·rw [if_neg h8];exact h
theorem few_fold {c:Cf} (hf:c.frm≤65536) {k:Nat} : ∀ (xs:List Ev) {l:Lg},Few c l k→(∀ x∈xs,(x.op=9→x.data.length≤125)∧∀ y∈x.data,y<256)→Few c (xs.foldl (react c) l) k
 | [],_,h,_=>h
 | x :: xs,_,h,hx=>few_fold hf xs (few_react hf h x (hx x List.mem_cons_self).1 (hx x List.mem_cons_self).2) (fun y hy=>hx y (List.mem_cons_of_mem _ hy))
theorem few_feed {c:Cf} (hf:c.frm≤65536) {l:Lg} {k:Nat} (h:Few c l k) (b:List Nat) (hx:∀ x∈evs c l b,(x.op=9→x.data.length≤125)∧∀ y∈x.data,y<256):Few c (feed c l b).1 k:=by
 unfold feed
 by_cases hg:l.got=true∨l.wrong≠0
 ·rw [if_pos hg];exact h
 ·rw [if_neg hg]
  have h2:=few_fold hf (evs c l b) (few_in (m:=came c l b) h (ok_in h.ok ⟨rfl,rfl,rfl,rfl,rfl,rfl,rfl,rfl,rfl⟩) ⟨rfl,rfl,rfl,rfl⟩) hx
  show Few c (if errs c l b≠0 then _ else _) k
  split
  ·exact few_close hf (few_in (m:={(evs c l b).foldl (react c) (came c l b) with wrong:=errs c l b}) h2 (ok_in h2.ok ⟨rfl,rfl,rfl,rfl,rfl,rfl,rfl,rfl,rfl⟩) ⟨rfl,rfl,rfl,rfl⟩) _ _ (fun y hy=>absurd hy List.not_mem_nil)
  ·exact h2
end LegPlain
namespace LegPlain
open FramePlain (Fr Fr0 form ctl zero4 text size text_length form_of form_cases)
open StreamPlain (one all all_append all_step one_text all_left)
open MsgPlain (Ev Ms M0 run run_append run_cons run_stop Fit)
open CutPlain (frs)
open ClosePlain (putC getC codeC acrossC valid)
theorem getC_part (s:List Nat):(getC s).2.1=[]∨(getC s).2.1=s.drop 2:=by
 match s with
 | []=>exact .inl rfl
 | [_]=>exact .inl rfl
 | x :: y :: l =>
   rw [ClosePlain.getC_two]
   split
   ·exact .inl rfl
   ·split
    ·exact .inl rfl
    ·exact .inr rfl
theorem step_evs (most:Int) {st:Ms} (hf:Fit most st) {f:Fr} (hs:∀ y∈f.data,y<256):∀ x∈(MsgPlain.step most st f).2.toList,(x.op=9→x.data.length≤125)∧∀ y∈x.data,y<256:=by
 unfold MsgPlain.step
 by_cases a1:form f=false
 ·rw [if_pos a1];exact fun x hx=>absurd hx List.not_mem_nil
 rw [if_neg a1]
 have hform:form f=true:=by simpa using a1
 by_cases a2:f.op=9∨f.op=10
 ·rw [if_pos a2]
  intro x hx
  have hx:x∈[_]:=hx
  rw [List.mem_singleton] at hx
  rw [hx]
  refine ⟨fun _=>?_,hs⟩
  rcases (form_cases hform).1 with h | h
  ·omega
  ·exact h.2.2.2
 rw [if_neg a2]
 by_cases a3:f.op=8
 ·rw [if_pos a3]
  by_cases a4:(getC f.data).2.2=0
  ·rw [if_pos a4]
   intro x hx
   have hx:x∈[_]:=hx
   rw [List.mem_singleton] at hx
   rw [hx]
   refine ⟨fun e=>absurd (show (8:Int)=9 from e) (by decide),fun y hy=>?_⟩
   rcases getC_part f.data with e | e
   ·have hy:y∈(getC f.data).2.1:=hy
    rw [e] at hy;exact absurd hy List.not_mem_nil
   ·have hy:y∈(getC f.data).2.1:=hy
    rw [e] at hy;exact hs y (List.mem_of_mem_drop hy)
  ·rw [if_neg a4];exact fun x hx=>absurd hx List.not_mem_nil
 rw [if_neg a3]
 by_cases a4:decide (f.op=0)≠st.begun
 ·rw [if_pos a4];exact fun x hx=>absurd hx List.not_mem_nil
 rw [if_neg a4]
 obtain ⟨o,ho⟩:∃ o,(if st.begun=true then st.op else f.op)=o:=⟨_,rfl⟩
 have ho9:o≠9:=by
  rw [← ho]
  by_cases hb:st.begun=true
  ·rw [if_pos hb];rcases hf.op hb with h | h<;>omega
  ·rw [if_neg hb];omega
 rw [ho]
 unfold MsgPlain.more
 split
 ·exact fun x hx=>absurd hx List.not_mem_nil
 split
 ·exact fun x hx=>absurd hx List.not_mem_nil
 split
 ·intro x hx
  have hx:x∈[_]:=hx
  rw [List.mem_singleton] at hx
  rw [hx]
  refine ⟨fun e=>absurd e ho9,fun y hy=>?_⟩
  ·rcases List.mem_append.1 hy with hy | hy
   ·exact hf.small y hy
   ·exact hs y hy
 ·exact fun x hx=>absurd hx List.not_mem_nil
theorem run_evs {most:Int} (hm:0≤most):∀ (fs:List Fr) {st:Ms},Fit most st→(∀ f∈fs,∀ y∈f.data,y<256)→∀ x∈(run most st fs).2,(x.op=9→x.data.length≤125)∧∀ y∈x.data,y<256
 | [],_,_,_,x,hx=>absurd hx List.not_mem_nil
 | f :: fs,st,hf,hs,x,hx=>by
   rw [run_cons] at hx
   have hf2:=MsgPlain.fit_take hm (f:=f) hf (hs f List.mem_cons_self)
   rcases List.mem_append.1 hx with hx | hx
   ·unfold MsgPlain.take at hx
    split at hx
    ·exact absurd hx List.not_mem_nil
    ·exact step_evs most hf (hs f List.mem_cons_self) x hx
   ·exact run_evs hm fs hf2 (fun g hg=>hs g (List.mem_cons_of_mem _ hg)) x hx
theorem evs_small {c:Cf} {l:Lg} (h:Reads c l) (b:List Nat) (hb:∀ y∈b,y<256):∀ x∈evs c l b,(x.op=9→x.data.length≤125)∧∀ y∈x.data,y<256:=by
 have hs:∀ y∈l.buf++b,y<256:=fun y hy=>by
  rcases List.mem_append.1 hy with hy | hy
  ·exact h.small y hy
  ·exact hb y hy
 exact run_evs (by omega) _ h.fit (all_small c.masked (bound c:Int) _ (l.buf++b) (Nat.le_refl _) hs)
end LegPlain
namespace LegPlain
open FramePlain (Fr Fr0 form ctl zero4 text)
open MsgPlain (Ev Ms M0 run)
open CutPlain (frs)
open ClosePlain (putC getC codeC acrossC valid)
structure CfOk (c:Cf):Prop where
 o1:1≤c.out
 o2:c.out≤65536
 m1:1≤c.msg
 m2:c.msg≤65536
 f1:1≤c.frm
 f2:c.frm≤65536
structure Good (c:Cf) (l:Lg) (k:Nat):Prop where
 few:Few c l k
 inn:In c l
 gm:l.got=l.ms.over
 op:l.sent=false→l.got=false∧l.wrong=0
theorem Good.mono {c:Cf} {l:Lg} {k j:Nat} (h:Good c l k) (hj:k≤j):Good c l j:=⟨h.few.mono hj,h.inn,h.gm,h.op⟩
theorem good_zero (c:Cf) (d:Nat):Good c (L0 d) 0:=⟨few_zero c d,in_zero c d,rfl,fun _=>⟨rfl,rfl⟩⟩
theorem Good.reads {c:Cf} {l:Lg} {k:Nat} (h:Good c l k) (hg:l.got=false) (hw:l.wrong=0):Reads c l:=by
 rcases h.inn with h1 | ⟨h1,_⟩
 ·exact h1
 ·rcases h1 with h1 | h1
  ·rw [hg] at h1;cases h1
  ·exact absurd hw h1
theorem good_keep {c:Cf} {l m:Lg} {k j:Nat} (h:Good c l k) (hk:Keep l m) (hf:Few c m j) (hs:m.sent=false→l.sent=false):Good c m j :=
 ⟨hf,in_keep hk h.inn,by rw [hk.got,hk.ms];exact h.gm,fun e=>by rw [hk.got,hk.wrong];exact h.op (hs e)⟩
theorem send_sent (c:Cf) (l:Lg) (op:Int) (t:List Nat):(send c l op t).1.sent=l.sent:=by
 unfold send
 split
 ·exact (mv_keep c _ {l with rest:=frs c.frm op t,said:=l.said++[(op,t)]}).2.1
 ·rfl
theorem ping_sent (c:Cf) (l:Lg) (d:List Nat):(ping c l d).1.sent=l.sent:=by
 unfold ping
 split
 ·rfl
 ·exact (control_keep c l 9 d).2.1
theorem take_sent (c:Cf) (l:Lg) (n:Int):(takeN c l n).1.sent=l.sent:=(mv_keep c _ {l with gone:=l.gone++l.ring.take n.toNat,ring:=l.ring.drop n.toNat}).2.1
theorem close_no (c:Cf) (l:Lg) (code:Int) (w:List Nat) (h:(close c l code w).1.sent=false):l.sent=false:=by
 unfold close at h
 split at h
 ·exact h
 ·rw [(control_keep c {l with sent:=true,rest:=[],last:=(putC code w).1} 8 (putC code w).1).2.1] at h
  cases h
theorem good_send {c:Cf} (hc:CfOk c) {l:Lg} {k:Nat} (h:Good c l k) (op:Int) (t:List Nat) (hs:∀ y∈t,y<256):Good c (send c l op t).1 k :=
 good_keep h (send_keep c l op t) (few_send hc.f2 hc.f1 h.few op t hs) (fun e=>by rw [send_sent] at e;exact e)
theorem good_ping {c:Cf} (hc:CfOk c) {l:Lg} {k:Nat} (h:Good c l k) (d:List Nat) (hs:∀ y∈d,y<256):Good c (ping c l d).1 (k+1) :=
 good_keep h (ping_keep c l d) (few_ping hc.f2 h.few d hs) (fun e=>by rw [ping_sent] at e;exact e)
theorem good_close {c:Cf} (hc:CfOk c) {l:Lg} {k:Nat} (h:Good c l k) (code:Int) (w:List Nat) (hs:∀ y∈w,y<256):Good c (close c l code w).1 k :=
 good_keep h (close_keep c l code w) (few_close hc.f2 h.few code w hs) (close_no c l code w)
theorem good_take {c:Cf} (hc:CfOk c) {l:Lg} {k:Nat} (h:Good c l k) (n:Int):Good c (takeN c l n).1 k :=
 good_keep h (take_keep c l n) (few_take hc.f2 h.few n) (fun e=>by rw [take_sent] at e;exact e)
theorem good_feed {c:Cf} (hc:CfOk c) {l:Lg} {k:Nat} (h:Good c l k) (b:List Nat) (hb:∀ y∈b,y<256):Good c (feed c l b).1 k:=by
 by_cases hx:l.got=true∨l.wrong≠0
 ·rw [feed_stop b hx];exact h
 ·have hg:l.got=false:=by simpa using fun e=>hx (.inl e)
  have hw:l.wrong=0:=Classical.byContradiction fun e=>hx (.inr e)
  have hr:=h.reads hg hw
  obtain ⟨f1,f2,_,_,f5,_,f7,_⟩:=feed_in hr b hb
  refine ⟨few_feed hc.f2 h.few b (evs_small hr b hb),in_feed h.inn b hb,by rw [f1,f5],fun e=>?_⟩
  rw [f7] at e
  simp only [Bool.or_eq_false_iff,decide_eq_false_iff_not,Classical.not_not] at e
  exact ⟨f1.trans e.1.2,f2.trans e.2⟩
theorem Good.cases {c:Cf} {l:Lg} {k:Nat} (h:Good c l k):(l.got=true∨l.wrong≠0)∨(l.got=false∧l.wrong=0∧Reads c l):=by
 by_cases hx:l.got=true∨l.wrong≠0
 ·exact .inl hx
 ·have hg:l.got=false:=by simpa using fun e=>hx (.inl e)
  have hw:l.wrong=0:=Classical.byContradiction fun e=>hx (.inr e)
  exact .inr ⟨hg,hw,h.reads hg hw⟩
theorem Good.free {c:Cf} {l:Lg} {k:Nat} (h:Good c l k):free l=(!l.sent&&l.rest.isEmpty):=by
 unfold LegPlain.free
 cases hs:l.sent with
 | true=>rfl
 | false =>
   obtain ⟨h1,h2⟩:=h.op hs
   rw [h1,h2];rfl
theorem Good.ctl_le {c:Cf} {l:Lg} {k:Nat} (h:Few c l k):l.ctl.length≤k+2:=by
 have h1:=few_sum l.ctl
 have h2:=h.pongs
 have h3:=h.others
 have h4:=toNat_le l.sent
 omega
theorem frs_len {most:Nat} (hm:1≤most):∀ (n:Nat) (op:Int) (t:List Nat),t.length≤n→(frs most op t).length≤t.length+1
 | 0,op,t,h=>by rw [CutPlain.frs_last (by omega)];simp
 | n+1,op,t,h=>by
   by_cases h1:t.length≤most
   ·rw [CutPlain.frs_last h1];simp
   ·rw [CutPlain.frs_more hm h1,List.length_cons]
    have:=frs_len hm n 0 (t.drop most) (by rw [List.length_drop];omega)
    rw [List.length_drop] at this
    omega
theorem rest_le {c:Cf} {l:Lg} {k:Nat} (h:Few c l k):l.rest.length≤14+15*c.msg:=by
 have h1:∀ l:List Fr,l.length≤wts l:=fun l=>by
  induction l with
  | nil=>exact Nat.le_refl _
  | cons f l ih=>rw [wts_cons,List.length_cons];unfold wt;omega
 exact Nat.le_trans (h1 _) h.rest
end LegPlain
