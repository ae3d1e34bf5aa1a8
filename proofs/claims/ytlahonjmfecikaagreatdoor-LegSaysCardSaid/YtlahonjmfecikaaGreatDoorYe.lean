/- The texts below, joined. -/
import Derived.Test.YtlahonjmfecikaaGreatDoorYd
import Derived.SliceStrings
import Derived.ProofKit
import Derived.ChangeArms
import Derived.OpenShut
import Derived.Lib.BufferWrite
import Derived.Lib.UnsafeStr
import Derived.Deep.DeepCutAuto
set_option maxRecDepth 100000
set_option linter.unusedVariables false
set_option linter.unusedSimpArgs false
set_option maxRecDepth 100000
namespace Go.Proofs.YtlahonjmfecikaaGreatDoor.Stm
open Go.RowKit MaskPlain FramePlain StreamPlain Mas Fra
end Go.Proofs.YtlahonjmfecikaaGreatDoor.Stm
set_option maxRecDepth 100000
namespace Go.Proofs.YtlahonjmfecikaaGreatDoor.Stm
open Go.RowKit MaskPlain FramePlain StreamPlain Mas Fra
set_option maxHeartbeats 4000000 in
theorem feed_any {w0 W0:World} {b:Nat} {masked:Bool} {most:Int} {part:List Nat} {v:Value} (hs:StrmAt w0 W0 b masked most part 0 v) (hg:Globs w0) (a:Option Addr) (L cap:Nat) (bs:List Nat) (hu:SrcAt W0 (.slice a L cap) bs) (hsp:Small 256 part) (hsb:Small 256 bs) (hl:part.length+bs.length≤100000) (hmo:most≤9223372036854775807) (gs:List Fr) (e lf:Nat) (hall:all (part++bs) masked most=(gs,e,lf)) :
 Calls Tryz.prog 51 #[.pointer (some ⟨b,0,none⟩),.slice a L cap] W0 fun x w'=>∃ vf v',x=.returned (.tuple #[vf,.int .i64 (e:Int)])∧Sl (OwnR w' W0.heap.size vf gs)∧Sl (StrmAt w0 w' b masked most ((part++bs).drop ((part++bs).length-lf)) e v')∧Sl (Two W0 w' b (ob v b))∧Sl (v'.ownBlock=v.ownBlock∨∀ g,v'.ownBlock=some g→W0.heap.size≤g):=by
 have HG:=Sl.mk hg
 obtain ⟨T,hT⟩:∃ T,part++bs=T:=⟨_,rfl⟩
 have hTs:Sl (Small 256 T):=⟨by rw [← hT];exact hsp.append hsb⟩
 have hTl:Sl (T.length≤100000):=⟨by rw [← hT,List.length_append];exact hl⟩
 have HALL:Sl (all T masked most=(gs,e,lf)):=⟨by rw [← hT];exact hall⟩
 have HW:=Sl.mk hs.L.size
 have HMO:=Sl.mk hmo
 obtain ⟨w1,hw1⟩:∃ V,W0.alloc (.cells #[.pointer (some ⟨b,0,none⟩)] 77)=V:=⟨_,rfl⟩
 have HB1:Sl (Below W0.heap.size W0 w1):=⟨by rw [← hw1];exact (Below.refl _ _).alloc (Nat.le_refl _) _⟩
 have HC1:Sl (w1.heap[W0.heap.size]? = some (.cells #[.pointer (some ⟨b,0,none⟩)] 77 (0,0))):=⟨by rw [← hw1];exact alloc_new _ _ _ rfl⟩
 have HST1:Sl (StrmAt w0 w1 b masked most part 0 v):=⟨hs.below HB1.out⟩
 have HU1:Sl (SrcAt w1 (.slice a L cap) bs):=⟨hu.below (Nat.le_refl _) HB1.out⟩
 have HNE:Sl (W0.heap.size≠b):=⟨by have:=hs.lt;omega⟩
 have he1:w1.cell? ⟨b,3,none⟩=some (.int .i64 0):=HST1.out.cells.2.2.2
 have hc1:=cell_of_one HC1.out
 rw [hT]
 clear hs hg hu hsp hsb hall hmo
 go_enter Tryz.func51,Tryz.ntmps51
 go_upto_region 3 with fail
 obtain ⟨Rw,hRw⟩:∃ R,w1.drew=R:=⟨_,rfl⟩
 have HB:Below w1.heap.size w1 Rw:=by rw [← hRw];exact (Below.refl _ _).drew
 have HS0:Rw.heap[W0.heap.size]? = some (.cells #[.pointer (some ⟨b,0,none⟩)] 77 (0,0)):=below_key HC1.out HB
 refine wp_region_noPanic ?_
 refine wp_region_held (S:=fun V=>V.heap[W0.heap.size]? = some (.cells #[.pointer (some ⟨b,0,none⟩)] 77 (0,0))) (by kernel_rfl) ?_
 change wpAnyH _ _ _ _ _ _ _ _ w1.drew
 rw [hRw]
 clear hRw
 have HSR:=HST1.out.below HB
 obtain ⟨v1,w2,hap,ho1,hg1,hob⟩:=add_bs HSR.O (HU1.out.below (Nat.le_refl _) HB) (by omega) HSR.L.size
 have hkb:=ownB_kind HSR.O HSR.X (by decide)
 have hkc:=ownB_kind HSR.O HS0 (by decide)
 have HS2:w2.heap[W0.heap.size]? = some (.cells #[.pointer (some ⟨b,0,none⟩)] 77 (0,0)):=by rw [hg1.block W0.heap.size (Array.getElem?_eq_some_iff.1 HS0).1 (fun e=>hkc e.symm)];exact HS0
 have HX2:w2.heap[b]? = some (.cells #[.bool masked,.int .i64 most,v,.int .i64 ((0:Nat):Int)] 119 (0,0)):=by rw [hg1.block b HSR.lt (fun e=>hkb e.symm)];exact HSR.X
 rw [hT] at ho1
 obtain ⟨a1,c1,rfl⟩:∃ a1 c1,v1=.slice a1 T.length c1:=by
  rcases ho1.2 with ⟨rfl,hz⟩ | ⟨g,cap,cur,rfl,_⟩
  ·rw [hz];exact ⟨_,_,rfl⟩
  ·exact ⟨_,_,rfl⟩
 obtain ⟨TL,hTL⟩:∃ n,T.length=n:=⟨_,rfl⟩
 rw [hTL] at ho1 hap hob
 obtain ⟨HS3,HT3⟩:=strm_fed (T:=T) HSR hg1 (by rw [hTL];exact ho1)
 obtain ⟨w3,hw3⟩:∃ V,w2.setCell ⟨b,2,none⟩ (.slice a1 TL c1)=V:=⟨_,rfl⟩
 have hne:W0.heap.size≠b:=HNE.out
 have HC3:w3.heap[W0.heap.size]? = some (.cells #[.pointer (some ⟨b,0,none⟩)] 77 (0,0)):=by rw [← hw3,heap_setCell_other _ _ _ _ hne];exact HS2
 have hf2:w2.frozen? ⟨b,2,none⟩=false:=frozen_of_row _ _ _ _ _ HX2
 have hp2:w2.cell? ⟨b,2,none⟩=some v:=by rw [cell_of_row _ _ _ _ _ _ HX2];rfl
 have hpR:Rw.cell? ⟨b,2,none⟩=some v:=HSR.cells.2.2.1
 rw [hw3] at HS3 HT3
 refine heldTake (d:=some 20) (op:=.load 77 (Operand.tmp 2)) (g:=none) 0 ?v0a rfl (by kernel_rfl) (by kernel_rfl) (by kernel_rfl) (by kernel_rfl) ?y0a HS0 ?_
 case y0a=>intro o' ho W hS;have hcx:=cell_of_one hS;simp only [execOp,ho];go_simp;try rfl
 simp only [Act.put,List.setIfInBounds_toArray,List.set_cons_zero,List.set_cons_succ]
 refine heldTake (d:=some 21) (op:=.load 77 (Operand.tmp 2)) (g:=none) 1 ?v1a rfl (by kernel_rfl) (by kernel_rfl) (by kernel_rfl) (by kernel_rfl) ?y1a HS0 ?_
 case y1a=>intro o' ho W hS;have hcx:=cell_of_one hS;simp only [execOp,ho];go_simp;try rfl
 simp only [Act.put,List.setIfInBounds_toArray,List.set_cons_zero,List.set_cons_succ]
 refine heldTake (d:=some 22) (op:=.nilCheck (Operand.tmp 21)) (g:=none) 2 ?v2a rfl (by kernel_rfl) (by kernel_rfl) (by kernel_rfl) (by kernel_rfl) ?y2a HS0 ?_
 case y2a=>intro o' ho W hS;simp only [execOp,ho];go_simp;try rfl
 simp only [Act.put,List.setIfInBounds_toArray,List.set_cons_zero,List.set_cons_succ]
 refine heldTake (d:=some 23) (op:=.fieldAddr 119 (Operand.tmp 22) 2) (g:=none) 3 ?v3a rfl (by kernel_rfl) (by kernel_rfl) (by kernel_rfl) (by kernel_rfl) ?y3a HS0 ?_
 case y3a=>intro o' ho W hS;simp only [execOp,ho];go_simp;try rfl
 simp only [Act.put,List.setIfInBounds_toArray,List.set_cons_zero,List.set_cons_succ]
 refine heldTake (d:=some 25) (op:=.move (Operand.tmp 1)) (g:=none) 5 ?v5a rfl (by kernel_rfl) (by kernel_rfl) (by kernel_rfl) (by kernel_rfl) ?y5a HS0 ?_
 case y5a=>intro o' ho W hS;simp only [execOp,ho];go_simp;try rfl
 simp only [Act.put,List.setIfInBounds_toArray,List.set_cons_zero,List.set_cons_succ]
 refine heldRunT (d:=some 24) (op:=.load 49 (Operand.tmp 23)) (g:=none) (t:=49) 4 (v) Rw rfl (by kernel_rfl) (by kernel_rfl) ?y4a HS0 ?_
 case y4a=>intro o' ho _;simp only [execOp,ho];go_simp;try rfl
 simp only [Act.put,List.setIfInBounds_toArray,List.set_cons_zero,List.set_cons_succ]
 refine heldRunT (d:=some 26) (op:=.call {callee:=Callee.builtin Builtin.append,args:=#[Operand.tmp 24,Operand.tmp 25],argTypes:=#[49,49]}) (g:=none) (t:=49) 6 (.slice a1 TL c1) w2 rfl (by kernel_rfl) (by kernel_rfl) ?y6a HS2 ?_
 case y6a=>intro o' ho ht;exact run_appB ho ht (by rfl) (by rfl) hap
 simp only [Act.put,List.setIfInBounds_toArray,List.set_cons_zero,List.set_cons_succ]
 refine heldTake (d:=some 27) (op:=.nilCheck (Operand.tmp 20)) (g:=none) 7 ?v7a rfl (by kernel_rfl) (by kernel_rfl) (by kernel_rfl) (by kernel_rfl) ?y7a HS2 ?_
 case y7a=>intro o' ho W hS;simp only [execOp,ho];go_simp;try rfl
 simp only [Act.put,List.setIfInBounds_toArray,List.set_cons_zero,List.set_cons_succ]
 refine heldTake (d:=some 28) (op:=.fieldAddr 119 (Operand.tmp 27) 2) (g:=none) 8 ?v8a rfl (by kernel_rfl) (by kernel_rfl) (by kernel_rfl) (by kernel_rfl) ?y8a HS2 ?_
 case y8a=>intro o' ho W hS;simp only [execOp,ho];go_simp;try rfl
 simp only [Act.put,List.setIfInBounds_toArray,List.set_cons_zero,List.set_cons_succ]
 refine heldStore (d:=none) (op:=.store 49 (Operand.tmp 28) (Operand.tmp 26)) (g:=none) (t:=0) 9 w3 rfl (by kernel_rfl) (by kernel_rfl) ?y9a HC3 ?_
 case y9a=>intro o' ho ht;rw [← hw3];simp only [execOp,ho];go_simp;try rfl
 simp only [Act.put]
 refine wpAnyH_done (by kernel_rfl) ?_ _
 refine NoPanic.normal ?_
 have HTL:=Sl.mk hTL
 have hw3le:Sl (W0.heap.size≤w3.heap.size):=⟨by have:=HT3.size;have:=HB.size;have:=HB1.out.size;omega⟩
 have HST3:=Sl.mk HS3
 have HC3':=Sl.mk HC3
 have HTW:Sl (Two W0 w3 b (ob v b)):=⟨(Two.ofBelow (HB1.out.trans (HB.mono HB1.out.size))).trans HT3⟩
 have HOB:Sl ((Value.slice a1 TL c1).ownBlock=v.ownBlock∨∀ g,(Value.slice a1 TL c1).ownBlock=some g→W0.heap.size≤g):=⟨by
  rcases hob with h | h
  ·exact .inl h
  ·exact .inr (fun g hg=>by rw [h] at hg;injection hg with hg;have:=HB1.out.size;have:=HB.size;omega)⟩
 clear HB HS0 HSR hap ho1 hg1 hob hkb hkc HS2 HX2 HS3 HT3 hw3 hne HC3 hf2 hp2 hpR HST1 HU1 HC1 HB1 hc1 he1 hTL
 have HR4:(w3.alloc (.cells #[.int .i64 0] 3)).heap[w3.heap.size]? = some (.cells #[.int .i64 ((0:Nat):Int)] 3 (0,0)):=alloc_new _ _ _ rfl
 have HB4:Below w3.heap.size w3 (w3.alloc (.cells #[.int .i64 0] 3)):=(Below.refl _ _).alloc (Nat.le_refl _) _
 have HS4:=Sl.mk (HST3.out.below HB4)
 have HC4:=Sl.mk (below_key HC3'.out HB4)
 have HT4:=Sl.mk (two_below HTW.out HB4)
 have HR4':=Sl.mk HR4
 obtain ⟨f0,n0,k0,ho0,hn0,hP0⟩:=pl_start masked most hTs.out
 have CN:=next_any HS4.out HG.out W0.heap.size w3.heap.size 0 f0 n0 k0 HC4.out HR4 (Nat.zero_le _) hTs.out hTl.out HMO.out ho0 (by omega)
 have HP0:=Sl.mk hP0
 obtain ⟨rf,ro,rm,ka,kb,kc,kd,rd,hval⟩:=val_parts f0
 have HCV:Sl ((cv f0).toArray=#[.bool rf,.int .i64 ro,.bool rm,.int .u8 ((ka:Nat):Int),.int .u8 ((kb:Nat):Int),.int .u8 ((kc:Nat):Int),.int .u8 ((kd:Nat):Int),.string rd]):=⟨by have h:=hval;rw [cv_val] at h;injection h⟩
 rw [hval] at CN
 clear HR4 HB4 ho0 hn0 hP0 hval HST3 HC3' HTW hl hw1
 go_wp2_with fail
 refine CN.mono ?_
 rintro e5 w5 ⟨rfl,HR5,HG5⟩
 clear CN
 obtain ⟨w6,hw6⟩:∃ V,(w5.alloc (.cells #[.bool false,.int .i64 0,.bool false,.int .u8 0,.int .u8 0,.int .u8 0,.int .u8 0,.string {data:=#[]}] 61)).setRow w5.heap.size #[.bool rf,.int .i64 ro,.bool rm,.int .u8 ((ka:Nat):Int),.int .u8 ((kb:Nat):Int),.int .u8 ((kc:Nat):Int),.int .u8 ((kd:Nat):Int),.string rd]=V:=⟨_,rfl⟩
 have HI:=fr_info (cs:=#[.bool rf,.int .i64 ro,.bool rm,.int .u8 ((ka:Nat):Int),.int .u8 ((kb:Nat):Int),.int .u8 ((kc:Nat):Int),.int .u8 ((kd:Nat):Int),.string rd]) rfl
 have HR5':Sl (w5.heap[w3.heap.size]? = some (.cells #[.int .i64 ((n0:Nat):Int)] 3 (0,0))):=⟨by have h:=HR5.out;rw [Nat.zero_add] at h;exact h⟩
 have hRge:W0.heap.size≤w3.heap.size:=hw3le.out
 have HL0:Sl (LR w0 W0 b W0.heap.size w3.heap.size w5.heap.size (w5.heap.size+1) masked most T v (.slice a1 TL c1) w6 (.slice none 0 0) [] f0 k0 n0):=⟨by rw [← hw6,← HCV.out];exact LR.start HS4.out HC4.out HR4'.out HR5'.out hRge HT4.out HG5.out HP0.out HW.out⟩
 clear HS4 HC4 HT4 HR4' HR5 HR5' HG5 HP0 HCV hRge
 go_wp2_with (refine wpList_store_row rfl 61 (.tmp 9) (.tmp 33) rfl w5.heap.size #[.bool rf,.int .i64 ro,.bool rm,.int .u8 ((ka:Nat):Int),.int .u8 ((kb:Nat):Int),.int .u8 ((kc:Nat):Int),.int .u8 ((kd:Nat):Int),.string rd] rfl rfl 61 #[.bool false,.int .i64 0,.bool false,.int .u8 0,.int .u8 0,.int .u8 0,.int .u8 0,.string {data:=#[]}] (bx_new w5 _) HI rfl (fr_all _ _ _ _ _ _ _ _) ?_)
 obtain ⟨q,hq⟩:∃ q,w5.heap.size=q:=⟨_,rfl⟩
 obtain ⟨RR,hRR⟩:∃ RR,w3.heap.size=RR:=⟨_,rfl⟩
 rw [hq,hRR] at HL0 ⊢
 clear hq hRR HI
 go_loopw [8,10] (fun u0 x wr=>∃ (k:Nat) (fs:List Fr) (f:Fr) (r:Nat) (u:Value),u=u0∧x=.int .i64 (k:Int)∧Sl (LR w0 W0 b W0.heap.size RR q (q+1) masked most T v (.slice a1 TL c1) wr u fs f k r)) (fun u x _=>if intOf x=0 then TL+1-lenV u else 0)
 case atStart=>exact ⟨k0,[],f0,n0,_,rfl,rfl,HL0⟩
 case round =>
  obtain ⟨k,fs,f,r,u,rfl,rfl,HL⟩:=hrel
  by_cases hk:k=0
  ·subst hk
   have hq8:(((0:Nat):Int)==0)=true:=rfl
   obtain ⟨f',n',k',ho',hn',hP'⟩:=pl_step hTs.out HL.out.hP
   obtain ⟨rf,ro,rm,ka,kb,kc,kd,rd,hval⟩:=val_parts f
   have hcv:(cv f).toArray=#[.bool rf,.int .i64 ro,.bool rm,.int .u8 ((ka:Nat):Int),.int .u8 ((kb:Nat):Int),.int .u8 ((kc:Nat):Int),.int .u8 ((kd:Nat):Int),.string rd]:=by have h:=hval;rw [cv_val] at h;injection h
   have HQ0:Sl (wr.heap[q]? = some (.cells #[.bool rf,.int .i64 ro,.bool rm,.int .u8 ((ka:Nat):Int),.int .u8 ((kb:Nat):Int),.int .u8 ((kc:Nat):Int),.int .u8 ((kd:Nat):Int),.string rd] 61 (0,0))):=⟨by rw [← hcv];exact HL.out.hQ⟩
   obtain ⟨e0,e1,e2,e3,e4,e5,e6,e7⟩:=bx8 HQ0.out
   have HP':=Sl.mk hP'
   have HLEN:=Sl.mk (pl_len HL.out.hP)
   have HB1:Below wr.heap.size wr (wr.alloc (.cells #[.bool rf,.int .i64 ro,.bool rm,.int .u8 ((ka:Nat):Int),.int .u8 ((kb:Nat):Int),.int .u8 ((kc:Nat):Int),.int .u8 ((kd:Nat):Int),.string rd] 61)):=(Below.refl _ _).alloc (Nat.le_refl _) _
   have HO1:=Sl.mk (HL.out.hO.below HB1)
   have HF1:Sl (FrsAt (wr.alloc (.cells #[.bool rf,.int .i64 ro,.bool rm,.int .u8 ((ka:Nat):Int),.int .u8 ((kb:Nat):Int),.int .u8 ((kc:Nat):Int),.int .u8 ((kd:Nat):Int),.string rd] 61)) (.slice (some ⟨wr.heap.size,0,none⟩) 1 1) [f]):=⟨frs_one (alloc_new _ _ _ rfl) hcv.symm⟩
   have HN1:Sl (q+1≤(wr.alloc (.cells #[.bool rf,.int .i64 ro,.bool rm,.int .u8 ((ka:Nat):Int),.int .u8 ((kb:Nat):Int),.int .u8 ((kc:Nat):Int),.int .u8 ((kd:Nat):Int),.string rd] 61)).heap.size):=⟨Nat.le_trans HL.out.hN HB1.size⟩
   have HBA:=Sl.mk HB1
   have HFL:Sl (fs.length+[f].length≤1000000):=⟨by have h1:=HLEN.out.1;have h2:=hTl.out;show fs.length+1≤_;omega⟩
   clear HB1 hP' hval
   go_wp2_with (at_builtin;refine app_frs rfl (.tmp 42) (.tmp 44) rfl rfl (q+1) u (.slice (some ⟨wr.heap.size,0,none⟩) 1 1) fs [f] rfl HO1.out rfl HF1.out HFL.out HN1.out ?_)
   clear e0 e1 e2 e3 e4 e5 e6 e7
   intro u' w7 HO7 HG7
   have HL1:LR w0 W0 b W0.heap.size RR q (q+1) masked most T v (.slice a1 TL c1) (wr.alloc (.cells #[.bool rf,.int .i64 ro,.bool rm,.int .u8 ((ka:Nat):Int),.int .u8 ((kb:Nat):Int),.int .u8 ((kc:Nat):Int),.int .u8 ((kd:Nat):Int),.string rd] 61)) u fs f 0 r:=LR.below HL.out HBA.out
   obtain ⟨S7,C7,R7,Q7,N7,T7⟩:=HL1.told HW.out HG7.out
   have CN:=next_any S7 HG.out W0.heap.size RR r f' n' k' C7 R7 (by have:=HLEN.out.2;omega) hTs.out hTl.out HMO.out ho' hn'
   have HS7:=Sl.mk S7
   have HC7:=Sl.mk C7
   have HR7:=Sl.mk R7
   have HQ7:=Sl.mk Q7
   have HN7:=Sl.mk N7
   have HT7:=Sl.mk T7
   have HK:=Sl.mk HL.out.hK
   have hlu:lenV u=fs.length:=HL.out.hO.len
   have hlu':lenV u'=fs.length+1:=by have:=HO7.out.len;rw [List.length_append] at this;exact this
   obtain ⟨rf2,ro2,rm2,ka2,kb2,kc2,kd2,rd2,hval2⟩:=val_parts f'
   have HCV2:Sl ((cv f').toArray=#[.bool rf2,.int .i64 ro2,.bool rm2,.int .u8 ((ka2:Nat):Int),.int .u8 ((kb2:Nat):Int),.int .u8 ((kc2:Nat):Int),.int .u8 ((kd2:Nat):Int),.string rd2]):=⟨by have h:=hval2;rw [cv_val] at h;injection h⟩
   rw [hval2] at CN
   clear S7 C7 R7 Q7 N7 T7 ho' hn' hval2 HL HL1 HBA HO1 HF1 HN1 HFL HG7 HQ0
   go_wp2_with fail
   refine CN.mono ?_
   rintro e8 w8 ⟨rfl,HR8,HG8⟩
   clear CN
   have hkq:RR≠q:=fun e=>by
    have h1:=HR7.out;rw [e,HQ7.out] at h1;injection h1 with h;injection h with _ h;exact absurd h (by decide)
   have HQ8:Sl (w8.heap[q]? = some (.cells #[.bool rf,.int .i64 ro,.bool rm,.int .u8 ((ka:Nat):Int),.int .u8 ((kb:Nat):Int),.int .u8 ((kc:Nat):Int),.int .u8 ((kd:Nat):Int),.string rd] 61 (0,0))):=⟨by rw [HG8.out.block _ (Array.getElem?_eq_some_iff.1 HQ7.out).1 (fun e=>hkq (by injection e with e;exact e.symm)),← hcv];exact HQ7.out⟩
   have HI:=fr_info (cs:=#[.bool rf2,.int .i64 ro2,.bool rm2,.int .u8 ((ka2:Nat):Int),.int .u8 ((kb2:Nat):Int),.int .u8 ((kc2:Nat):Int),.int .u8 ((kd2:Nat):Int),.string rd2]) rfl
   have HL9:Sl (LR w0 W0 b W0.heap.size RR q (q+1) masked most T v (.slice a1 TL c1) (w8.setRow q #[.bool rf2,.int .i64 ro2,.bool rm2,.int .u8 ((ka2:Nat):Int),.int .u8 ((kb2:Nat):Int),.int .u8 ((kc2:Nat):Int),.int .u8 ((kd2:Nat):Int),.string rd2]) u' (fs++[f]) f' k' (r+n')):=⟨by rw [← HCV2.out];exact LR.next HS7.out HC7.out HR8.out HR7.out HQ7.out HO7.out HN7.out HK.out HT7.out HG8.out HP'.out HW.out⟩
   clear HS7 HC7 HR7 HQ7 HN7 HT7 HK HR8 HG8 HP' HO7 HCV2 hcv
   go_wp2_with (refine wpList_store_row rfl 61 (.tmp 9) (.tmp 40) rfl q #[.bool rf2,.int .i64 ro2,.bool rm2,.int .u8 ((ka2:Nat):Int),.int .u8 ((kb2:Nat):Int),.int .u8 ((kc2:Nat):Int),.int .u8 ((kd2:Nat):Int),.string rd2] rfl rfl 61 #[.bool rf,.int .i64 ro,.bool rm,.int .u8 ((ka:Nat):Int),.int .u8 ((kb:Nat):Int),.int .u8 ((kc:Nat):Int),.int .u8 ((kd:Nat):Int),.string rd] HQ8.out HI rfl (fr_all _ _ _ _ _ _ _ _) ?_)
   refine ⟨⟨k',fs++[f],f',r+n',u',rfl,rfl,HL9⟩,?_⟩
   have:=HLEN.out.1
   have h2:=HTL.out
   show (if ((k':Nat):Int)=0 then TL+1-lenV u' else 0)<(if ((0:Nat):Int)=0 then TL+1-lenV u else 0)
   rw [if_pos (show ((0:Nat):Int)=0 from rfl)]
   split<;>omega
  ·have hq8:((k:Int)==0)=false:=by simp;omega
   by_cases h9:k=90
   ·subst h9
    have hq9:(((90:Nat):Int) != 90)=false:=rfl
    obtain ⟨ha,hrT⟩:=pl_more hTs.out HL.out.hP
    rw [HALL.out] at ha
    injection ha with ha1 ha
    injection ha with ha2 ha3
    subst ha1 ha2 ha3
    have HL2:=Sl.mk HL.out.hS
    have HC2:=Sl.mk HL.out.hC
    have HR2:=Sl.mk HL.out.hR
    have HO2:=Sl.mk HL.out.hO
    have HT2:=Sl.mk HL.out.hT
    have HK2:=Sl.mk HL.out.hK
    have hsz2:Sl (W0.heap.size≤wr.heap.size):=⟨HL.out.hT.size⟩
    have hrr:=cell_of_one HR2.out
    by_cases h0:r=0
    ·subst h0
     have hq1:(((0:Nat):Int)>0)=False:=eq_false (by omega)
     clear HL hTl hTs HALL HG HMO
     go_wp2
     go_ret2
     refine ⟨_,_,rfl,⟨own_base HO2.out (by have:=HK2.out;omega)⟩,⟨?_⟩,HT2,HOB⟩
     rw [show T.length-(T.length-0)=0 by omega,List.drop_zero]
     exact HL2.out
    ·have hq1:((r:Int)>0)=True:=eq_true (by omega)
     rw [HTL.out] at hrT
     clear HL HALL HG HMO
     go_upto_region 15 with fail
     obtain ⟨Rw,hRw⟩:∃ R,wr.drew=R:=⟨_,rfl⟩
     have HB:Below wr.heap.size wr Rw:=by rw [← hRw];exact (Below.refl _ _).drew
     have HS0:Rw.heap[W0.heap.size]? = some (.cells #[.pointer (some ⟨b,0,none⟩)] 77 (0,0))∧Rw.heap[RR]? = some (.cells #[.int .i64 (r:Int)] 3 (0,0)):=⟨below_key HC2.out HB,below_key HR2.out HB⟩
     refine wp_region_noPanic ?_
     refine wp_region_held (S:=fun V=>V.heap[W0.heap.size]? = some (.cells #[.pointer (some ⟨b,0,none⟩)] 77 (0,0))∧V.heap[RR]? = some (.cells #[.int .i64 (r:Int)] 3 (0,0))) (by kernel_rfl) ?_
     change wpAnyH _ _ _ _ _ _ _ _ wr.drew
     rw [hRw]
     clear hRw
     have HSR:=HL2.out.below HB
     obtain ⟨a',ha'⟩:∃ a',fromA a1 r c1=a':=⟨_,rfl⟩
     have hsl:∀ (V:World) (ev:Operand→Value) (o:Oper) (x y:Operand),o.op=.slice 49 x (some y) none none→ev x=.slice a1 TL c1→ev y=.int .i64 (r:Int)→(execOp ev o).run Tryz.prog V=.ok (.value (.slice a' (TL-r) (c1-r))) V:=fun V ev o x y ho hx hy=>by
      rw [← ha'];exact slice_from ho hx hy hrT
     have hsrc:SrcAt Rw (.slice a' (TL-r) (c1-r)) (T.drop r):=by rw [← ha'];exact SrcAt.from HSR.src hrT HTL.out
     obtain ⟨v2,w2,hap,ho1,hg1,hob⟩:=add_bs (Z:=Rw) (base:=w0.heap.size) (v:=.slice none 0 0) (m:=[]) (World.ownsRow_nil _ _ _ _) hsrc (by have:=hTl.out;rw [List.length_drop];simp;omega) HSR.L.size
     rw [List.nil_append] at ho1
     obtain ⟨a2,c2,rfl⟩:∃ a2 c2,v2=.slice a2 (T.drop r).length c2:=by
      rcases ho1.2 with ⟨rfl,hz⟩ | ⟨g,cap,cur,rfl,_⟩
      ·rw [hz];exact ⟨_,_,rfl⟩
      ·exact ⟨_,_,rfl⟩
     obtain ⟨DL,hDL⟩:∃ n,(T.drop r).length=n:=⟨_,rfl⟩
     rw [hDL] at ho1 hap hob
     obtain ⟨HS3,HG3⟩:=strm_cut (T:=T.drop r) HSR hg1 (by rw [hDL];exact ho1)
     have HX2:w2.heap[b]? = some (.cells #[.bool masked,.int .i64 most,.slice a1 TL c1,.int .i64 ((0:Nat):Int)] 119 (0,0)):=by rw [hg1.block b HSR.lt (by simp [Value.ownBlock])];exact HSR.X
     have HS2:w2.heap[W0.heap.size]? = some (.cells #[.pointer (some ⟨b,0,none⟩)] 77 (0,0))∧w2.heap[RR]? = some (.cells #[.int .i64 (r:Int)] 3 (0,0)):=⟨by rw [hg1.block W0.heap.size (Array.getElem?_eq_some_iff.1 HS0.1).1 (by simp [Value.ownBlock])];exact HS0.1,by rw [hg1.block RR (Array.getElem?_eq_some_iff.1 HS0.2).1 (by simp [Value.ownBlock])];exact HS0.2⟩
     obtain ⟨w4,hw4⟩:∃ V,w2.setCell ⟨b,2,none⟩ (.slice a2 DL c2)=V:=⟨_,rfl⟩
     have hneC:W0.heap.size≠b:=HNE.out
     have hneR:RR≠b:=fun e=>by
      have h1:=HS0.2;rw [e,HSR.X] at h1;injection h1 with h;injection h with _ h;exact absurd h (by decide)
     have HS4:w4.heap[W0.heap.size]? = some (.cells #[.pointer (some ⟨b,0,none⟩)] 77 (0,0))∧w4.heap[RR]? = some (.cells #[.int .i64 (r:Int)] 3 (0,0)):=⟨by rw [← hw4,heap_setCell_other _ _ _ _ hneC];exact HS2.1,by rw [← hw4,heap_setCell_other _ _ _ _ hneR];exact HS2.2⟩
     have hf2:w2.frozen? ⟨b,2,none⟩=false:=frozen_of_row _ _ _ _ _ HX2
     have hp2:w2.cell? ⟨b,2,none⟩=some (.slice a1 TL c1):=by rw [cell_of_row _ _ _ _ _ _ HX2];rfl
     have hpR:Rw.cell? ⟨b,2,none⟩=some (.slice a1 TL c1):=HSR.cells.2.2.1
     rw [hw4] at HS3 HG3
     refine heldTake (d:=some 59) (op:=.load 77 (Operand.tmp 2)) (g:=none) 0 ?v0c rfl (by kernel_rfl) (by kernel_rfl) (by kernel_rfl) (by kernel_rfl) ?y0c HS0 ?_
     case y0c=>intro o' ho W hS;have hcx:=cell_of_one hS.1;simp only [execOp,ho];go_simp;try rfl
     simp only [Act.put,List.setIfInBounds_toArray,List.set_cons_zero,List.set_cons_succ]
     refine heldTake (d:=some 60) (op:=.load 77 (Operand.tmp 2)) (g:=none) 1 ?v1c rfl (by kernel_rfl) (by kernel_rfl) (by kernel_rfl) (by kernel_rfl) ?y1c HS0 ?_
     case y1c=>intro o' ho W hS;have hcx:=cell_of_one hS.1;simp only [execOp,ho];go_simp;try rfl
     simp only [Act.put,List.setIfInBounds_toArray,List.set_cons_zero,List.set_cons_succ]
     refine heldTake (d:=some 61) (op:=.nilCheck (Operand.tmp 60)) (g:=none) 2 ?v2c rfl (by kernel_rfl) (by kernel_rfl) (by kernel_rfl) (by kernel_rfl) ?y2c HS0 ?_
     case y2c=>intro o' ho W hS;simp only [execOp,ho];go_simp;try rfl
     simp only [Act.put,List.setIfInBounds_toArray,List.set_cons_zero,List.set_cons_succ]
     refine heldTake (d:=some 62) (op:=.fieldAddr 119 (Operand.tmp 61) 2) (g:=none) 3 ?v3c rfl (by kernel_rfl) (by kernel_rfl) (by kernel_rfl) (by kernel_rfl) ?y3c HS0 ?_
     case y3c=>intro o' ho W hS;simp only [execOp,ho];go_simp;try rfl
     simp only [Act.put,List.setIfInBounds_toArray,List.set_cons_zero,List.set_cons_succ]
     refine heldTake (d:=some 64) (op:=.load 3 (Operand.tmp 6)) (g:=none) 5 ?v5c rfl (by kernel_rfl) (by kernel_rfl) (by kernel_rfl) (by kernel_rfl) ?y5c HS0 ?_
     case y5c=>intro o' ho W hS;have hcx:=cell_of_one hS.2;simp only [execOp,ho];go_simp;try rfl
     simp only [Act.put,List.setIfInBounds_toArray,List.set_cons_zero,List.set_cons_succ]
     refine heldRunT (d:=some 63) (op:=.load 49 (Operand.tmp 62)) (g:=none) (t:=49) 4 (.slice a1 TL c1) Rw rfl (by kernel_rfl) (by kernel_rfl) ?y4c HS0 ?_
     case y4c=>intro o' ho _;simp only [execOp,ho];go_simp;try rfl
     simp only [Act.put,List.setIfInBounds_toArray,List.set_cons_zero,List.set_cons_succ]
     refine heldTake (d:=some 65) (op:=.slice 49 (Operand.tmp 63) (some (Operand.tmp 64)) none none) (g:=none) 6 ((.slice a' (TL-r) (c1-r))) rfl (by kernel_rfl) (by kernel_rfl) (by kernel_rfl) (by kernel_rfl) ?y6c HS0 ?_
     case y6c=>intro o' ho W hS;exact hsl W _ o' _ _ ho (by rfl) (by rfl)
     simp only [Act.put,List.setIfInBounds_toArray,List.set_cons_zero,List.set_cons_succ]
     refine heldRunT (d:=some 66) (op:=.call {callee:=Callee.builtin Builtin.append,args:=#[Operand.const (Value.slice none 0 0),Operand.tmp 65],argTypes:=#[49,49]}) (g:=none) (t:=49) 7 (.slice a2 DL c2) w2 rfl (by kernel_rfl) (by kernel_rfl) ?y7c HS2 ?_
     case y7c=>intro o' ho ht;exact run_appB ho ht (by rfl) (by rfl) hap
     simp only [Act.put,List.setIfInBounds_toArray,List.set_cons_zero,List.set_cons_succ]
     refine heldTake (d:=some 67) (op:=.nilCheck (Operand.tmp 59)) (g:=none) 8 ?v8c rfl (by kernel_rfl) (by kernel_rfl) (by kernel_rfl) (by kernel_rfl) ?y8c HS2 ?_
     case y8c=>intro o' ho W hS;simp only [execOp,ho];go_simp;try rfl
     simp only [Act.put,List.setIfInBounds_toArray,List.set_cons_zero,List.set_cons_succ]
     refine heldTake (d:=some 68) (op:=.fieldAddr 119 (Operand.tmp 67) 2) (g:=none) 9 ?v9c rfl (by kernel_rfl) (by kernel_rfl) (by kernel_rfl) (by kernel_rfl) ?y9c HS2 ?_
     case y9c=>intro o' ho W hS;simp only [execOp,ho];go_simp;try rfl
     simp only [Act.put,List.setIfInBounds_toArray,List.set_cons_zero,List.set_cons_succ]
     refine heldStore (d:=none) (op:=.store 49 (Operand.tmp 68) (Operand.tmp 66)) (g:=none) (t:=0) 10 w4 rfl (by kernel_rfl) (by kernel_rfl) ?y10c HS4 ?_
     case y10c=>intro o' ho ht;rw [← hw4];simp only [execOp,ho];go_simp;try rfl
     simp only [Act.put]
     refine wpAnyH_done (by kernel_rfl) ?_ _
     refine NoPanic.normal ?_
     have HS3':=Sl.mk HS3
     have HT3':Sl (Two W0 w4 b (ob v b)):=⟨two_left (two_below HT2.out HB) HG3⟩
     have HO3':Sl (OwnR w4 (q+1) u gs):=⟨(HO2.out.below HB).kept HG3 (.inr ((HO2.out.below HB).kind HSR.X (by decide)))⟩
     have HOB3:Sl ((Value.slice a2 DL c2).ownBlock=v.ownBlock∨∀ g,(Value.slice a2 DL c2).ownBlock=some g→W0.heap.size≤g):=⟨by
      rcases hob with h | h
      ·exact .inr (fun g hg=>by rw [h] at hg;cases hg)
      ·exact .inr (fun g hg=>by rw [h] at hg;injection hg with hg;have:=hsz2.out;have:=HB.size;omega)⟩
     clear HB HS0 HSR ha' hsl hsrc hap ho1 hg1 hob HX2 HS2 HS3 HG3 hw4 hneC hneR HS4 hf2 hp2 hpR
     go_wp2
     go_ret2
     refine ⟨_,_,rfl,⟨own_base HO3'.out (by have:=HK2.out;omega)⟩,⟨?_⟩,HT3',HOB3⟩
     rw [show T.length-(T.length-r)=r by have:=HTL.out;omega]
     exact HS3'.out
   ·have hq9:((k:Int) != 90)=true:=by simp;omega
    have ha:=pl_err hTs.out HL.out.hP hk h9
    rw [HALL.out] at ha
    injection ha with ha1 ha
    injection ha with ha2 ha3
    subst ha1 ha2 ha3
    have HL2:=Sl.mk HL.out.hS
    have HC2:=Sl.mk HL.out.hC
    have HR2:=Sl.mk HL.out.hR
    have HO2:=Sl.mk HL.out.hO
    have HT2:=Sl.mk HL.out.hT
    have HK2:=Sl.mk HL.out.hK
    have hsz2:Sl (W0.heap.size≤wr.heap.size):=⟨HL.out.hT.size⟩
    clear HL hTl hTs HALL HG HMO
    go_upto_region 12 with fail
    obtain ⟨Rw,hRw⟩:∃ R,wr.drew=R:=⟨_,rfl⟩
    have HB:Below wr.heap.size wr Rw:=by rw [← hRw];exact (Below.refl _ _).drew
    have HS0:Rw.heap[W0.heap.size]? = some (.cells #[.pointer (some ⟨b,0,none⟩)] 77 (0,0)):=below_key HC2.out HB
    refine wp_region_noPanic ?_
    refine wp_region_held (S:=fun V=>V.heap[W0.heap.size]? = some (.cells #[.pointer (some ⟨b,0,none⟩)] 77 (0,0))) (by kernel_rfl) ?_
    change wpAnyH _ _ _ _ _ _ _ _ wr.drew
    rw [hRw]
    clear hRw
    have HSR:=HL2.out.below HB
    obtain ⟨HS3,HG3,hp2,hf2⟩:=strm_err HSR e
    obtain ⟨w2,hw2⟩:∃ V,Rw.setCell ⟨b,3,none⟩ (.int .i64 (e:Int))=V:=⟨_,rfl⟩
    rw [hw2] at HS3 HG3 hp2 hf2
    obtain ⟨w4,hw4⟩:∃ V,w2.setCell ⟨b,2,none⟩ (.slice none 0 0)=V:=⟨_,rfl⟩
    rw [hw4] at HS3 HG3
    have hneC:W0.heap.size≠b:=HNE.out
    have HS2:w2.heap[W0.heap.size]? = some (.cells #[.pointer (some ⟨b,0,none⟩)] 77 (0,0)):=by rw [← hw2,heap_setCell_other _ _ _ _ hneC];exact HS0
    have HS4:w4.heap[W0.heap.size]? = some (.cells #[.pointer (some ⟨b,0,none⟩)] 77 (0,0)):=by rw [← hw4,heap_setCell_other _ _ _ _ hneC];exact HS2
    have hp0:Rw.cell? ⟨b,3,none⟩=some (.int .i64 ((0:Nat):Int)):=HSR.cells.2.2.2
    have hf0:=HSR.froz 3
    refine heldTake (d:=some 48) (op:=.load 77 (Operand.tmp 2)) (g:=none) 0 ?v0d rfl (by kernel_rfl) (by kernel_rfl) (by kernel_rfl) (by kernel_rfl) ?y0d HS0 ?_
    case y0d=>intro o' ho W hS;have hcx:=cell_of_one hS;simp only [execOp,ho];go_simp;try rfl
    simp only [Act.put,List.setIfInBounds_toArray,List.set_cons_zero,List.set_cons_succ]
    refine heldTake (d:=some 49) (op:=.load 77 (Operand.tmp 2)) (g:=none) 1 ?v1d rfl (by kernel_rfl) (by kernel_rfl) (by kernel_rfl) (by kernel_rfl) ?y1d HS0 ?_
    case y1d=>intro o' ho W hS;have hcx:=cell_of_one hS;simp only [execOp,ho];go_simp;try rfl
    simp only [Act.put,List.setIfInBounds_toArray,List.set_cons_zero,List.set_cons_succ]
    refine heldTake (d:=some 50) (op:=.move (Operand.tmp 10)) (g:=none) 2 ?v2d rfl (by kernel_rfl) (by kernel_rfl) (by kernel_rfl) (by kernel_rfl) ?y2d HS0 ?_
    case y2d=>intro o' ho W hS;simp only [execOp,ho];go_simp;try rfl
    simp only [Act.put,List.setIfInBounds_toArray,List.set_cons_zero,List.set_cons_succ]
    refine heldTake (d:=some 51) (op:=.nilCheck (Operand.tmp 48)) (g:=none) 3 ?v3d rfl (by kernel_rfl) (by kernel_rfl) (by kernel_rfl) (by kernel_rfl) ?y3d HS0 ?_
    case y3d=>intro o' ho W hS;simp only [execOp,ho];go_simp;try rfl
    simp only [Act.put,List.setIfInBounds_toArray,List.set_cons_zero,List.set_cons_succ]
    refine heldTake (d:=some 52) (op:=.fieldAddr 119 (Operand.tmp 51) 3) (g:=none) 4 ?v4d rfl (by kernel_rfl) (by kernel_rfl) (by kernel_rfl) (by kernel_rfl) ?y4d HS0 ?_
    case y4d=>intro o' ho W hS;simp only [execOp,ho];go_simp;try rfl
    simp only [Act.put,List.setIfInBounds_toArray,List.set_cons_zero,List.set_cons_succ]
    refine heldStore (d:=none) (op:=.store 31 (Operand.tmp 52) (Operand.tmp 50)) (g:=none) (t:=0) 5 w2 rfl (by kernel_rfl) (by kernel_rfl) ?y5d HS2 ?_
    case y5d=>intro o' ho ht;rw [← hw2];simp only [execOp,ho];go_simp;try rfl
    simp only [Act.put]
    refine heldTake (d:=some 53) (op:=.nilCheck (Operand.tmp 49)) (g:=none) 6 ?v6d rfl (by kernel_rfl) (by kernel_rfl) (by kernel_rfl) (by kernel_rfl) ?y6d HS2 ?_
    case y6d=>intro o' ho W hS;simp only [execOp,ho];go_simp;try rfl
    simp only [Act.put,List.setIfInBounds_toArray,List.set_cons_zero,List.set_cons_succ]
    refine heldTake (d:=some 54) (op:=.fieldAddr 119 (Operand.tmp 53) 2) (g:=none) 7 ?v7d rfl (by kernel_rfl) (by kernel_rfl) (by kernel_rfl) (by kernel_rfl) ?y7d HS2 ?_
    case y7d=>intro o' ho W hS;simp only [execOp,ho];go_simp;try rfl
    simp only [Act.put,List.setIfInBounds_toArray,List.set_cons_zero,List.set_cons_succ]
    refine heldStore (d:=none) (op:=.store 49 (Operand.tmp 54) (Operand.const (Value.slice none 0 0))) (g:=none) (t:=0) 8 w4 rfl (by kernel_rfl) (by kernel_rfl) ?y8d HS4 ?_
    case y8d=>intro o' ho ht;rw [← hw4];simp only [execOp,ho];go_simp;try rfl
    simp only [Act.put]
    refine wpAnyH_done (by kernel_rfl) ?_ _
    refine NoPanic.normal ?_
    have HS3':=Sl.mk HS3
    have HT3':Sl (Two W0 w4 b (ob v b)):=⟨two_left (two_below HT2.out HB) HG3⟩
    have HO3':Sl (OwnR w4 (q+1) u gs):=⟨(HO2.out.below HB).kept HG3 (.inr ((HO2.out.below HB).kind HSR.X (by decide)))⟩
    clear HB HS0 HSR HS3 HG3 hp2 hf2 hw2 hw4 hneC HS2 HS4 hp0 hf0
    go_wp2
    go_ret2
    refine ⟨_,.slice none 0 0,rfl,⟨own_base HO3'.out (by have:=HK2.out;omega)⟩,⟨?_⟩,HT3',⟨.inr (fun g hg=>by cases hg)⟩⟩
    rw [Nat.sub_zero,List.drop_length]
    exact HS3'.out
end Go.Proofs.YtlahonjmfecikaaGreatDoor.Stm
set_option maxRecDepth 100000
namespace Go.Proofs.YtlahonjmfecikaaGreatDoor.Stm
open Go.RowKit MaskPlain FramePlain StreamPlain Mas Fra
theorem feed_ex {w0 W:World} {b:Nat} {masked:Bool} {most:Int} {part:List Nat} {v:Value} (hs:StrmAt w0 W b masked most part 0 v) (hg:Globs w0) (u:Value) (bs:List Nat) (hu:SrcAt W u bs) (hsp:Small 256 part) (hsb:Small 256 bs) (hl:part.length+bs.length≤100000) (hmo:most≤9223372036854775807) {gs:List Fr} {e lf:Nat} (hall:all (part++bs) masked most=(gs,e,lf)) (part':List Nat) (hp:(part++bs).drop ((part++bs).length-lf)=part') (n:Nat) (hn:gs.length=n) :
 Calls Tryz.prog 51 #[.pointer (some ⟨b,0,none⟩),u] W fun x w'=>∃ a c v',x=.returned (.tuple #[.slice a n c,.int .i64 (e:Int)])∧Sl (FrsAt w' (.slice a n c) gs)∧Sl (∀ g,(Value.slice a n c).ownBlock=some g→W.heap.size≤g)∧Sl (StrmAt w0 w' b masked most part' e v')∧Sl (Two W w' b (ob v b)):=by
 subst hp hn
 obtain ⟨a,cap,sb,so,rfl,h1,h2,h3⟩:=hu
 refine (feed_any hs hg a bs.length cap bs ⟨a,cap,sb,so,rfl,h1,h2,h3⟩ hsp hsb hl hmo gs e lf hall).mono ?_
 rintro x w' ⟨vf,v',rfl,ho,hS,hT,_⟩
 obtain ⟨a',c',rfl⟩:=ho.out.slice
 exact ⟨a',c',v',rfl,⟨ho.out.frs⟩,⟨fun g hg=>ho.out.ge hg⟩,hS,hT⟩
theorem part_ex {w0 W:World} {b:Nat} {masked:Bool} {most:Int} {part:List Nat} {err:Nat} {v:Value} (h:StrmAt w0 W b masked most part err v) (n:Nat) (hn:part.length=n) :
 Calls Tryz.prog 67 #[.pointer (some ⟨b,0,none⟩)] W fun e w'=>e=.returned (.int .i64 (n:Int))∧W=w':=by subst hn;exact part_any h
end Go.Proofs.YtlahonjmfecikaaGreatDoor.Stm
set_option maxRecDepth 100000
namespace Go.Proofs.YtlahonjmfecikaaGreatDoor
open Go.RowKit
theorem info9:∃ i,Tryz.prog.info? 9=some i∧i.zero=some (.string ByteArray.empty)∧i.size=1∧i.bytes=16:=by
 have h5:(Tryz.prog.info? 9).map (fun i=>(i.zero,i.size,i.bytes))=some (some (.string ByteArray.empty),1,16):=by kernel_rfl
 cases hi:Tryz.prog.info? 9 with
 | none=>rw [hi] at h5;cases h5
 | some i =>
   rw [hi] at h5
   simp only [Option.map_some,Option.some.injEq,Prod.mk.injEq] at h5
   exact ⟨i,rfl,h5.1,h5.2.1,h5.2.2⟩
def OwnS (W:World) (base:Nat) (v:Value) (l:List ByteArray):Prop:=W.ownsRow base 9 1 v l.length (l.map Value.string)
theorem OwnS.slice {W:World} {base:Nat} {v:Value} {l:List ByteArray} (h:OwnS W base v l):∃ a c,v=.slice a l.length c:=by
 obtain ⟨_,h2⟩:=h
 rcases h2 with ⟨rfl,hz⟩ | ⟨g,cap,cur,rfl,_⟩
 ·rw [hz];exact ⟨_,_,rfl⟩
 ·exact ⟨_,_,rfl⟩
theorem OwnS.below {w w':World} {base:Nat} {v:Value} {l:List ByteArray} (h:OwnS w base v l) (hb:Below w.heap.size w w'):OwnS w' base v l:=own_below h hb
theorem app_str {P:Program} {w:World} {ops:Array Oper} {rest:List Oper} {o:Oper} {a:Act} {Q:Exit→Act→World→Prop} (hP:P=Tryz.prog) (hgd:o.guard=none) (s x:Operand)
 (ho:o.op=.call {callee:=.builtin .append,args:=#[s,x],argTypes:=#[23,23]}) (base:Nat) (v:Value) (l:List ByteArray) (y:ByteArray) (hs:a.eval s=v) (hown:OwnS w base v l)
 (ad:Addr) (c:Nat) (hx:a.eval x=.slice (some ad) 1 c) (hy:w.cell? ad=some (.string y)) (hsp:ad.spot=none) (hl:l.length≤1000000) (hbase:base≤w.heap.size)
 (h:∀ v' w',Sl (OwnS w' base v' (l++[y]))→Sl (w.grownBy w' v.ownBlock)→wpList P ops Q rest (a.put o.dst v') w'):wpList P ops Q (o :: rest) a w:=by
 subst hP
 obtain ⟨i0,hi,hz0,hz1,hz2⟩:=info9
 refine wpList_append_own _ hgd s x 23 ho base 9 i0 (.string ByteArray.empty) 1 16 Tryz.underlying23 hi hz0 hz1 hz2 rfl (by decide) v l.length (l.map Value.string) hs hown ad 1 c [.string y] hx rfl ?_ ?_ ?_ ?_ hbase ?_
 ·intro j u hu
  match j,hu with
  | 0,hu =>
    obtain ⟨b,off,spot⟩:=ad
    simp only at hsp
    subst hsp
    rw [Addr.add_mid]
    injection hu with hu
    subst hu
    exact hy
 ·intro u hu;simp at hu;subst hu;rfl
 ·unfold maxLen;omega
 ·omega
 ·intro v' w' h1 h2 _
  refine h v' w' ⟨?_⟩ ⟨h2⟩
  unfold OwnS
  rw [List.length_append,List.map_append]
  exact h1
def StrA (W:World) (v:Value) (l:List ByteArray):Prop :=
 ∃ (a:Option Addr) (cap sb so:Nat),v=.slice a l.length cap∧l.length≤cap∧(0<l.length→a=some ⟨sb,so,none⟩)∧∀ i,i<l.length→W.cell? ⟨sb,so+i,none⟩=some (.string (l.getD i ByteArray.empty))
theorem StrA.below {w w':World} {v:Value} {l:List ByteArray} (h:StrA w v l) (hb:Below w.heap.size w w'):StrA w' v l:=by
 obtain ⟨a,cap,sb,so,h1,h2,h3,h4⟩:=h
 exact ⟨a,cap,sb,so,h1,h2,h3,fun i hi=>by
  have:=h4 i hi
  rw [hb.cell (p:=⟨sb,so+i,none⟩) (block_lt_of_cell this)];exact this⟩
end Go.Proofs.YtlahonjmfecikaaGreatDoor
set_option maxRecDepth 100000
namespace StreamPlain
open MaskPlain FramePlain
theorem all_zero (masked:Bool) (most:Int):∀ (k:Nat) (s:List Nat),s.length≤k→(∀ y∈s,y<256)→(all s masked most).2.1≠0→(all s masked most).2.2=0
 | 0,s,h,hs,h0=>by
   obtain rfl:s=[]:=List.eq_nil_of_length_eq_zero (by omega)
   exact absurd rfl h0
 | k+1,s,h,hs,h0=>by
   rw [all_step s masked most hs] at h0 ⊢
   by_cases h1:(one s masked most).2.2=90
   ·rw [if_pos h1] at h0;exact absurd rfl h0
   rw [if_neg h1] at h0 ⊢
   by_cases h2:(one s masked most).2.2≠0
   ·rw [if_pos h2]
   rw [if_neg h2] at h0 ⊢
   have h3:=one_len hs (by omega:(one s masked most).2.2=0)
   exact all_zero masked most k (s.drop (one s masked most).2.1) (by rw [List.length_drop];omega) (fun y hy=>hs y (List.mem_of_mem_drop hy)) h0
def sumT (fs:List Fr):Nat:=(fs.map fun f=>(text f).length).sum
theorem all_frs (masked:Bool) (most:Int):∀ (k:Nat) (s:List Nat),s.length≤k→(∀ y∈s,y<256) →
 (∀ f∈(all s masked most).1,form f=true∧f.key.length=4∧(∀ y∈f.key,y<256)∧(∀ y∈f.data,y<256)∧(f.data.length:Int)≤most)∧sumT (all s masked most).1≤s.length∧2*(all s masked most).1.length≤s.length
 | 0,s,h,hs=>by
   obtain rfl:s=[]:=List.eq_nil_of_length_eq_zero (by omega)
   exact ⟨fun f hf=>(by cases hf),Nat.le_refl _,Nat.le_refl _⟩
 | k+1,s,h,hs=>by
   by_cases h1:(one s masked most).2.2=90
   ·rw [show all s masked most=([],0,s.length) by rw [all_step s masked most hs,if_pos h1]]
    exact ⟨fun f hf=>(by cases hf),Nat.zero_le _,Nat.zero_le _⟩
   by_cases h2:(one s masked most).2.2≠0
   ·rw [show all s masked most=([],(one s masked most).2.2,0) by rw [all_step s masked most hs,if_neg h1,if_pos h2]]
    exact ⟨fun f hf=>(by cases hf),Nat.zero_le _,Nat.zero_le _⟩
   obtain ⟨⟨f,n,c⟩,ho⟩:∃ r,one s masked most=r:=⟨_,rfl⟩
   have hc:c=0:=by rw [ho] at h2;simp only at h2;omega
   subst hc
   obtain ⟨h3,h4,h5,h6,h7,h8,h9,h10⟩:=get_ok hs (one_ok ho).1
   have e:all s masked most=(f :: (all (s.drop n) masked most).1,(all (s.drop n) masked most).2):=by rw [all_step s masked most hs,if_neg h1,if_neg h2,ho]
   rw [e]
   obtain ⟨i1,i2,i3⟩:=all_frs masked most k (s.drop n) (by rw [List.length_drop];omega) (fun y hy=>hs y (List.mem_of_mem_drop hy))
   rw [List.length_drop] at i2 i3
   have hl:(text f).length=n:=by rw [h4,List.length_take];omega
   refine ⟨fun g hg=>?_,?_,?_⟩
   ·rcases List.mem_cons.1 hg with rfl | hg
    ·exact ⟨h3,h7,h8,h9,h10⟩
    ·exact i1 g hg
   ·show (text f).length+sumT (all (s.drop n) masked most).1≤_
    omega
   ·show 2*((all (s.drop n) masked most).1.length+1)≤_
    omega
end StreamPlain
set_option maxRecDepth 100000
namespace Go.Proofs.YtlahonjmfecikaaGreatDoor.Stm
open Go.RowKit MaskPlain FramePlain StreamPlain Mas Fra
def few (l:List ByteArray):Bool:=l.all (fun s=>decide (s.size≤300))&&decide (l.length≤40)
set_option maxHeartbeats 1000000 in
theorem few_any (l:List ByteArray) (v:Value) (w:World) (hv:StrsAt w v l):Calls Tryz.prog 32 #[v] w fun e w'=>e=.returned (.bool (few l))∧w=w':=by
 obtain ⟨a,cap,sb,so,rfl,hm,ha,hcell,_⟩:=hv
 have HA:=Sl.mk ha
 have HCE:=Sl.mk hcell
 have HM:=Sl.mk hm
 obtain ⟨n,hn⟩:∃ n,l.length=n:=⟨_,rfl⟩
 have HN:=Sl.mk hn
 rw [hn]
 clear ha hcell hm hn
 go_enter Tryz.func32,Tryz.ntmps32
 go_wp2
 go_loopw [3] (fun i wr=>∃ k:Nat,i=.int .i64 (k:Int)∧k≤n∧wr=w∧Sl ((l.take k).all (fun s=>decide (s.size≤300))=true)) (fun i _=>n-(intOf i).toNat)
 case atStart=>exact ⟨0,rfl,Nat.zero_le _,rfl,⟨rfl⟩⟩
 case round =>
  obtain ⟨k,rfl,hk,rfl,HT⟩:=hrel
  by_cases hkn:k<n
  ·have hc:=HCE.out k (by rw [HN.out];exact hkn)
   obtain rfl:=HA.out (by rw [HN.out];omega)
   obtain ⟨s,hs⟩:∃ s,l.getD k ByteArray.empty=s:=⟨_,rfl⟩
   rw [hs] at hc
   have hmax:n≤9223372036854775807:=by have:=HM.out;rw [HN.out] at this;unfold maxLen at this;omega
   have hlt:((k:Int)<(n:Int))=True:=eq_true (by omega)
   by_cases hz:s.size>300
   ·have hq:((s.size:Int)>300)=True:=eq_true (by omega)
    have HF:Sl (few l=false):=⟨by
     unfold few
     rw [Bool.and_eq_false_iff];left
     rw [List.all_eq_false]
     refine ⟨s,?_,by simpa using hz⟩
     rw [← hs,List.getD_eq_getElem?_getD,List.getElem?_eq_getElem (by rw [HN.out];exact hkn)]
     exact List.getElem_mem _⟩
    clear hz hs hmax
    go_wp2
    go_ret
    exact ⟨by rw [HF.out];rfl,rfl⟩
   ·have hq:((s.size:Int)>300)=False:=eq_false (by omega)
    have HT':Sl ((l.take (k+1)).all (fun s=>decide (s.size≤300))=true):=⟨by
     rw [List.take_add_one,List.all_append,HT.out,Bool.true_and]
     have:l[k]? = some s:=by rw [List.getElem?_eq_getElem (by rw [HN.out];exact hkn),← hs,List.getD_eq_getElem?_getD,List.getElem?_eq_getElem (by rw [HN.out];exact hkn)];rfl
     rw [this]
     simp;omega⟩
    clear hz hs
    go_wp2
    exact ⟨⟨k+1,by go_num,by omega,trivial,HT'⟩,by simp [intOf];omega⟩
  ·obtain rfl:k=n:=by omega
   have hlt:((k:Int)<(k:Int))=False:=eq_false (by omega)
   have hF:few l=decide (k≤40):=by
    have:=HT.out
    rw [List.take_of_length_le (by rw [HN.out];exact Nat.le_refl _)] at this
    unfold few
    rw [this,HN.out,Bool.true_and]
   obtain ⟨d,hd⟩:∃ d,decide (k≤40)=d:=⟨_,rfl⟩
   have hq:decide ((k:Int)≤40)=d:=by rw [← hd];exact decide_eq_decide.2 (by omega)
   have HF:Sl (few l=d):=⟨by rw [hF,hd]⟩
   clear hF hd hkn
   go_wp2
   go_ret
   exact ⟨by rw [HF.out,← hq];rfl,rfl⟩
theorem FrsAt.at8 {W:World} {sb so n cap:Nat} {fs:List Fr} (h:FrsAt W (.slice (some ⟨sb,so,none⟩) n cap) fs) (i:Nat) (hi:i<fs.length) {c0 c1 c2 c3 c4 c5 c6 c7:Value} (hc:(cv (fs.getD i Fr0)).toArray=#[c0,c1,c2,c3,c4,c5,c6,c7]) :
 W.cell? ⟨sb,so+i*8,none⟩=some c0∧W.cell? ⟨sb,so+i*8+1,none⟩=some c1∧W.cell? ⟨sb,so+i*8+2,none⟩=some c2∧W.cell? ⟨sb,so+i*8+3,none⟩=some c3∧W.cell? ⟨sb,so+i*8+4,none⟩=some c4∧W.cell? ⟨sb,so+i*8+5,none⟩=some c5∧W.cell? ⟨sb,so+i*8+6,none⟩=some c6∧W.cell? ⟨sb,so+i*8+7,none⟩=some c7:=by
 obtain ⟨a,cap',sb',so',he,_,h3,h4⟩:=h
 injection he with e1 e2 e3
 rw [h3 (by omega)] at e1
 injection e1 with e1
 injection e1 with e4 e5
 subst e4 e5
 have hc':cv (fs.getD i Fr0)=[c0,c1,c2,c3,c4,c5,c6,c7]:=by simpa using congrArg Array.toList hc
 have g:=h4 i hi
 rw [hc'] at g
 exact ⟨g 0 (by decide),g 1 (by decide),g 2 (by decide),g 3 (by decide),g 4 (by decide),g 5 (by decide),g 6 (by decide),g 7 (by decide)⟩
theorem FrsAt.cap {W:World} {a:Option Addr} {n cap:Nat} {fs:List Fr} (h:FrsAt W (.slice a n cap) fs):n=fs.length∧(0<n→∃ sb so,a=some ⟨sb,so,none⟩):=by
 obtain ⟨a',cap',sb',so',he,_,h3,_⟩:=h
 injection he with e1 e2 e3
 refine ⟨e2,fun hp=>⟨sb',so',?_⟩⟩
 rw [e1];exact h3 (by omega)
theorem FrsAt.slice {W:World} {v:Value} {fs:List Fr} (h:FrsAt W v fs):∃ a c,v=.slice a fs.length c:=by
 obtain ⟨a,c,_,_,rfl,_⟩:=h;exact ⟨a,c,rfl⟩
end Go.Proofs.YtlahonjmfecikaaGreatDoor.Stm
set_option maxRecDepth 100000
namespace Go.Proofs.YtlahonjmfecikaaGreatDoor.Stm
open Go.RowKit MaskPlain FramePlain StreamPlain Mas Fra
section
variable {w0 W W':World} {b:Nat} {masked:Bool} {most:Int} {part:List Nat} {err:Nat} {v:Value}
theorem own_fed {base e size n:Nat} {u:Value} {xs:List Value} (h:W.ownsRow base e size u n xs) (hs:StrmAt w0 W b masked most part err v) (h1:e≠5) (h2:e≠119) (T:Two W W' b (ob v b)):W'.ownsRow base e size u n xs:=by
 refine ⟨h.1,?_⟩
 rcases h.2 with hn | ⟨g,cap,cur,rfl,hb,hg,r⟩
 ·exact .inl hn
 ·refine .inr ⟨g,cap,cur,rfl,hb,?_,r⟩
  have k1:g≠b:=fun e=>by rw [e,hs.X] at hg;injection hg with hg;injection hg with _ hg;exact h2 hg.symm
  have k2:v.ownBlock≠some g:=ownB_kind hs.O hg h1
  rw [T.block g (Array.getElem?_eq_some_iff.1 hg).1 k1 (ob_ne k1 k2)]
  exact hg
theorem strm_told {base e size n:Nat} {u:Value} {xs:List Value} (hs:StrmAt w0 W b masked most part err v) (h:W.ownsRow base e size u n xs) (h1:e≠5) (h2:e≠119) (hb:w0.heap.size≤base) (g:W.grownBy W' u.ownBlock):StrmAt w0 W' b masked most part err v :=
 hs.grown g (fun k hk=>by
  rcases h.2 with ⟨rfl,_⟩ | ⟨g',cap,cur,rfl,hbg,hg,_⟩
  ·cases hk
  ·obtain rfl:g'=k:=by simpa [Value.ownBlock] using hk
   exact ⟨fun e=>by rw [e,hs.X] at hg;injection hg with hg;injection hg with _ hg;exact h2 hg.symm,ownB_kind hs.O hg h1,by omega⟩)
end
end Go.Proofs.YtlahonjmfecikaaGreatDoor.Stm
namespace Go.Proofs.YtlahonjmfecikaaGreatDoor.Stm
open Go.RowKit Go.WideShapes Go.ChangeShapes MaskPlain FramePlain StreamPlain Mas Fra
structure FrOk (f:Fr):Prop where
 k4:f.key.length=4
 ks:Small 256 f.key
 ds:Small 256 f.data
 dl:f.data.length≤maxLen
 op:-9223372036854775808≤f.op∧f.op≤9223372036854775807
theorem list_of {α:Type} (d:α) (n:Nat) (p:Nat→α→Prop) (h:∀ i,i<n→∃ x,p i x):∃ l:List α,l.length=n∧∀ i,i<n→p i (l.getD i d):=by
 induction n with
 | zero=>exact ⟨[],rfl,fun i hi=>absurd hi (Nat.not_lt_zero _)⟩
 | succ n ih =>
   obtain ⟨l,hl,hp⟩:=ih (fun i hi=>h i (by omega))
   obtain ⟨x,hx⟩:=h n (by omega)
   refine ⟨l++[x],by simp [hl],fun i hi=>?_⟩
   by_cases hin:i<n
   ·have e:(l++[x]).getD i d=l.getD i d:=by
     simp only [List.getD_eq_getElem?_getD];rw [List.getElem?_append_left (by omega)]
    rw [e];exact hp i hin
   ·obtain rfl:i=n:=by omega
    have e:(l++[x]).getD i d=x:=by
     simp only [List.getD_eq_getElem?_getD];rw [List.getElem?_append_right (by omega)];simp [hl]
    rw [e];exact hx
end Go.Proofs.YtlahonjmfecikaaGreatDoor.Stm
set_option maxRecDepth 100000
namespace Go.Proofs.YtlahonjmfecikaaGreatDoor.Stm
open Go.RowKit MaskPlain FramePlain StreamPlain Mas Fra
theorem fr_parts {f:Fr} (h:FrOk f):∃ fin op m,∃ ka kb kc kd:Nat,∃ s,f=(⟨fin,op,m,[ka,kb,kc,kd],bytes s⟩:Fr)∧(cv f).toArray=#[.bool fin,.int .i64 op,.bool m,.int .u8 ((ka:Nat):Int),.int .u8 ((kb:Nat):Int),.int .u8 ((kc:Nat):Int),.int .u8 ((kd:Nat):Int),.string s]∧Small 256 [ka,kb,kc,kd]:=by
 obtain ⟨fin,op,m,key,data⟩:=f
 obtain ⟨h1,h2,h3,_,_⟩:=h
 match key,h1 with
 | [ka,kb,kc,kd],_=>exact ⟨fin,op,m,ka,kb,kc,kd,strOf data,by rw [bytes_strOf data h3],rfl,h2⟩
theorem text_le {f:Fr} (hk:f.key.length=4) (hd:f.data.length≤500):(text f).length≤600:=by
 have hn:=text_length f (by omega) hk
 rw [hn]
 unfold size
 split<;>split<;>(try split)<;>omega
end Go.Proofs.YtlahonjmfecikaaGreatDoor.Stm
set_option maxRecDepth 100000
namespace Go.Proofs.YtlahonjmfecikaaGreatDoor.Stm
open Go.RowKit MaskPlain FramePlain StreamPlain Mas Fra
structure FrLet (f:Fr) (masked:Bool):Prop where
 ok:FrOk f
 fm:form f=true
 dl:f.data.length≤500
 ms:f.masked=masked
theorem FrLet.chk {f:Fr} {masked:Bool} (h:FrLet f masked):chk f=0:=chk_yes h.fm (by have:=h.dl;omega)
theorem FrLet.small {f:Fr} {masked:Bool} (h:FrLet f masked):Small 256 (text f):=text_small h.chk h.ok.ks h.ok.ds
theorem FrLet.le {f:Fr} {masked:Bool} (h:FrLet f masked):(text f).length≤600:=text_le h.ok.k4 h.dl
end Go.Proofs.YtlahonjmfecikaaGreatDoor.Stm
namespace Go.Proofs.YtlahonjmfecikaaGreatDoor.Utf
open Go.RowKit UtfPlain
set_option maxHeartbeats 400000 in
theorem hold_any (lo hi b:Nat) (w:World) :
 Calls Tryz.prog 173 #[.agg #[.int .u8 lo,.int .u8 hi],.int .u8 b] w fun e w'=>e=.returned (.bool (decide (lo≤b∧b≤hi)))∧Below w.heap.size w w':=by
 go_enter Tryz.func173,Tryz.ntmps173
 go_wp2
 all_goals
  go_ret
  refine ⟨ret_bool ?_,(Below.refl _ _).alloc (Nat.le_refl _) _⟩
  simp [*]
end Go.Proofs.YtlahonjmfecikaaGreatDoor.Utf
namespace Go.Proofs.YtlahonjmfecikaaGreatDoor.Utf
open Go.RowKit UtfPlain
structure Row where
 lo:Nat
 hi:Nat
 more:Nat
 slo:Nat
 shi:Nat
def rows:List Row:=[⟨0,127,0,0,0⟩,⟨194,223,1,128,191⟩,⟨224,224,2,160,191⟩,⟨225,236,2,128,191⟩,⟨237,237,2,128,159⟩,⟨238,239,2,128,191⟩,⟨240,240,3,144,191⟩,⟨241,243,3,128,191⟩,⟨244,244,3,128,143⟩]
def Row.cells (r:Row):List Value:=[.int .u8 r.lo,.int .u8 r.hi,.int .i64 r.more,.int .u8 r.slo,.int .u8 r.shi]
def table:List Value:=rows.flatMap Row.cells
structure Globs (w:World):Prop where
 t:w.rangeAt 3 0 table
def ChkAt (w:World) (b n0 n1 l:Nat) (bad:Bool):Prop:=w.heap[b]? = some (.cells #[.int .u8 n0,.int .u8 n1,.int .i64 l,.bool bad] 210 (0,0))
theorem Globs.cell0 {w:World} (h:Globs w):w.cell? ⟨3,0,none⟩=some (.int .u8 ((0:Nat):Int)):=h.t 0 _ rfl
theorem Globs.size {w:World} (h:Globs w):4≤w.heap.size:=by
 have h1:3<w.heap.size:=block_lt_of_cell h.cell0;omega
theorem Globs.below {w w':World} {B:Nat} (h:Globs w) (hb:Below B w w') (hB:4≤B):Globs w' :=
 ⟨fun j v hv=>by rw [hb.cell (p:=⟨3,0+j,none⟩) (show 3<B by omega)];exact h.t j v hv⟩
def row (k:Nat):Row:=rows.getD k ⟨0,0,0,0,0⟩
theorem index_row (k:Nat) (hk:k<9) (W:World):(Instr.index 221 (.agg table.toArray) (.int .i64 (k:Int))).run Tryz.prog W=.ok (.agg (row k).cells.toArray) W:=by
 match k,hk with
 | 0,_=>show _=_;kernel_rfl
 | 1,_=>show _=_;kernel_rfl
 | 2,_=>show _=_;kernel_rfl
 | 3,_=>show _=_;kernel_rfl
 | 4,_=>show _=_;kernel_rfl
 | 5,_=>show _=_;kernel_rfl
 | 6,_=>show _=_;kernel_rfl
 | 7,_=>show _=_;kernel_rfl
 | 8,_=>show _=_;kernel_rfl
theorem grown_drew (w:World) (r:Option Nat):w.grownBy w.drew r:=⟨rfl,rfl,rfl,Nat.le_refl _,fun _ _ _=>rfl⟩
def ChkSt (w:World) (b:Nat) (s:St) (bad:Bool):Prop:=∃ m0 m1,ChkAt w b m0 m1 s.1 bad∧(s.1≠0→m0=s.2.1∧m1=s.2.2)
def Past (v k:Nat):Prop:=∀ j,j<k→¬ ((row j).lo≤v∧v≤(row j).hi)
theorem past_none {v:Nat} (h:Past v 9):lead v=none:=by
 have h0:=h 0 (by decide)
 have h1:=h 1 (by decide)
 have h2:=h 2 (by decide)
 have h3:=h 3 (by decide)
 have h4:=h 4 (by decide)
 have h5:=h 5 (by decide)
 have h6:=h 6 (by decide)
 have h7:=h 7 (by decide)
 have h8:=h 8 (by decide)
 simp only [row,rows,List.getD_cons_zero,List.getD_cons_succ] at h0 h1 h2 h3 h4 h5 h6 h7 h8
 by_cases a:v<194
 ·exact lead2n (by omega) a
 ·exact lead5 (by omega)
theorem row_lead {v k lo hi more slo shi:Nat} (hk:k<9) (hr:(⟨lo,hi,more,slo,shi⟩:Row)=row k) (h:lo≤v∧v≤hi):∃ t,lead v=some t∧more=t.1∧(t.1≠0→slo=t.2.1∧shi=t.2.2):=by
 match k,hk with
 | 0,_=>injection hr with e1 e2 e3 e4 e5;subst e1 e2 e3 e4 e5;exact ⟨_,lead1 (by omega),rfl,fun h=>by simp [s0] at h⟩
 | 1,_=>injection hr with e1 e2 e3 e4 e5;subst e1 e2 e3 e4 e5;exact ⟨_,lead2 (by omega) (by omega),rfl,fun _=>⟨rfl,rfl⟩⟩
 | 2,_=>injection hr with e1 e2 e3 e4 e5;subst e1 e2 e3 e4 e5;obtain rfl:v=224:=by omega
        exact ⟨_,rfl,rfl,fun _=>⟨rfl,rfl⟩⟩
 | 3,_=>injection hr with e1 e2 e3 e4 e5;subst e1 e2 e3 e4 e5;refine ⟨_,lead3 (by omega) (by omega),rfl,fun _=>?_⟩
        have:=lo3_cases v
        have:=hi3_cases v
        constructor<;>simp only<;>omega
 | 4,_=>injection hr with e1 e2 e3 e4 e5;subst e1 e2 e3 e4 e5;obtain rfl:v=237:=by omega
        exact ⟨_,rfl,rfl,fun _=>⟨rfl,rfl⟩⟩
 | 5,_=>injection hr with e1 e2 e3 e4 e5;subst e1 e2 e3 e4 e5;refine ⟨_,lead3 (by omega) (by omega),rfl,fun _=>?_⟩
        have:=lo3_cases v
        have:=hi3_cases v
        constructor<;>simp only<;>omega
 | 6,_=>injection hr with e1 e2 e3 e4 e5;subst e1 e2 e3 e4 e5;obtain rfl:v=240:=by omega
        exact ⟨_,rfl,rfl,fun _=>⟨rfl,rfl⟩⟩
 | 7,_=>injection hr with e1 e2 e3 e4 e5;subst e1 e2 e3 e4 e5;refine ⟨_,lead4 (by omega) (by omega),rfl,fun _=>?_⟩
        have:=lo4_cases v
        have:=hi4_cases v
        constructor<;>simp only<;>omega
 | 8,_=>injection hr with e1 e2 e3 e4 e5;subst e1 e2 e3 e4 e5;obtain rfl:v=244:=by omega
        exact ⟨_,rfl,rfl,fun _=>⟨rfl,rfl⟩⟩
structure BR (w:World) (v k:Nat) (wr:World):Prop where
 p:Past v k
 b:Below w.heap.size w wr
inductive Took (w:World) (b:Nat) (bad:Bool) (o:Option St):Ending→World→Prop where
 | yes (t:St) (w':World) (h:o=some t) (c:ChkSt w' b t bad) (g:w.grownBy w' (some b)):Took w b bad o (.returned (.bool true)) w'
 | no (w':World) (h:o=none) (g:Below w.heap.size w w'):Took w b bad o (.returned (.bool false)) w'
theorem three_cells (w2:World) (b n0 n1 l slo shi more:Nat) (bad:Bool) (h:w2.heap[b]? = some (.cells #[.int .u8 n0,.int .u8 n1,.int .i64 l,.bool bad] 210 (0,0))) :
 ChkAt (((w2.setCell ⟨b,0,none⟩ (.int .u8 slo)).setCell ⟨b,1,none⟩ (.int .u8 shi)).setCell ⟨b,2,none⟩ (.int .i64 more)).drew b slo shi more bad:=by
 show (((w2.setCell ⟨b,0,none⟩ (.int .u8 slo)).setCell ⟨b,1,none⟩ (.int .u8 shi)).setCell ⟨b,2,none⟩ (.int .i64 more)).heap[b]? = _
 rw [heap_setCell_same _ _ _ _ _ _ (heap_setCell_same _ _ _ _ _ _ (heap_setCell_same _ _ _ _ _ _ h))]
 rfl
set_option maxHeartbeats 400000 in
theorem begin_any (b n0 n1 l v:Nat) (bad:Bool) (w:World) (hg:Globs w) (hc:ChkAt w b n0 n1 l bad) :
 Calls Tryz.prog 172 #[.pointer (some ⟨b,0,none⟩),.int .u8 v] w (Took w b bad (lead v)):=by
 have HI52:Sl ((Tryz.prog.info? 221).map (·.size)=some table.length):=⟨by kernel_rfl⟩
 have HG:=Sl.mk hg
 have HC:=Sl.mk hc
 clear hg hc
 go_enter Tryz.func172,Tryz.ntmps172
 go_wp2_with (first | (refine wpList_load_mid rfl 221 (.global 3) rfl 3 0 rfl table (.array 9 220) HG.out.t Tryz.underlying221 rfl HI52.out ?_))
 go_loopw [8] (fun i wr=>∃ k:Nat,k≤9∧i=.int .i64 k∧BR w v k wr) (fun i _=>9-(intOf i).toNat)
 case atStart=>exact ⟨0,by omega,rfl,⟨fun j hj=>by omega,Below.refl _ _⟩⟩
 case round =>
  obtain ⟨k,hk,rfl,hrel⟩:=hrel
  have HR:=Sl.mk hrel
  clear hrel
  by_cases hlt:k<9
  ·have hidx:=index_row k hlt
   obtain ⟨r,hr⟩:∃ r,r=row k:=⟨_,rfl⟩
   rw [← hr] at hidx
   have HRW:=Sl.mk hr
   clear hr
   obtain ⟨lo,hi,more,slo,shi⟩:=r
   simp only [Row.cells] at hidx
   by_cases hin:lo≤v∧v≤hi
   ·have hd:decide (lo≤v∧v≤hi)=true:=decide_eq_true hin
    have HIN:=Sl.mk hin
    have HH:=Sl.mk (hold_any lo hi v)
    rw [hd] at HH
    clear hd hin
    go_wp2_with fail
    refine (HH.out _).mono ?_
    rintro e w2 ⟨rfl,hb2⟩
    have HS2:Sl (w2.heap[wr.heap.size]? = some (.cells #[.int .u8 lo,.int .u8 hi,.int .i64 more,.int .u8 slo,.int .u8 shi] 220 (0,0))):=⟨by
     rw [hb2.block _ (by rw [alloc_size];omega)];exact alloc_new _ _ _ rfl⟩
    have HB2:Sl (Below w.heap.size w w2):=⟨(HR.out.b.alloc HR.out.b.size _).trans (hb2.mono (HR.out.b.alloc HR.out.b.size _).size)⟩
    have HC2:Sl (w2.heap[b]? = some (.cells #[.int .u8 n0,.int .u8 n1,.int .i64 l,.bool bad] 210 (0,0))):=⟨by
     rw [HB2.out.block _ (Array.getElem?_eq_some_iff.1 HC.out).1];exact HC.out⟩
    have hne:wr.heap.size≠b:=by have:=(Array.getElem?_eq_some_iff.1 HC.out).1;have:=HR.out.b.size;omega
    clear hb2
    generalize wr.heap.size=g at *
    have c2:w2.cell? ⟨g,2,none⟩=some (.int .i64 more):=by rw [cell_of_row _ _ _ _ _ _ HS2.out];rfl
    have c3:w2.cell? ⟨g,3,none⟩=some (.int .u8 slo):=by rw [cell_of_row _ _ _ _ _ _ HS2.out];rfl
    have c4:w2.cell? ⟨g,4,none⟩=some (.int .u8 shi):=by rw [cell_of_row _ _ _ _ _ _ HS2.out];rfl
    have d0:w2.cell? ⟨b,0,none⟩=some (.int .u8 n0):=by rw [cell_of_row _ _ _ _ _ _ HC2.out];rfl
    have d1:w2.cell? ⟨b,1,none⟩=some (.int .u8 n1):=by rw [cell_of_row _ _ _ _ _ _ HC2.out];rfl
    have d2:w2.cell? ⟨b,2,none⟩=some (.int .i64 l):=by rw [cell_of_row _ _ _ _ _ _ HC2.out];rfl
    have f0:w2.frozen? ⟨b,0,none⟩=false:=frozen_of_row _ _ _ _ _ HC2.out
    have f1:w2.frozen? ⟨b,1,none⟩=false:=frozen_of_row _ _ _ _ _ HC2.out
    have f2:w2.frozen? ⟨b,2,none⟩=false:=frozen_of_row _ _ _ _ _ HC2.out
    go_wp2
    go_region
    have HF:=Sl.mk (three_cells w2 b n0 n1 l slo shi more bad HC2.out)
    have HGR:Sl (w.grownBy (((w2.setCell ⟨b,0,none⟩ (.int .u8 slo)).setCell ⟨b,1,none⟩ (.int .u8 shi)).setCell ⟨b,2,none⟩ (.int .i64 more)).drew (some b)):=⟨
     grown_trans (grown_below HB2.out _) (grown_trans (grown_trans (grown_trans (grown_setCell _ _ _ _) (grown_setCell _ _ _ _)) (grown_setCell _ _ _ _)) (grown_drew _ _))⟩
    clear c2 c3 c4 d0 d1 d2 f0 f1 f2
    generalize World.drew _=w3 at *
    go_wp2
    go_ret
    obtain ⟨t,ht,h1,h2⟩:=row_lead hlt HRW.out HIN.out
    exact .yes t _ ht ⟨slo,shi,by rw [← h1];exact HF.out,h2⟩ HGR.out
   ·have hd:decide (lo≤v∧v≤hi)=false:=decide_eq_false hin
    have HIN:=Sl.mk hin
    have HH:=Sl.mk (hold_any lo hi v)
    rw [hd] at HH
    clear hd hin
    go_wp2_with fail
    refine (HH.out _).mono ?_
    rintro e w2 ⟨rfl,hb2⟩
    have HB2:Sl (Below w.heap.size w w2):=⟨(HR.out.b.alloc HR.out.b.size _).trans (hb2.mono (HR.out.b.alloc HR.out.b.size _).size)⟩
    clear hb2
    go_wp2
    go_roundw
    case rel=>exact ⟨k+1,by omega,by go_num,⟨fun j hj=>by
     by_cases e:j=k
     ·subst e;have h:=HIN.out;rw [← HRW.out];exact h
     ·exact HR.out.p j (by omega),HB2.out⟩⟩
    case measure=>simp [intOf];omega
  ·have hge:¬ (k:Int)<9:=by omega
   have HN:Sl (lead v=none):=⟨past_none (by have e:k=9:=by omega
                                            rw [← e];exact HR.out.p)⟩
   go_wp2
   go_ret
   exact .no _ HN.out HR.out.b
end Go.Proofs.YtlahonjmfecikaaGreatDoor.Utf
namespace Go.Proofs.YtlahonjmfecikaaGreatDoor.Utf
open Go.RowKit UtfPlain
theorem take_cells (w2:World) (b n0 n1 l:Nat) (m:Int) (k:Nat) (bad:Bool) (hm:m=(k:Int)) (h:w2.heap[b]? = some (.cells #[.int .u8 n0,.int .u8 n1,.int .i64 l,.bool bad] 210 (0,0))) :
 ChkAt (((w2.setCell ⟨b,0,none⟩ (.int .u8 128)).setCell ⟨b,1,none⟩ (.int .u8 191)).setCell ⟨b,2,none⟩ (.int .i64 m)) b 128 191 k bad:=by
 subst hm
 show _=_
 rw [heap_setCell_same _ _ _ _ _ _ (heap_setCell_same _ _ _ _ _ _ (heap_setCell_same _ _ _ _ _ _ h))]
 rfl
set_option maxHeartbeats 400000 in
theorem take_any (b v:Nat) (s:St) (bad:Bool) (w:World) (hg:Globs w) (hc:ChkSt w b s bad) (hs:s.1≤3) :
 Calls Tryz.prog 166 #[.pointer (some ⟨b,0,none⟩),.int .u8 v] w (Took w b bad (ustep s v)):=by
 obtain ⟨n0,n1,hc,hn⟩:=hc
 obtain ⟨l,lo,hi⟩:=s
 simp only at hc hn hs
 have HG:=Sl.mk hg
 have HC:=Sl.mk hc
 have HN:=Sl.mk hn
 have d0:w.cell? ⟨b,0,none⟩=some (.int .u8 n0):=by rw [cell_of_row _ _ _ _ _ _ hc];rfl
 have d1:w.cell? ⟨b,1,none⟩=some (.int .u8 n1):=by rw [cell_of_row _ _ _ _ _ _ hc];rfl
 have d2:w.cell? ⟨b,2,none⟩=some (.int .i64 l):=by rw [cell_of_row _ _ _ _ _ _ hc];rfl
 clear hg hc hn
 by_cases h0:l=0
 ·subst h0
  have HB:=Sl.mk (begin_any b n0 n1 0 v bad)
  have e:ustep (0,lo,hi) v=lead v:=by simp [ustep]
  rw [e];clear e
  go_enter Tryz.func166,Tryz.ntmps166
  go_wp2_with fail
  refine (HB.out _ HG.out HC.out).mono ?_
  intro e w' ht
  cases ht with
  | yes t _ h c g =>
    have H1:=Sl.mk h
    have H2:=Sl.mk c
    have H3:=Sl.mk g
    clear h c g
    go_wp2
    go_ret
    exact .yes t _ H1.out H2.out H3.out
  | no _ h g =>
    have H1:=Sl.mk h
    have H3:=Sl.mk g
    clear h g
    go_wp2
    go_ret
    exact .no _ H1.out H3.out
 ·have hq:((l:Int)==0)=false:=by simp;omega
  obtain ⟨rfl,rfl⟩:=HN.out h0
  have hp:1≤l:=by omega
  clear h0 HN
  by_cases hin:n0≤v∧v≤n1
  ·have hd:decide (n0≤v∧v≤n1)=true:=decide_eq_true hin
   have HH:=Sl.mk (hold_any n0 n1 v)
   have HU:Sl (ustep (l,n0,n1) v=some (l-1,128,191)):=⟨by simp only [ustep];rw [if_neg (by omega),if_pos hin]⟩
   rw [hd] at HH
   clear hd hin
   go_enter Tryz.func166,Tryz.ntmps166
   go_wp2_with fail
   refine (HH.out _).mono ?_
   rintro e w2 ⟨rfl,hb2⟩
   have HB2:=Sl.mk hb2
   have HC2:Sl (w2.heap[b]? = some (.cells #[.int .u8 n0,.int .u8 n1,.int .i64 l,.bool bad] 210 (0,0))):=⟨by
    rw [hb2.block _ (Array.getElem?_eq_some_iff.1 HC.out).1];exact HC.out⟩
   clear hb2
   have d0:w2.cell? ⟨b,0,none⟩=some (.int .u8 n0):=by rw [cell_of_row _ _ _ _ _ _ HC2.out];rfl
   have d1:w2.cell? ⟨b,1,none⟩=some (.int .u8 n1):=by rw [cell_of_row _ _ _ _ _ _ HC2.out];rfl
   have d2:w2.cell? ⟨b,2,none⟩=some (.int .i64 l):=by rw [cell_of_row _ _ _ _ _ _ HC2.out];rfl
   have f0:w2.frozen? ⟨b,0,none⟩=false:=frozen_of_row _ _ _ _ _ HC2.out
   have f1:w2.frozen? ⟨b,1,none⟩=false:=frozen_of_row _ _ _ _ _ HC2.out
   have f2:w2.frozen? ⟨b,2,none⟩=false:=frozen_of_row _ _ _ _ _ HC2.out
   go_wp2
   go_ret
   exact .yes _ _ HU.out ⟨128,191,take_cells w2 b n0 n1 l _ (l-1) bad (by omega) HC2.out,fun _=>⟨rfl,rfl⟩⟩
    (grown_trans (grown_below HB2.out _) (grown_trans (grown_trans (grown_setCell _ _ _ _) (grown_setCell _ _ _ _)) (grown_setCell _ _ _ _)))
  ·have hd:decide (n0≤v∧v≤n1)=false:=decide_eq_false hin
   have HH:=Sl.mk (hold_any n0 n1 v)
   have HU:Sl (ustep (l,n0,n1) v=none):=⟨by simp only [ustep];rw [if_neg (by omega),if_neg hin]⟩
   rw [hd] at HH
   clear hd hin
   go_enter Tryz.func166,Tryz.ntmps166
   go_wp2_with fail
   refine (HH.out _).mono ?_
   rintro e w2 ⟨rfl,hb2⟩
   have HB2:=Sl.mk hb2
   clear hb2
   go_wp2
   go_ret
   exact .no _ HU.out HB2.out
end Go.Proofs.YtlahonjmfecikaaGreatDoor.Utf
namespace Go.Proofs.YtlahonjmfecikaaGreatDoor.Utf
open Go.RowKit UtfPlain
def ChkO (w:World) (b:Nat):Option St→Prop
 | some s=>ChkSt w b s false
 | none=>∃ n0 n1 l,ChkAt w b n0 n1 l true
def rt:Option St→List Nat→Nat
 | some s,bs=>uright s bs
 | none,_=>0
def en (o:Option St) (bs:List Nat):Option St:=o.bind fun s=>uend s bs
def OkO (o:Option St):Prop:=∀ s,o=some s→Ok s
theorem ok_le {s:St} (h:Ok s):s.1≤3:=by rcases h with rfl | rfl | rfl | rfl | rfl | rfl | rfl | rfl<;>simp [s0]
theorem new_any (w:World):Calls Tryz.prog 141 #[] w fun e w'=>e=.returned (.pointer (some ⟨w.heap.size,0,none⟩))∧w'=w.alloc (.cells #[.int .u8 0,.int .u8 0,.int .i64 0,.bool false] 210):=by
 go_enter Tryz.func141,Tryz.ntmps141
 go_wp2
 go_ret
 exact ⟨rfl,rfl⟩
theorem chk_new (w:World):ChkO (w.alloc (.cells #[.int .u8 0,.int .u8 0,.int .i64 0,.bool false] 210)) w.heap.size (some s0):=⟨0,0,alloc_new _ _ _ rfl,fun h=>absurd rfl h⟩
theorem right_any (b:Nat) (o:Option St) (w:World) (hc:ChkO w b o):Calls Tryz.prog 162 #[.pointer (some ⟨b,0,none⟩)] w fun e w'=>e=.returned (.bool o.isSome)∧w=w':=by
 obtain ⟨n0,n1,l,bad,hb,hc⟩:∃ n0 n1 l bad,bad=!o.isSome∧ChkAt w b n0 n1 l bad:=by
  cases o with
  | none=>obtain ⟨n0,n1,l,h⟩:=hc;exact ⟨n0,n1,l,true,rfl,h⟩
  | some s=>obtain ⟨n0,n1,h,_⟩:=hc;exact ⟨n0,n1,s.1,false,rfl,h⟩
 have d3:w.cell? ⟨b,3,none⟩=some (.bool bad):=by rw [cell_of_row _ _ _ _ _ _ hc];rfl
 have HB:=Sl.mk hb
 clear hc hb
 go_enter Tryz.func162,Tryz.ntmps162
 go_wp2
 go_ret
 exact ⟨ret_bool (by rw [HB.out];simp),rfl⟩
theorem whole_any (b:Nat) (o:Option St) (w:World) (hc:ChkO w b o) (ok:OkO o):Calls Tryz.prog 151 #[.pointer (some ⟨b,0,none⟩)] w fun e w'=>e=.returned (.bool (decide (o=some s0)))∧w=w':=by
 cases o with
 | none =>
   obtain ⟨n0,n1,l,hc⟩:=hc
   have d3:w.cell? ⟨b,3,none⟩=some (.bool true):=by rw [cell_of_row _ _ _ _ _ _ hc];rfl
   clear hc ok
   go_enter Tryz.func151,Tryz.ntmps151
   go_wp2
   go_ret
   exact ⟨ret_bool (by simp),rfl⟩
 | some s =>
   obtain ⟨n0,n1,hc,_⟩:=hc
   have d3:w.cell? ⟨b,3,none⟩=some (.bool false):=by rw [cell_of_row _ _ _ _ _ _ hc];rfl
   have d2:w.cell? ⟨b,2,none⟩=some (.int .i64 s.1):=by rw [cell_of_row _ _ _ _ _ _ hc];rfl
   have hz:Sl (((s.1:Int)==0)=decide (some s=some s0)):=⟨by
    rcases ok s rfl with rfl | rfl | rfl | rfl | rfl | rfl | rfl | rfl<;>decide⟩
   clear hc ok
   go_enter Tryz.func151,Tryz.ntmps151
   go_wp2
   go_ret
   exact ⟨ret_bool hz.out,rfl⟩
theorem SrcN.any {w:World} {v:Value} {bs:List Nat} {b:Nat} (h:SrcN w b v bs):SrcAt w v bs:=by
 obtain ⟨a,cap,sb,so,h0,h1,h3,_,h5⟩:=h
 exact ⟨a,cap,sb,so,h0,h1,h3,h5⟩
theorem SrcAt.below {w w':World} {v:Value} {bs:List Nat} (h:SrcAt w v bs) (hb:Below w.heap.size w w'):SrcAt w' v bs:=by
 obtain ⟨a,cap,sb,so,h0,h1,h3,h5⟩:=h
 exact ⟨a,cap,sb,so,h0,h1,h3,fun i hi=>by rw [hb.cell (p:=⟨sb,so+i,none⟩) (block_lt_of_cell (h5 i hi))];exact h5 i hi⟩
theorem SrcN.below {w w':World} {v:Value} {bs:List Nat} {b:Nat} (h:SrcN w b v bs) (hb:Below w.heap.size w w'):SrcN w' b v bs:=by
 obtain ⟨a,cap,sb,so,h0,h1,h3,h4,h5⟩:=h
 exact ⟨a,cap,sb,so,h0,h1,h3,h4,fun i hi=>by rw [hb.cell (p:=⟨sb,so+i,none⟩) (block_lt_of_cell (h5 i hi))];exact h5 i hi⟩
theorem SrcN.grown {w w':World} {v:Value} {bs:List Nat} {b:Nat} (h:SrcN w b v bs) (hb:w.grownBy w' (some b)):SrcN w' b v bs:=by
 obtain ⟨a,cap,sb,so,h0,h1,h3,h4,h5⟩:=h
 refine ⟨a,cap,sb,so,h0,h1,h3,h4,fun i hi=>?_⟩
 rw [World.cell?_of_block (w:=w) (hb.block sb (block_lt_of_cell (h5 i hi)) (fun e=>h4 (by omega) (by injection e)))]
 exact h5 i hi
theorem uend_succ (s:St) (bs:List Nat) (k:Nat) (hk:k<bs.length):uend s (bs.take (k+1))=(uend s (bs.take k)).bind fun t=>ustep t (bs.getD k 0):=by
 have e:bs.take (k+1)=bs.take k++[bs.getD k 0]:=by
  rw [List.take_succ_eq_append_getElem hk];simp [List.getD,List.getElem?_eq_getElem hk]
 rw [e,uend_append]
 congr 1
 funext t
 simp only [uend]
 cases ustep t (bs.getD k 0)<;>rfl
theorem uright_stop (s t:St) (bs:List Nat) (k:Nat) (hk:k<bs.length) (h:uend s (bs.take k)=some t) (hs:ustep t (bs.getD k 0)=none):uright s bs=k∧uend s bs=none:=by
 have e:bs=bs.take k++bs.drop k:=(List.take_append_drop k bs).symm
 have ed:bs.drop k=bs.getD k 0 :: bs.drop (k+1):=by
  rw [List.drop_eq_getElem_cons hk];simp [List.getD,List.getElem?_eq_getElem hk]
 constructor
 ·conv=>lhs;rw [e]
  rw [uright_append,h,ed]
  simp only [uright,hs,List.length_take,Nat.min_eq_left (Nat.le_of_lt hk)]
  omega
 ·conv=>lhs;rw [e]
  rw [uend_append,h,ed]
  simp only [Option.bind_some,uend,hs]
theorem uright_all (s t:St) (bs:List Nat) (h:uend s bs=some t):uright s bs=bs.length:=(uend_iff bs s).1 (by rw [h];rfl)
theorem uend_ok {s t:St} (bs:List Nat) (hs:Ok s) (h:uend s bs=some t):Ok t:=by
 induction bs generalizing s with
 | nil=>injection h with h;subst h;exact hs
 | cons x r ih =>
   simp only [uend] at h
   cases hx:ustep s x with
   | none=>rw [hx] at h;cases h
   | some u=>rw [hx] at h;exact ih (ustep_ok hs hx) h
theorem OkO.en {o:Option St} (h:OkO o) (bs:List Nat):OkO (en o bs):=by
 intro t ht
 cases o with
 | none=>cases ht
 | some s=>exact uend_ok bs (h s rfl) ht
def FR (w:World) (b:Nat) (s:St) (bs:List Nat) (k:Nat) (wr:World):Prop:=∃ t,uend s (bs.take k)=some t∧ChkSt wr b t false∧w.grownBy wr (some b)
theorem globs_grown {w w':World} {b:Nat} (h:Globs w) (hb:4≤b) (hg:w.grownBy w' (some b)):Globs w' :=
 ⟨fun j v hv=>by
  rw [World.cell?_of_block (w:=w) (hg.block 3 (by have:=h.size;omega) (fun e=>by injection e with e;omega))]
  exact h.t j v hv⟩
set_option maxHeartbeats 400000 in
theorem feed_any (b:Nat) (o:Option St) (bs:List Nat) (v:Value) (w:World) (hg:Globs w) (hc:ChkO w b o) (ok:OkO o) (hv:SrcN w b v bs) (hb:4≤b) (hL:bs.length≤100000) :
 Calls Tryz.prog 150 #[.pointer (some ⟨b,0,none⟩),v] w fun e w'=>e=.returned (.int .i64 (rt o bs:Nat))∧ChkO w' b (en o bs)∧w.grownBy w' (some b):=by
 cases o with
 | none =>
   obtain ⟨a,cap,sb,so,rfl,-⟩:=hv
   obtain ⟨n0,n1,l,hc⟩:=hc
   have d3:w.cell? ⟨b,3,none⟩=some (.bool true):=by rw [cell_of_row _ _ _ _ _ _ hc];rfl
   have HC:=Sl.mk hc
   clear hc ok hg
   go_enter Tryz.func150,Tryz.ntmps150
   go_wp2
   go_ret
   exact ⟨rfl,⟨n0,n1,l,HC.out⟩,grown_refl _ _⟩
 | some s =>
   have HV:=Sl.mk hv
   obtain ⟨a,cap,sb,so,rfl,h1,h3,h4,h5⟩:=hv
   have HC:=Sl.mk hc
   obtain ⟨n0,n1,hc,hn⟩:=hc
   have d3:w.cell? ⟨b,3,none⟩=some (.bool false):=by rw [cell_of_row _ _ _ _ _ _ hc];rfl
   have OKS:=Sl.mk (ok s rfl)
   have HG:=Sl.mk hg
   have H3:=Sl.mk h3
   have H4:=Sl.mk h4
   have H5:=Sl.mk h5
   clear hc ok hg h3 h4 h5 hn
   go_enter Tryz.func150,Tryz.ntmps150
   go_wp2
   go_loopw [13] (fun i wr=>∃ k:Nat,k≤bs.length∧i=.int .i64 k∧FR w b s bs k wr) (fun i _=>bs.length-(intOf i).toNat)
   case atStart=>exact ⟨0,by omega,rfl,s,rfl,HC.out,grown_refl _ _⟩
   case round =>
    obtain ⟨k,hk,rfl,t,ht,hct,hgr⟩:=hrel
    have HT:=Sl.mk ht
    have HCT:=Sl.mk hct
    have HGR:=Sl.mk hgr
    clear ht hct hgr
    by_cases hlt:k<bs.length
    ·obtain rfl:=H3.out (by omega)
     obtain ⟨x,hx⟩:∃ x,x=bs.getD k 0:=⟨_,rfl⟩
     have hcell:wr.cell? ⟨sb,so+k,none⟩=some (.int .u8 (x:Int)):=by
      rw [World.cell?_of_block (w:=w) (HGR.out.block sb (block_lt_of_cell (H5.out k hlt)) (fun e=>H4.out (by omega) (by injection e))),hx]
      exact H5.out k hlt
     have HX:=Sl.mk hx
     clear hx
     have HTK:=Sl.mk (take_any b x t false wr (globs_grown HG.out hb HGR.out) HCT.out (ok_le (uend_ok _ OKS.out HT.out)))
     go_wp2_with fail
     refine HTK.out.mono ?_
     intro e w' hto
     cases hto with
     | yes u _ h c g =>
       have H1:Sl (FR w b s bs (k+1) w'):=⟨⟨u,by rw [uend_succ s bs k hlt,HT.out,← HX.out];exact h,c,grown_trans HGR.out g⟩⟩
       clear h c g
       go_wp2
       go_roundw
       case rel=>exact ⟨k+1,by omega,by go_num,H1.out⟩
       case measure=>simp [intOf];omega
     | no _ h g =>
       obtain ⟨q1,q2⟩:=uright_stop s t bs k hlt HT.out (by rw [← HX.out];exact h)
       have Q1:=Sl.mk q1
       have Q2:=Sl.mk q2
       obtain ⟨m0,m1,hm,_⟩:=HCT.out
       have HM:Sl (w'.heap[b]? = some (.cells #[.int .u8 m0,.int .u8 m1,.int .i64 t.1,.bool false] 210 (0,0))):=⟨by
        rw [g.block _ (Array.getElem?_eq_some_iff.1 hm).1];exact hm⟩
       have HGG:Sl (w.grownBy w' (some b)):=⟨grown_trans HGR.out (grown_below g _)⟩
       have d3':w'.cell? ⟨b,3,none⟩=some (.bool false):=by rw [cell_of_row _ _ _ _ _ _ HM.out];rfl
       have f3:w'.frozen? ⟨b,3,none⟩=false:=frozen_of_row _ _ _ _ _ HM.out
       clear h g q1 q2 hm
       go_wp2
       go_ret
       refine ⟨by rw [show rt (some s) bs=k from Q1.out];rfl,?_,grown_trans HGG.out (grown_setCell _ _ _ _)⟩
       rw [show en (some s) bs=none from Q2.out]
       refine ⟨m0,m1,t.1,?_⟩
       show _=_
       rw [heap_setCell_same _ _ _ _ _ _ HM.out]
       rfl
    ·have hge:¬ (k:Int)<(bs.length:Int):=by omega
     have HE:Sl (uend s bs=some t):=⟨by have h:=HT.out;rw [List.take_of_length_le (by omega)] at h;exact h⟩
     go_wp2
     go_ret
     exact ⟨by rw [show rt (some s) bs=bs.length from uright_all s t bs HE.out];rfl,by rw [show en (some s) bs=some t from HE.out];exact HCT.out,HGR.out⟩
end Go.Proofs.YtlahonjmfecikaaGreatDoor.Utf
namespace Go.Proofs.YtlahonjmfecikaaGreatDoor.Utf
open Go.RowKit UtfPlain
theorem below_grow {b:Nat} {w W W':World} (h:Below w.heap.size w W) (g:W.grownBy W' (some b)) (hb:w.heap.size≤b):Below w.heap.size w W' :=
 h.grown g h.size (fun k hk=>by injection hk with hk;omega)
theorem okO0:OkO (some s0):=fun s h=>by injection h with h;exact .inl h.symm
def vb (bs:List Nat):Bool:=decide (uend s0 bs=some s0)
theorem valid_any (bs:List Nat) (v:Value) (w:World) (hg:Globs w) (hv:SrcAt w v bs) (hL:bs.length≤100000) :
 Calls Tryz.prog 122 #[v] w fun e w'=>e=.returned (.bool (vb bs))∧Below w.heap.size w w':=by
 have HG:=Sl.mk hg
 have HV:=Sl.mk hv
 obtain ⟨a,cap,sb,so,rfl,-⟩:=hv
 clear hg
 go_enter Tryz.func122,Tryz.ntmps122
 go_wp2_with fail
 refine (new_any _).mono ?_
 rintro e w1 ⟨rfl,hw1⟩
 have HB1:Sl (Below w.heap.size w w1):=⟨by rw [hw1];exact (Below.refl _ _).alloc (Nat.le_refl _) _⟩
 have HC1:Sl (ChkO w1 w.heap.size (some s0)):=⟨by rw [hw1];exact chk_new w⟩
 have HV1:Sl (SrcN w1 w.heap.size (.slice a bs.length cap) bs):=⟨SrcN.below (HV.out.off (Nat.le_refl _)) HB1.out⟩
 clear hw1
 go_wp2_with fail
 refine (feed_any w.heap.size (some s0) bs _ _ (HG.out.below HB1.out HG.out.size) HC1.out okO0 HV1.out HG.out.size hL).mono ?_
 rintro e w2 ⟨rfl,hc2,hg2⟩
 have HC2:=Sl.mk hc2
 have HB2:Sl (Below w.heap.size w w2):=⟨below_grow HB1.out hg2 (Nat.le_refl _)⟩
 clear hc2 hg2
 go_wp2_with fail
 refine (whole_any w.heap.size _ _ HC2.out (okO0.en bs)).mono ?_
 rintro e w3 ⟨rfl,rfl⟩
 go_wp2
 go_ret
 exact ⟨rfl,HB2.out⟩
structure CR (w w1:World) (wr:World):Prop where
 b:Below w.heap.size w wr
 c:wr.heap[w1.heap.size]? = some (.cells #[.int .u8 128,.int .u8 191] 208 (0,0))
def cb (bs:List Nat):Nat:=if vb bs=true then ucount s0 bs else 0
end Go.Proofs.YtlahonjmfecikaaGreatDoor.Utf
namespace Go.Proofs.YtlahonjmfecikaaGreatDoor.Utf
open Go.RowKit UtfPlain
theorem chk_below {w w':World} {b:Nat} {o:Option St} (h:ChkO w b o) (hb:Below w.heap.size w w'):ChkO w' b o:=by
 cases o with
 | none=>obtain ⟨n0,n1,l,h⟩:=h;exact ⟨n0,n1,l,by show _=_;rw [hb.block _ (Array.getElem?_eq_some_iff.1 h).1];exact h⟩
 | some s=>obtain ⟨n0,n1,h,k⟩:=h;exact ⟨n0,n1,by show _=_;rw [hb.block _ (Array.getElem?_eq_some_iff.1 h).1];exact h,k⟩
theorem chk_lt {w:World} {b:Nat} {o:Option St} (h:ChkO w b o):b<w.heap.size:=by
 cases o with
 | none=>obtain ⟨n0,n1,l,h⟩:=h;exact (Array.getElem?_eq_some_iff.1 h).1
 | some s=>obtain ⟨n0,n1,h,k⟩:=h;exact (Array.getElem?_eq_some_iff.1 h).1
theorem chk_grown {w w':World} {b c:Nat} {o:Option St} (h:ChkO w b o) (hg:w.grownBy w' (some c)) (hne:b≠c):ChkO w' b o:=by
 have hlt:=chk_lt h
 have e:=hg.block b hlt (fun e=>hne (by injection e))
 cases o with
 | none=>obtain ⟨n0,n1,l,h⟩:=h;exact ⟨n0,n1,l,by show _=_;rw [e];exact h⟩
 | some s=>obtain ⟨n0,n1,h,k⟩:=h;exact ⟨n0,n1,by show _=_;rw [e];exact h,k⟩
theorem new_ex (w0 W:World) (hB:Below w0.heap.size w0 W):Calls Tryz.prog 141 #[] W fun e w'=>e=.returned (.pointer (some ⟨W.heap.size,0,none⟩))∧Sl (ChkO w' W.heap.size (some s0))∧Sl (Below W.heap.size W w')∧Sl (Below w0.heap.size w0 w') :=
 (new_any W).mono fun _ _ ⟨he,hw⟩=>⟨he,⟨by rw [hw];exact chk_new W⟩,⟨by rw [hw];exact (Below.refl _ _).alloc (Nat.le_refl _) _⟩,⟨by rw [hw];exact hB.alloc hB.size _⟩⟩
theorem feed_ex (w0 W:World) (b:Nat) (o:Option St) (bs:List Nat) (v:Value) (n:Nat) (hn:rt o bs=n) (h0:w0.heap.size≤b) (hB:Below w0.heap.size w0 W) (hg:Globs w0) (hc:ChkO W b o) (ok:OkO o) (hv:SrcN W b v bs) (hL:bs.length≤100000) :
 Calls Tryz.prog 150 #[.pointer (some ⟨b,0,none⟩),v] W fun e w'=>e=.returned (.int .i64 (n:Int))∧Sl (ChkO w' b (en o bs))∧Sl (W.grownBy w' (some b))∧Sl (Below w0.heap.size w0 w') :=
 (feed_any b o bs v W (hg.below hB hg.size) hc ok hv (by have:=hg.size;omega) hL).mono fun _ _ ⟨he,h1,h2⟩=>⟨by rw [he,hn],⟨h1⟩,⟨h2⟩,⟨below_grow hB h2 h0⟩⟩
theorem right_ex (b:Nat) (o:Option St) (W:World) (r:Bool) (hc:ChkO W b o) (hr:o.isSome=r):Calls Tryz.prog 162 #[.pointer (some ⟨b,0,none⟩)] W fun e w'=>e=.returned (.bool r)∧W=w':=by
 rw [← hr];exact right_any b o W hc
theorem whole_ex (b:Nat) (o:Option St) (W:World) (r:Bool) (hc:ChkO W b o) (ok:OkO o) (hr:decide (o=some s0)=r):Calls Tryz.prog 151 #[.pointer (some ⟨b,0,none⟩)] W fun e w'=>e=.returned (.bool r)∧W=w':=by
 rw [← hr];exact whole_any b o W hc ok
theorem valid_ex (w0 W:World) (bs:List Nat) (v:Value) (r:Bool) (hr:vb bs=r) (hB:Below w0.heap.size w0 W) (hg:Globs w0) (hv:SrcAt W v bs) (hL:bs.length≤100000) :
 Calls Tryz.prog 122 #[v] W fun e w'=>e=.returned (.bool r)∧Sl (Below W.heap.size W w')∧Sl (Below w0.heap.size w0 w') :=
 (valid_any bs v W (hg.below hB hg.size) hv hL).mono fun _ _ ⟨he,h1⟩=>⟨by rw [he,hr],⟨h1⟩,⟨hB.trans (h1.mono hB.size)⟩⟩
end Go.Proofs.YtlahonjmfecikaaGreatDoor.Utf
namespace Go.Proofs.YtlahonjmfecikaaGreatDoor.Utf
open Go.RowKit UtfPlain
end Go.Proofs.YtlahonjmfecikaaGreatDoor.Utf
set_option maxRecDepth 100000
namespace Go.Proofs.YtlahonjmfecikaaGreatDoor.Cls
open Go.RowKit UtfPlain ClosePlain Utf
def btw (lo n hi:Int):Bool:=decide (lo≤n)&&decide (n≤hi)
theorem between_any (lo n hi:Int) (r:Bool) (hr:btw lo n hi=r) (w:World):Calls Tryz.prog 149 #[.int .i64 lo,.int .i64 n,.int .i64 hi] w fun e w'=>e=.returned (.bool r)∧w=w':=by
 subst hr
 unfold btw
 by_cases h1:lo≤n
 ·have e1:(lo≤n)=True:=eq_true h1
  by_cases h2:n≤hi
  ·have e2:(n≤hi)=True:=eq_true h2
   rw [decide_eq_true h1,decide_eq_true h2]
   clear h1 h2
   go_enter Tryz.func149,Tryz.ntmps149
   go_wp2
   go_ret
   exact ⟨rfl,rfl⟩
  ·have e2:(n≤hi)=False:=eq_false h2
   rw [decide_eq_true h1,decide_eq_false h2]
   clear h1 h2
   go_enter Tryz.func149,Tryz.ntmps149
   go_wp2
   go_ret
   exact ⟨rfl,rfl⟩
 ·have e1:(lo≤n)=False:=eq_false h1
  rw [decide_eq_false h1]
  clear h1
  go_enter Tryz.func149,Tryz.ntmps149
  go_wp2
  go_ret
  exact ⟨rfl,rfl⟩
theorem cell_of_one {W:World} {g:Nat} {v:Value} {t:TypeId} (h:W.heap[g]? = some (.cells #[v] t (0,0))):W.cell? ⟨g,0,none⟩=some v:=by rw [cell_of_row _ _ _ _ _ _ h];rfl
theorem from_any (lo n hi:Int) (C:Nat) (r:Bool) (hr:btw lo n hi=r) (W:World) (hC:W.heap[C]? = some (.cells #[.int .i64 n] 3 (0,0))) :
 Calls Tryz.prog 148 #[.int .i64 lo,.int .i64 hi,.pointer (some ⟨C,0,none⟩)] W fun e w'=>e=.returned (.bool r)∧W=w':=by
 have hc:=cell_of_one hC
 have B:=between_any lo n hi r hr W
 clear hr hC
 go_enter Tryz.func148,Tryz.ntmps148
 go_wp2_with fail
 refine B.mono ?_
 rintro e w1 ⟨rfl,rfl⟩
 go_wp2
 go_ret
 exact ⟨rfl,rfl⟩
theorem valid_btw (n:Int):valid n=(btw 1000 n 1003||(btw 1007 n 1011||btw 3000 n 4999)):=rfl
theorem codeValid_any (n:Int) (w:World):Calls Tryz.prog 121 #[.int .i64 n] w fun e w'=>e=.returned (.bool (valid n))∧Sl (Below w.heap.size w w'):=by
 rw [valid_btw]
 obtain ⟨a,ha⟩:∃ x,btw 1000 n 1003=x:=⟨_,rfl⟩
 obtain ⟨b,hb⟩:∃ x,btw 1007 n 1011=x:=⟨_,rfl⟩
 obtain ⟨c,hc⟩:∃ x,btw 3000 n 4999=x:=⟨_,rfl⟩
 rw [ha,hb,hc]
 obtain ⟨wa,hwa⟩:∃ w1,w.alloc (.cells #[.int .i64 n] 3)=w1:=⟨_,rfl⟩
 have HB:Sl (Below w.heap.size w wa):=⟨by rw [← hwa];exact (Below.refl _ _).alloc (Nat.le_refl _) _⟩
 have F1:=from_any 1000 n 1003 w.heap.size a ha wa (by rw [← hwa];exact alloc_new _ _ _ rfl)
 have F2:=from_any 1007 n 1011 w.heap.size b hb wa (by rw [← hwa];exact alloc_new _ _ _ rfl)
 have F3:=from_any 3000 n 4999 w.heap.size c hc wa (by rw [← hwa];exact alloc_new _ _ _ rfl)
 clear ha hb hc
 cases a with
 | true =>
   go_enter Tryz.func121,Tryz.ntmps121
   go_wp2_with fail
   refine F1.mono ?_
   rintro e w1 ⟨rfl,rfl⟩
   clear F1 F2 F3
   go_wp2
   go_ret
   exact ⟨rfl,HB⟩
 | false =>
   cases b with
   | true =>
     go_enter Tryz.func121,Tryz.ntmps121
     go_wp2_with fail
     refine F1.mono ?_
     rintro e w1 ⟨rfl,rfl⟩
     go_wp2_with fail
     refine F2.mono ?_
     rintro e w1 ⟨rfl,rfl⟩
     clear F1 F2 F3
     go_wp2
     go_ret
     exact ⟨rfl,HB⟩
   | false =>
     go_enter Tryz.func121,Tryz.ntmps121
     go_wp2_with fail
     refine F1.mono ?_
     rintro e w1 ⟨rfl,rfl⟩
     go_wp2_with fail
     refine F2.mono ?_
     rintro e w1 ⟨rfl,rfl⟩
     go_wp2_with fail
     refine F3.mono ?_
     rintro e w1 ⟨rfl,rfl⟩
     clear F1 F2 F3
     go_wp2
     go_ret
     exact ⟨rfl,HB⟩
end Go.Proofs.YtlahonjmfecikaaGreatDoor.Cls
set_option maxRecDepth 100000
namespace Go.Proofs.YtlahonjmfecikaaGreatDoor.Cls
open Go.RowKit UtfPlain ClosePlain Utf
def IntsAt (W:World) (g:Nat) (l:List Int):Prop:=W.heap[g]? = some (.cells (l.map (Value.int .i64)).toArray 31 (0,0))
theorem IntsAt.cell {W:World} {g:Nat} {l:List Int} (h:IntsAt W g l) (k:Nat) (hk:k<l.length):W.cell? ⟨g,k,none⟩=some (.int .i64 (l.getD k 0)):=by
 rw [cell_of_row _ _ _ _ _ _ h]
 rw [List.getElem?_toArray,List.getElem?_map,List.getElem?_eq_getElem hk,List.getD_eq_getElem?_getD,List.getElem?_eq_getElem hk]
 rfl
theorem index_any (l:List Int) (e:Int) (g:Nat) (w:World) (hg:IntsAt w g l) (n:Nat) (hn:l.length=n) (hm:n≤1000) :
 Calls Tryz.prog 144 #[.slice (some ⟨g,0,none⟩) n n,.int .i64 e] w fun en w'=>(∃ r:Int,en=.returned (.int .i64 r)∧decide (r≥0)=decide (e∈l))∧w=w':=by
 have HG:=Sl.mk hg
 have HN:=Sl.mk hn
 clear hg hn
 go_enter Tryz.func144,Tryz.ntmps144
 go_wp2
 go_loopw [8] (fun i wr=>∃ k:Nat,i=.int .i64 (k:Int)∧k≤n∧wr=w∧Sl (e∉l.take k)) (fun i _=>n-(intOf i).toNat)
 case atStart=>exact ⟨0,rfl,Nat.zero_le _,rfl,⟨by simp⟩⟩
 case round =>
  obtain ⟨k,rfl,hk,rfl,HT⟩:=hrel
  by_cases hkn:k<n
  ·have hlt:((k:Int)<(n:Int))=True:=eq_true (by omega)
   have hc:=HG.out.cell k (by rw [HN.out];exact hkn)
   have hlk:l[k]? = some (l.getD k 0):=by rw [List.getD_eq_getElem?_getD,List.getElem?_eq_getElem (by rw [HN.out];exact hkn)];rfl
   have HLK:=Sl.mk hlk
   clear hlk
   obtain ⟨x,hx⟩:∃ x,l.getD k 0=x:=⟨_,rfl⟩
   rw [hx] at hc HLK
   clear hx
   by_cases hex:e=x
   ·have hq:(e==x)=true:=by rw [hex];exact beq_self_eq_true _
    have HR:Sl (decide ((k:Int)≥0)=decide (e∈l)):=⟨by
     rw [decide_eq_true (by omega),decide_eq_true]
     rw [hex];exact List.mem_of_getElem? HLK.out⟩
    clear hex
    go_wp2
    go_ret
    exact ⟨⟨_,rfl,HR.out⟩,rfl⟩
   ·have hq:(e==x)=false:=beq_eq_false_iff_ne.2 hex
    have HT':Sl (e∉l.take (k+1)):=⟨by
     rw [List.take_add_one,HLK.out]
     simp only [Option.toList_some,List.mem_append,List.mem_singleton]
     exact fun h=>h.elim HT.out hex⟩
    clear hex
    go_wp2
    exact ⟨⟨k+1,by go_num,by omega,trivial,HT'⟩,by simp [intOf];omega⟩
  ·obtain rfl:k=n:=by omega
   have hlt:((k:Int)<(k:Int))=False:=eq_false (by omega)
   have HR:Sl (decide ((-1:Int)≥0)=decide (e∈l)):=⟨by
    have h:=HT.out
    rw [List.take_of_length_le (by rw [HN.out];exact Nat.le_refl _)] at h
    rw [decide_eq_false h];rfl⟩
   go_wp2
   go_ret
   exact ⟨⟨_,rfl,HR.out⟩,rfl⟩
theorem contains_any (l:List Int) (e:Int) (g:Nat) (w:World) (hg:IntsAt w g l) (n:Nat) (hn:l.length=n) (hm:n≤1000) (d:Bool) (hd:decide (e∈l)=d) :
 Calls Tryz.prog 117 #[.slice (some ⟨g,0,none⟩) n n,.int .i64 e] w fun en w'=>en=.returned (.bool d)∧w=w':=by
 have I:=index_any l e g w hg n hn hm
 rw [hd] at I
 clear hg hn hm hd
 go_enter Tryz.func117,Tryz.ntmps117
 go_wp2_with fail
 refine I.mono ?_
 rintro en w1 ⟨⟨r,rfl,hr⟩,rfl⟩
 clear I
 go_wp2
 go_ret
 exact ⟨rfl,rfl⟩
theorem is_any (l:List Int) (e:Int) (g C:Nat) (w:World) (hg:IntsAt w g l) (hC:w.heap[C]? = some (.cells #[.int .i64 e] 31 (0,0))) (n:Nat) (hn:l.length=n) (hm:n≤1000) (d:Bool) (hd:decide (e∈l)=d) :
 Calls Tryz.prog 116 #[.slice (some ⟨g,0,none⟩) n n,.pointer (some ⟨C,0,none⟩)] w fun en w'=>en=.returned (.bool d)∧w=w':=by
 have I:=contains_any l e g w hg n hn hm d hd
 have hc:=cell_of_one hC
 clear hg hn hm hd hC
 go_enter Tryz.func116,Tryz.ntmps116
 go_wp2_with fail
 refine I.mono ?_
 rintro en w1 ⟨rfl,rfl⟩
 clear I
 go_wp2
 go_ret
 exact ⟨rfl,rfl⟩
theorem codeC_in (e:Int):codeC e=if decide (e∈[0])=true then 1000 else if decide (e∈[91,100,110,120])=true then 1002 else if decide (e∈[111,122])=true then 1007 else if decide (e∈[92,121])=true then 1009 else 1011:=by
 unfold codeC
 simp only [decide_eq_true_eq,List.mem_cons,List.not_mem_nil,or_false]
theorem code_any (e:Int) (w:World):Calls Tryz.prog 87 #[.int .i64 e] w fun en w'=>en=.returned (.int .i64 (codeC e))∧Sl (Below w.heap.size w w'):=by
 rw [codeC_in]
 obtain ⟨a,ha⟩:∃ x,decide (e∈[0])=x:=⟨_,rfl⟩
 obtain ⟨b,hb⟩:∃ x,decide (e∈[91,100,110,120])=x:=⟨_,rfl⟩
 obtain ⟨c,hc⟩:∃ x,decide (e∈[111,122])=x:=⟨_,rfl⟩
 obtain ⟨d,hd⟩:∃ x,decide (e∈[92,121])=x:=⟨_,rfl⟩
 rw [ha,hb,hc,hd]
 obtain ⟨wa,hwa⟩:∃ w1,w.alloc (.cells #[.int .i64 e] 31)=w1:=⟨_,rfl⟩
 obtain ⟨wb,hwb⟩:∃ w1,wa.alloc (.cells #[.int .i64 0] 31)=w1:=⟨_,rfl⟩
 obtain ⟨wc,hwc⟩:∃ w1,wb.alloc (.cells #[.int .i64 91,.int .i64 100,.int .i64 110,.int .i64 120] 31)=w1:=⟨_,rfl⟩
 obtain ⟨wd,hwd⟩:∃ w1,wc.alloc (.cells #[.int .i64 111,.int .i64 122] 31)=w1:=⟨_,rfl⟩
 obtain ⟨we,hwe⟩:∃ w1,wd.alloc (.cells #[.int .i64 92,.int .i64 121] 31)=w1:=⟨_,rfl⟩
 have ba:Below w.heap.size w wa:=by rw [← hwa];exact (Below.refl _ _).alloc (Nat.le_refl _) _
 have ca:wa.heap[w.heap.size]? = some (.cells #[.int .i64 e] 31 (0,0)):=by rw [← hwa];exact alloc_new _ _ _ rfl
 have step:∀ (W:World) (o:Obj) (W2:World),W.alloc o=W2→Below w.heap.size w W→W.heap[w.heap.size]? = some (.cells #[.int .i64 e] 31 (0,0))→Below w.heap.size w W2∧W2.heap[w.heap.size]? = some (.cells #[.int .i64 e] 31 (0,0)):=fun W o W2 h h1 h2=>by
  subst h
  exact ⟨h1.alloc h1.size _,by rw [alloc_old _ _ _ (Array.getElem?_eq_some_iff.1 h2).1];exact h2⟩
 obtain ⟨bb,cb⟩:=step _ _ _ hwb ba ca
 obtain ⟨bc,cc⟩:=step _ _ _ hwc bb cb
 obtain ⟨bd,cd⟩:=step _ _ _ hwd bc cc
 obtain ⟨be,ce⟩:=step _ _ _ hwe bd cd
 have F1:=is_any [0] e wa.heap.size w.heap.size wb (by rw [← hwb];exact alloc_new _ _ _ rfl) cb 1 rfl (by decide) a ha
 have F2:=is_any [91,100,110,120] e wb.heap.size w.heap.size wc (by rw [← hwc];exact alloc_new _ _ _ rfl) cc 4 rfl (by decide) b hb
 have F3:=is_any [111,122] e wc.heap.size w.heap.size wd (by rw [← hwd];exact alloc_new _ _ _ rfl) cd 2 rfl (by decide) c hc
 have F4:=is_any [92,121] e wd.heap.size w.heap.size we (by rw [← hwe];exact alloc_new _ _ _ rfl) ce 2 rfl (by decide) d hd
 have HB:=Sl.mk bb
 have HC:=Sl.mk bc
 have HD:=Sl.mk bd
 have HE:=Sl.mk be
 clear ha hb hc hd ba ca step bb cb bc cc bd cd be ce
 go_enter Tryz.func87,Tryz.ntmps87
 go_wp2_with fail
 refine F1.mono ?_
 rintro en w1 ⟨rfl,rfl⟩
 clear F1
 cases a with
 | true =>
   go_wp2
   go_ret
   exact ⟨rfl,HB⟩
 | false =>
   go_wp2_with fail
   refine F2.mono ?_
   rintro en w1 ⟨rfl,rfl⟩
   clear F2
   cases b with
   | true =>
     go_wp2
     go_ret
     exact ⟨rfl,HC⟩
   | false =>
     go_wp2_with fail
     refine F3.mono ?_
     rintro en w1 ⟨rfl,rfl⟩
     clear F3
     cases c with
     | true =>
       go_wp2
       go_ret
       exact ⟨rfl,HD⟩
     | false =>
       go_wp2_with fail
       refine F4.mono ?_
       rintro en w1 ⟨rfl,rfl⟩
       clear F4
       cases d with
       | true =>
         go_wp2
         go_ret
         exact ⟨rfl,HE⟩
       | false =>
         go_wp2
         go_ret
         exact ⟨rfl,HE⟩
end Go.Proofs.YtlahonjmfecikaaGreatDoor.Cls
set_option maxRecDepth 100000
namespace Go.Proofs.YtlahonjmfecikaaGreatDoor.Cls
open Go.RowKit UtfPlain ClosePlain Utf
theorem size_zero {s:ByteArray} (h:s.size=0):s={data:=#[]}:=ByteArray.ext (Array.eq_empty_of_size_eq_zero h)
theorem newClone_any (s:ByteArray) (w:World) (hm:s.size≤1000000):Calls Tryz.prog 91 #[.string s] w fun e w'=>e=.returned (.string s)∧Sl (Below w.heap.size w w'):=by
 by_cases h0:s.size=0
 ·obtain rfl:=size_zero h0
  clear h0 hm
  go_enter Tryz.func91,Tryz.ntmps91
  go_wp2
  go_ret
  exact ⟨rfl,⟨Below.refl _ _⟩⟩
 ·have hq:(((s.size:Nat):Int)==0)=false:=beq_eq_false_iff_ne.2 (by omega)
  have hi5:(Tryz.prog.info? 5).map (·.size)=some 1:=size5
  have hc5:Tryz.prog.cellsOf 5=1:=by kernel_rfl
  have mk:=make_u8 (s.size:Int) s.size rfl hm
  obtain ⟨M,hM⟩:∃ M,(u8s (zs s.size)).toArray=M:=⟨_,rfl⟩
  rw [hM] at mk
  have hMs:M.size=s.size:=by rw [← hM,List.size_toArray,u8s_length];simp [zs]
  obtain ⟨wa,hwa⟩:∃ w1,w.alloc (.cells M 5)=w1:=⟨_,rfl⟩
  have ha:wa.heap[w.heap.size]? = some (.cells M 5 (0,0)):=by rw [← hwa];exact alloc_new _ _ _ rfl
  have hmk:(Instr.makeSlice 49 (.int .i64 (s.size:Int)) (.int .i64 (s.size:Int))).run Tryz.prog w=.ok (.slice (some ⟨w.heap.size,0,none⟩) s.size s.size) wa:=by rw [← hwa];exact mk w
  have hcp:=Lib.run_copy_row_string (P:=Tryz.prog) wa 49 9 3 5 w.heap.size 0 s.size s.size s M 5 Tryz.underlying49 hi5 ha (Nat.le_refl _) (by omega)
  rw [List.take_zero,List.nil_append,List.drop_of_length_le (by rw [Array.length_toList];omega),List.append_nil] at hcp
  obtain ⟨wb,hwb⟩:∃ w1,wa.setRow w.heap.size (Lib.byteCells s.data.toList).toArray=w1:=⟨_,rfl⟩
  rw [hwb] at hcp
  have hb:wb.heap[w.heap.size]? = some (.cells (Lib.byteCells s.data.toList).toArray 5 (0,0)):=by rw [← hwb];exact setRow_heap _ _ M _ 5 (0,0) ha
  have hne:s.data.toList≠[]:=fun e=>h0 (by rw [Lib.size_eq,e];rfl)
  have hus:=Lib.run_unsafeString_row (P:=Tryz.prog) wb 176 3 9 5 Tryz.underlying176 hc5 w.heap.size s.size (by unfold World.shape?;rw [hb];simp [Lib.byteCells_length]) s.data.toList hne (by rw [← Lib.size_eq];omega) (by rw [← Lib.size_eq];omega)
   (fun j x hx=>by
    rw [Addr.add_mid,Nat.zero_add,cell_of_row _ _ _ _ _ _ hb,List.getElem?_toArray]
    simp [Lib.byteCells,hx])
  rw [← Lib.size_eq] at hus
  have HB:Sl (Below w.heap.size w (wb.freeze ⟨w.heap.size,0,none⟩ s.size)):=⟨by
   refine Lib.below_freeze (p:=⟨w.heap.size,0,none⟩) ?_ (Nat.le_refl _) _
   have h1:Below w.heap.size w wa:=by rw [← hwa];exact (Below.refl _ _).alloc (Nat.le_refl _) _
   refine h1.trans ?_
   rw [← hwb]
   exact ⟨rfl,rfl,rfl,by simp,fun k hk=>setRow_other _ _ _ _ (by omega)⟩⟩
  clear hwa hwb ha hb hM hMs mk hne
  go_enter Tryz.func91,Tryz.ntmps91
  go_wp2
  go_ret
  exact ⟨rfl,HB⟩
theorem clone_any (s:ByteArray) (w:World) (hm:s.size≤1000000):Calls Tryz.prog 59 #[.string s] w fun e w'=>e=.returned (.string s)∧Sl (Below w.heap.size w w'):=by
 have C:=newClone_any s w hm
 clear hm
 go_enter Tryz.func59,Tryz.ntmps59
 go_wp2_with fail
 refine C.mono ?_
 rintro e w1 ⟨rfl,HB⟩
 clear C
 go_wp2
 go_ret
 exact ⟨rfl,HB⟩
def chkE (n:Int) (l:List Nat):Nat:=if valid n=false∨123<l.length then 110 else if ClosePlain.lets l=false then 111 else 0
theorem lets_vb (l:List Nat):ClosePlain.lets l=vb l:=rfl
theorem check_any (n:Int) (s:ByteArray) (w:World) (hg:Globs w):Calls Tryz.prog 92 #[.int .i64 n,.string s] w fun e w'=>e=.returned (.int .i64 (chkE n (bytes s):Nat))∧Sl (Below w.heap.size w w'):=by
 have HG:=Sl.mk hg
 have V:=codeValid_any n w
 unfold chkE
 rw [bytes_length,lets_vb]
 obtain ⟨r,hr⟩:∃ r,valid n=r:=⟨_,rfl⟩
 rw [hr] at V ⊢
 clear hr hg
 cases r with
 | false =>
   rw [if_pos (.inl rfl)]
   go_enter Tryz.func92,Tryz.ntmps92
   go_wp2_with fail
   refine V.mono ?_
   rintro e w1 ⟨rfl,HB⟩
   clear V
   go_wp2
   go_ret
   exact ⟨rfl,HB⟩
 | true =>
   by_cases hs:s.size>123
   ·have hq:((s.size:Int)>123)=True:=eq_true (by omega)
    rw [if_pos (.inr hs)]
    clear hs
    go_enter Tryz.func92,Tryz.ntmps92
    go_wp2_with fail
    refine V.mono ?_
    rintro e w1 ⟨rfl,HB⟩
    clear V
    go_wp2
    go_ret
    exact ⟨rfl,HB⟩
   ·have hq:((s.size:Int)>123)=False:=eq_false (by omega)
    rw [if_neg (by rintro (h | h);cases h;exact hs h)]
    have LB:Sl ((bytes s).length≤100000):=⟨by rw [bytes_length];omega⟩
    obtain ⟨d,hd⟩:∃ d,vb (bytes s)=d:=⟨_,rfl⟩
    have HD:=Sl.mk hd
    rw [hd]
    clear hs hd
    cases d with
    | true =>
      go_enter Tryz.func92,Tryz.ntmps92
      go_wp2_with fail
      refine V.mono ?_
      rintro e w1 ⟨rfl,HB⟩
      clear V
      obtain ⟨c2,w2,hc2,HV2,HX2⟩:=conv_str s w1
      have HB2:Sl (Below w.heap.size w w2):=⟨HB.out.trans (HX2.out.mono HB.out.size)⟩
      go_wp2_with fail
      refine (valid_ex w w2 (bytes s) _ _ HD.out HB2.out HG.out HV2.out LB.out).mono ?_
      rintro e w3 ⟨rfl,HX3,HB3⟩
      clear hc2
      go_wp2
      go_ret
      exact ⟨rfl,HB3⟩
    | false =>
      go_enter Tryz.func92,Tryz.ntmps92
      go_wp2_with fail
      refine V.mono ?_
      rintro e w1 ⟨rfl,HB⟩
      clear V
      obtain ⟨c2,w2,hc2,HV2,HX2⟩:=conv_str s w1
      have HB2:Sl (Below w.heap.size w w2):=⟨HB.out.trans (HX2.out.mono HB.out.size)⟩
      go_wp2_with fail
      refine (valid_ex w w2 (bytes s) _ _ HD.out HB2.out HG.out HV2.out LB.out).mono ?_
      rintro e w3 ⟨rfl,HX3,HB3⟩
      clear hc2
      go_wp2
      go_ret
      exact ⟨rfl,HB3⟩
end Go.Proofs.YtlahonjmfecikaaGreatDoor.Cls
set_option maxRecDepth 100000
namespace Go.Proofs.YtlahonjmfecikaaGreatDoor.Cls
open Go.RowKit UtfPlain ClosePlain Utf
theorem nil_size {s:ByteArray} (h:bytes s=[]):s.size=0:=by rw [← bytes_length,h];rfl
theorem empty_no {s:ByteArray} (h:s.size≠0):(s.toList==[])=false:=by
 rw [beq_bytes,decide_eq_false]
 intro e
 exact h (by rw [← bytes_length,e];rfl)
theorem put_chk {n:Int} {l:List Nat} (h:¬ (n=0∧l=[])):putC n l=if chkE n l=0 then (two n.toNat++l,0) else ([],chkE n l):=by
 unfold putC chkE
 rw [if_neg h]
 by_cases h1:valid n=false∨123<l.length
 ·rw [if_pos h1,if_pos h1];rfl
 rw [if_neg h1,if_neg h1]
 by_cases h2:ClosePlain.lets l=false
 ·rw [if_pos h2,if_pos h2];rfl
 ·rw [if_neg h2,if_neg h2];rfl
theorem chk_zero {n:Int} {l:List Nat} (h:chkE n l=0):valid n=true∧l.length≤123∧ClosePlain.lets l=true:=by
 unfold chkE at h
 by_cases h1:valid n=false∨123<l.length
 ·rw [if_pos h1] at h;cases h
 rw [if_neg h1] at h
 by_cases h2:ClosePlain.lets l=false
 ·rw [if_pos h2] at h;cases h
 ·exact ⟨by by_cases hv:valid n=true;exact hv;exact absurd (.inl (by simpa using hv)) h1,by omega,by simpa using h2⟩
theorem put_any (n:Int) (s:ByteArray) (w:World) (hg:Globs w):Calls Tryz.prog 60 #[.int .i64 n,.string s] w fun e w'=>e=.returned (.tuple #[.string (strOf (putC n (bytes s)).1),.int .i64 ((putC n (bytes s)).2:Nat)])∧Sl (Below w.heap.size w w'):=by
 by_cases h0:n=0∧s.size=0
 ·obtain ⟨rfl,h0⟩:=h0
  obtain rfl:=size_zero h0
  go_enter Tryz.func60,Tryz.ntmps60
  go_wp2
  go_ret2
  exact ⟨rfl,⟨Below.refl _ _⟩⟩
 rw [put_chk (fun h=>h0 ⟨h.1,nil_size h.2⟩)]
 have CH:=check_any n s w hg
 obtain ⟨k,hk⟩:∃ k,chkE n (bytes s)=k:=⟨_,rfl⟩
 rw [hk] at CH ⊢
 have hsp:((n==0)=false)∨((n==0)=true∧(s.toList==[])=false):=by
  by_cases hn:n=0
  ·exact .inr ⟨by rw [hn];rfl,empty_no (fun h=>h0 ⟨hn,h⟩)⟩
  ·exact .inl (beq_eq_false_iff_ne.2 hn)
 by_cases hk0:k=0
 ·subst hk0
  obtain ⟨hv,hl,ht⟩:=chk_zero hk
  have hp:=valid_pos hv
  rw [bytes_length] at hl
  obtain ⟨N,rfl⟩:=Int.eq_ofNat_of_zero_le (show 0≤n by omega)
  rw [if_pos rfl]
  have hN:N<65536:=by omega
  obtain ⟨hi,hhi⟩:∃ x,N / 256=x:=⟨_,rfl⟩
  obtain ⟨lo,hlo⟩:∃ x,N % 256=x:=⟨_,rfl⟩
  have e1:(N:Int) / 256=(hi:Int):=by omega
  have e2:IntKind.u8.wrap (hi:Int)=(hi:Int):=by rw [IntKind.wrap_u8'];omega
  have e3:IntKind.u8.wrap (N:Int)=(lo:Int):=by rw [IntKind.wrap_u8'];omega
  have HK:Sl (two ((N:Int)).toNat++bytes s=bytes (strOf [hi,lo]++s)):=⟨by
   rw [bytes_append,bytes_strOf _ (fun x hx=>by simp at hx;omega),show ((N:Int)).toNat=N from rfl,two,hhi,hlo]⟩
  rw [HK.out,strOf_bytes]
  have HZ:Sl ((strOf [hi,lo]).size+s.size≤1000):=⟨by rw [strOf_size];simp;omega⟩
  clear hk hv hl ht hhi hlo hN
  rcases hsp with hq | ⟨hq,hq2⟩
  ·clear h0 hp
   go_enter Tryz.func60,Tryz.ntmps60
   go_wp2_with fail
   refine CH.mono ?_
   rintro e w1 ⟨rfl,HB⟩
   clear CH
   have hst:=RowB.strs (bs:=[hi,lo]) (k:=2) rfl (w1.alloc (.cells #[.int .u8 hi,.int .u8 lo] 5)) (g:=w1.heap.size) (alloc_new _ _ _ rfl)
   have HB2:Sl (Below w.heap.size w (w1.alloc (.cells #[.int .u8 hi,.int .u8 lo] 5))):=⟨HB.out.alloc HB.out.size _⟩
   go_wp2
   ·exfalso
    have:=HZ.out
    omega
   go_ret2
   exact ⟨rfl,HB2⟩
  ·exfalso
   have h1:N=0:=by simpa using hq
   omega
 ·rw [if_neg hk0,show strOf []={data:=#[]} from rfl]
  have hkq:((k:Int)==0)=false:=beq_eq_false_iff_ne.2 (by omega)
  clear hk hk0 h0
  rcases hsp with hq | ⟨hq,hq2⟩
  ·go_enter Tryz.func60,Tryz.ntmps60
   go_wp2_with fail
   refine CH.mono ?_
   rintro e w1 ⟨rfl,HB⟩
   clear CH
   go_wp2
   go_ret2
   exact ⟨rfl,HB⟩
  ·go_enter Tryz.func60,Tryz.ntmps60
   go_wp2_with fail
   refine CH.mono ?_
   rintro e w1 ⟨rfl,HB⟩
   clear CH
   go_wp2
   go_ret2
   exact ⟨rfl,HB⟩
end Go.Proofs.YtlahonjmfecikaaGreatDoor.Cls
set_option maxRecDepth 100000
namespace Go.Proofs.YtlahonjmfecikaaGreatDoor.Cls
open Go.RowKit UtfPlain ClosePlain Utf
theorem or_two (x y:Nat) (hx:x<256) (hy:y<256):bits .or .i64 ((256*x:Nat):Int) (y:Int)=((256*x+y:Nat):Int):=by
 have h:256*x|||y=256*x+y:=nat_join 8 (256*x) y (by omega) (by omega)
 show IntKind.i64.wrap ((BitVec.ofInt 64 ((256*x:Nat):Int)|||BitVec.ofInt 64 (y:Int)).toNat:Int)=_
 rw [BitVec.toNat_or,ofInt_u64 _ (by omega),ofInt_u64 _ (by omega),h,IntKind.wrap_i64]
 omega
theorem get_chk (x y:Nat) (l:List Nat):getC (x :: y :: l)=if chkE ((256*x+y:Nat):Int) l=0 then (((256*x+y:Nat):Int),l,0) else (0,[],chkE ((256*x+y:Nat):Int) l):=by
 rw [getC_two]
 by_cases h1:123<l.length∨valid ((256*x+y:Nat):Int)=false
 ·rw [if_pos h1,show chkE ((256*x+y:Nat):Int) l=110 from if_pos h1.symm];rfl
 have n1:¬ (valid ((256*x+y:Nat):Int)=false∨123<l.length):=fun h=>h1 h.symm
 rw [if_neg h1]
 by_cases h2:ClosePlain.lets l=false
 ·rw [if_pos h2,show chkE ((256*x+y:Nat):Int) l=111 from by unfold chkE;rw [if_neg n1,if_pos h2]];rfl
 ·rw [if_neg h2,show chkE ((256*x+y:Nat):Int) l=0 from by unfold chkE;rw [if_neg n1,if_neg h2]];rfl
def gotV (r:Int×List Nat×Nat):Value:=.tuple #[.int .i64 r.1,.string (strOf r.2.1),.int .i64 (r.2.2:Nat)]
theorem two_bytes {s:ByteArray} (h:2≤s.size):∃ x y,bytes s=x :: y :: bytes (s.extract 2 s.size)∧x<256∧y<256∧(s[0]'(by omega)).toNat=x∧(s[1]'(by omega)).toNat=y:=by
 have he:bytes (s.extract 2 s.size)=(bytes s).drop 2:=by
  rw [bytes_extract,List.take_of_length_le (by rw [bytes_length];exact Nat.le_refl _)]
 have hs:=bytes_small s
 have g0:=bytes_getD s 0 (by omega)
 have g1:=bytes_getD s 1 (by omega)
 have hl:=bytes_length s
 rw [he]
 match hb:bytes s with
 | []=>rw [hb] at hl;simp at hl;omega
 | [_]=>rw [hb] at hl;simp at hl;omega
 | x :: y :: r =>
   rw [hb] at hs g0 g1
   exact ⟨x,y,rfl,hs x (by simp),hs y (by simp),g0.symm,g1.symm⟩
theorem get_any (s:ByteArray) (w:World) (hg:Globs w) (hm:s.size≤1000000):Calls Tryz.prog 139 #[.string s] w fun e w'=>e=.returned (gotV (getC (bytes s)))∧Sl (Below w.heap.size w w'):=by
 by_cases h0:s.size=0
 ·obtain rfl:=size_zero h0
  clear h0 hm
  go_enter Tryz.func139,Tryz.ntmps139
  go_wp2
  go_ret3
  exact ⟨rfl,⟨Below.refl _ _⟩⟩
 have hse:=empty_no h0
 by_cases h1:s.size<2
 ·have hq:((s.size:Int)<2)=True:=eq_true (by omega)
  have HR:Sl (getC (bytes s)=(0,[],110)):=⟨by
   have:=bytes_length s
   match hb:bytes s with
   | []=>rw [hb] at this;simp at this;omega
   | [_]=>rfl
   | _ :: _ :: _=>rw [hb] at this;simp at this;omega⟩
  clear h0 h1 hm
  go_enter Tryz.func139,Tryz.ntmps139
  go_wp2
  go_ret3
  exact ⟨by rw [HR.out];rfl,⟨Below.refl _ _⟩⟩
 have hq:((s.size:Int)<2)=False:=eq_false (by omega)
 obtain ⟨x,y,hb,hx,hy,hx0,hy0⟩:=two_bytes (s:=s) (by omega)
 have h0s:0<s.size:=by omega
 have h1s:1<s.size:=by omega
 have hi0:(s[0]'h0s).toNat=x:=hx0
 have hi1:(s[1]'h1s).toNat=y:=hy0
 clear hx0 hy0
 obtain ⟨t,ht⟩:∃ t,s.extract 2 s.size=t:=⟨_,rfl⟩
 have htm:t.size≤1000000:=by rw [← ht,ByteArray.size_extract];omega
 rw [ht] at hb
 rw [hb,get_chk]
 obtain ⟨X,hX⟩:∃ X,256*x=X:=⟨_,rfl⟩
 have e1:(x:Int)*256=(X:Int):=by omega
 obtain ⟨K,hK⟩:∃ K,256*x+y=K:=⟨_,rfl⟩
 have e2:bits .or .i64 (X:Int) (y:Int)=(K:Int):=by rw [← hX,← hK];exact or_two x y hx hy
 have BD:Below w.heap.size w w.drew:=(Below.refl _ _).drew
 have CH:=check_any (K:Int) t w.drew (hg.below BD hg.size)
 have HD:=Sl.mk BD
 clear BD
 rw [hK]
 obtain ⟨k,hk⟩:∃ k,chkE (K:Int) (bytes t)=k:=⟨_,rfl⟩
 rw [hk] at CH ⊢
 have hXs:X<65536:=by omega
 have z1:IntKind.i64.wrap (x:Int)=(x:Int):=by rw [IntKind.wrap_i64];omega
 have z2:IntKind.i64.wrap (y:Int)=(y:Int):=by rw [IntKind.wrap_i64];omega
 have z3:IntKind.i64.wrap (X:Int)=(X:Int):=by rw [IntKind.wrap_i64];omega
 have k1:((1:Int)<(s.size:Int))=True:=eq_true (by omega)
 have k2:((2:Int)≤(s.size:Int))=True:=eq_true (by omega)
 have HM:=Sl.mk htm
 clear hb hX hK hx hy hk htm h1 h0 hm hg
 by_cases hk0:k=0
 ·subst hk0
  rw [if_pos rfl,gotV,strOf_bytes]
  go_enter Tryz.func139,Tryz.ntmps139
  go_upto_region 5 with fail
  go_still (by kernel_rfl)
  go_wp2_with fail
  refine CH.mono ?_
  rintro e w1 ⟨rfl,HX⟩
  have HB:Sl (Below w.heap.size w w1):=⟨HD.out.trans HX.out⟩
  clear CH HX
  have CL:=clone_any t w1 HM.out
  go_wp2_with fail
  refine CL.mono ?_
  rintro e w2 ⟨rfl,HB2⟩
  clear CL
  go_wp2
  go_ret3
  exact ⟨rfl,⟨HB.out.trans (HB2.out.mono HB.out.size)⟩⟩
 ·rw [if_neg hk0,gotV,show strOf []={data:=#[]} from rfl]
  have hkq:((k:Int)==0)=false:=beq_eq_false_iff_ne.2 (by omega)
  clear hk0
  go_enter Tryz.func139,Tryz.ntmps139
  go_upto_region 5 with fail
  go_still (by kernel_rfl)
  go_wp2_with fail
  refine CH.mono ?_
  rintro e w1 ⟨rfl,HX⟩
  have HB:Sl (Below w.heap.size w w1):=⟨HD.out.trans HX.out⟩
  clear CH HX
  go_wp2
  go_ret3
  exact ⟨rfl,HB⟩
end Go.Proofs.YtlahonjmfecikaaGreatDoor.Cls
set_option maxRecDepth 100000
namespace Go.Proofs.YtlahonjmfecikaaGreatDoor.Cls
open Go.RowKit UtfPlain ClosePlain Utf
theorem put_ex (w0 W:World) (n:Int) (s t:ByteArray) (k:Nat) (h:putC n (bytes s)=(bytes t,k)) (hB:Below w0.heap.size w0 W) (hg:Globs w0) :
 Calls Tryz.prog 60 #[.int .i64 n,.string s] W fun e w'=>e=.returned (.tuple #[.string t,.int .i64 (k:Int)])∧Sl (Below w0.heap.size w0 w') :=
 (put_any n s W (hg.below hB hg.size)).mono fun _ _ ⟨he,h1⟩=>⟨by rw [he,h,strOf_bytes],⟨hB.trans (h1.out.mono hB.size)⟩⟩
theorem get_ex (w0 W:World) (s t:ByteArray) (n:Int) (k:Nat) (h:getC (bytes s)=(n,bytes t,k)) (hm:s.size≤1000000) (hB:Below w0.heap.size w0 W) (hg:Globs w0) :
 Calls Tryz.prog 139 #[.string s] W fun e w'=>e=.returned (.tuple #[.int .i64 n,.string t,.int .i64 (k:Int)])∧Sl (Below w0.heap.size w0 w') :=
 (get_any s W (hg.below hB hg.size) hm).mono fun _ _ ⟨he,h1⟩=>⟨by rw [he,h,gotV,strOf_bytes],⟨hB.trans (h1.out.mono hB.size)⟩⟩
theorem put_str (n:Int) (s:ByteArray):∃ t k,putC n (bytes s)=(bytes t,k):=by
 refine ⟨strOf (putC n (bytes s)).1,(putC n (bytes s)).2,?_⟩
 rw [bytes_strOf _ (put_small (bytes_small s) (s:=(putC n (bytes s)).1) (e:=(putC n (bytes s)).2) rfl)]
theorem get_str (s:ByteArray):∃ n t k,getC (bytes s)=(n,bytes t,k):=by
 have h:∃ n l k,getC (bytes s)=(n,l,k)∧∀ y∈l,y<256:=by
  have hs:=bytes_small s
  match hb:bytes s with
  | []=>exact ⟨_,_,_,rfl,fun y hy=>by cases hy⟩
  | [_]=>exact ⟨_,_,_,rfl,fun y hy=>by cases hy⟩
  | x :: y :: r =>
    rw [hb] at hs
    rw [get_chk]
    by_cases h:chkE ((256*x+y:Nat):Int) r=0
    ·rw [if_pos h];exact ⟨_,_,_,rfl,fun z hz=>hs z (by simp [hz])⟩
    ·rw [if_neg h];exact ⟨_,_,_,rfl,fun y hy=>by cases hy⟩
 obtain ⟨n,l,k,h1,h2⟩:=h
 exact ⟨n,strOf l,k,by rw [h1,bytes_strOf l h2]⟩
end Go.Proofs.YtlahonjmfecikaaGreatDoor.Cls
