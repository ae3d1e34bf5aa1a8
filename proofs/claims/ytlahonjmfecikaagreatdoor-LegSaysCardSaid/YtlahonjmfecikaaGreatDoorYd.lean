/- The texts below, joined. -/
import Derived.Test.YtlahonjmfecikaaGreatDoorYc
import Derived.Deep.DeepCutAuto
import Derived.SliceStrings
import Derived.ProofKit
set_option maxRecDepth 100000
set_option linter.unusedVariables false
set_option linter.unusedSimpArgs false
set_option maxRecDepth 100000
namespace Go.Proofs.YtlahonjmfecikaaGreatDoor.Fra
open Go.RowKit MaskPlain FramePlain Mas
theorem slice_tail {W:World} {ev:Operand→Value} {o:Oper} {x:Operand} {sb so L cap k:Nat} (of:Nat) (hof:(if cap=1 then so else so+1)=of) (ho:o.op=.slice 49 x (some (.const (.int .i64 1))) none none) (hx:ev x=.slice (some ⟨sb,so,none⟩) L cap) (hk:L-1=k) (hL:1≤L∧L≤cap) (hev:ev (.const (.int .i64 1))=.int .i64 1) :
 (execOp ev o).run Tryz.prog W=.ok (.value (.slice (some ⟨sb,of,none⟩) k (cap-1))) W:=by
 subst hk hof
 obtain ⟨hL1,hL2⟩:=hL
 simp only [execOp,ho,hx,hev,Option.map_some,Option.map_none]
 by_cases hc:cap=1
 ·subst hc
  rw [if_pos rfl]
  go_simp
  intro h;omega
 ·rw [if_neg hc]
  go_simp
  intro h;omega
theorem store8 {W:World} {ev:Operand→Value} {o:Oper} {x y:Operand} {g:Nat} {old cells:Array Value} (ho:o.op=.store 61 x y) (hx:ev x=.pointer (some ⟨g,0,none⟩)) (hy:ev y=.agg cells) (hg:W.heap[g]? = some (.cells old 61 (0,0))) (hs:old.size=8∧cells.size=8) (h1:cells.all (·.oneCell')=true) :
 (execOp ev o).run Tryz.prog W=.ok .skip (W.setRow g cells):=by
 unfold execOp
 simp only [ho,hx,hy,Instr.storeAt,Instr.sureAddr,Sem.run_bind,Sem.run_pure,Result.andThen_ok,run_storeVar_row W g 61 61 old cells hg (fr_info hs.2) (hs.1.trans hs.2.symm) h1]
theorem bad_opn (x:Nat) (h:x<256):bad x=!(opn (decide (128≤x)) ((x % 128:Nat):Int))∧(bad x=false→(ctl ((x % 128:Nat):Int)=true↔8≤x % 16)∧x % 128=x % 16):=by
 have:∀ c:Fin 256,bad c.val=!(opn (decide (128≤c.val)) ((c.val % 128:Nat):Int))∧(bad c.val=false→(ctl ((c.val % 128:Nat):Int)=true↔8≤c.val % 16)∧c.val % 128=c.val % 16):=by decide +kernel
 exact this ⟨x,h⟩
theorem getF_cons (x:Nat) (xs:List Nat) (most:Int):getF (x :: xs) most=if bad x then (Fr0,0,91)
 else if 0<xs.length∧8≤x % 16∧125<xs.getD 0 0 % 128 then (Fr0,0,91)
 else if (getL xs).2.2=81 then (Fr0,0,91)
 else if (getL xs).2.2=80 then (Fr0,0,90)
 else if most<((getL xs).1:Int) then (Fr0,0,92)
 else rest x (xs.getD 0 0) (getL xs).1 (getL xs).2.1 (xs.drop (getL xs).2.1):=rfl
theorem getF_bad {x:Nat} {xs:List Nat} (most:Int) (h:bad x=true):getF (x :: xs) most=(Fr0,0,91):=by rw [getF_cons,if_pos h]
theorem getF_len {x:Nat} {xs:List Nat} (most:Int) (hx:x<256) (h:bad x=false):getF (x :: xs) most=if (lenF (x % 128) xs).2.2=0 then (if most<(((lenF (x % 128) xs).1:Nat):Int) then (Fr0,0,92) else rest x (xs.getD 0 0) (lenF (x % 128) xs).1 (lenF (x % 128) xs).2.1 (xs.drop (lenF (x % 128) xs).2.1)) else (Fr0,0,(lenF (x % 128) xs).2.2):=by
 have h2:=((bad_opn x hx).2 h).1
 rw [getF_cons,if_neg (show ¬ bad x=true from by rw [h];decide)]
 unfold lenF
 by_cases c1:ctl ((x % 128:Nat):Int)=true∧0<xs.length∧125<xs.getD 0 0 % 128
 ·rw [if_pos c1,if_pos ⟨c1.2.1,h2.1 c1.1,c1.2.2⟩];rfl
 ·rw [if_neg c1,if_neg (fun hh=>c1 ⟨h2.2 hh.2.1,hh.1,hh.2.2⟩)]
  by_cases c2:(getL xs).2.2=81
  ·rw [if_pos c2,if_pos c2];rfl
  ·rw [if_neg c2,if_neg c2]
   by_cases c3:(getL xs).2.2=80
   ·rw [if_pos c3,if_pos c3];rfl
   ·rw [if_neg c3,if_neg c3]
    have c4:(getL xs).2.2=0:=by rcases get_codes xs with h | h | h<;>omega
    rw [if_pos c4]
theorem lenF_le (o:Nat) (bs:List Nat):(lenF o bs).2.1≤bs.length∧(bs=[]→(lenF o bs).2.2≠0):=by
 unfold lenF
 have:=get_le bs
 refine ⟨?_,fun hb=>?_⟩
 ·split
  ·exact Nat.zero_le _
  ·split
   ·exact Nat.zero_le _
   ·split
    ·exact Nat.zero_le _
    ·exact this
 ·subst hb;rw [if_neg (fun h=>absurd h.2.1 (by decide)),if_neg (by decide),if_pos (by rfl)];decide
set_option maxHeartbeats 4000000 in
theorem getf_any (sb so L cap:Nat) (bs:List Nat) (most:Int) (w:World) (hg:Globs w) (hv:SrcAt w (.slice (some ⟨sb,so,none⟩) L cap) bs) (hbl:bs.length=L) (hsm:Small 256 bs) (hm:L≤100000) (hmo:most≤9223372036854775807) :
 Calls Tryz.prog 109 #[.slice (some ⟨sb,so,none⟩) L cap,.int .i64 most] w fun e w'=>e=.returned (resF (getF bs most))∧Sl (Below w.heap.size w w'):=by
 have HG:=Sl.mk hg
 have HV:=Sl.mk hv
 have hLc:L≤cap:=by obtain ⟨_,c',_,_,he,h1,_⟩:=hv;injection he with _ _ ec;omega
 obtain ⟨w1,hw1⟩:∃ w1,w.alloc (.cells #[.bool false,.int .i64 0,.bool false,.int .u8 0,.int .u8 0,.int .u8 0,.int .u8 0,.string {data:=#[]}] 61)=w1:=⟨_,rfl⟩
 have HB1:Sl (Below w.heap.size w w1):=⟨by rw [← hw1];exact (bx_below w _).out⟩
 have HZ1:Sl (w1.heap[w.heap.size]? = some (.cells #[.bool false,.int .i64 0,.bool false,.int .u8 0,.int .u8 0,.int .u8 0,.int .u8 0,.string {data:=#[]}] 61 (0,0))):=⟨by rw [← hw1];exact bx_new _ _⟩
 by_cases h0:L=0
 ·subst h0
  obtain rfl:bs=[]:=List.eq_nil_of_length_eq_zero hbl
  have HQ:Sl (getF [] most=(Fr0,0,90)):=⟨rfl⟩
  clear hg hv hsm hm hmo hbl hLc
  go_enter Tryz.func109,Tryz.ntmps109
  have HI:=fr_info (cs:=#[.bool false,.int .i64 0,.bool false,.int .u8 0,.int .u8 0,.int .u8 0,.int .u8 0,.string {data:=#[]}]) rfl
  go_wp2_with (refine wpList_store_row rfl 61 (.tmp 4) (.tmp 14) rfl w.heap.size #[.bool false,.int .i64 0,.bool false,.int .u8 0,.int .u8 0,.int .u8 0,.int .u8 0,.string {data:=#[]}] rfl rfl 61 #[.bool false,.int .i64 0,.bool false,.int .u8 0,.int .u8 0,.int .u8 0,.int .u8 0,.string {data:=#[]}] HZ1.out HI rfl (fr_all _ _ _ _ _ _ _ _) ?_)
  refine bodyPost_ret (ret_fr rfl _ _ w.heap.size 61 _ (0,0) rfl (setRow_heap _ _ _ _ _ _ HZ1.out) rfl) rfl ?_
  rw [HQ.out]
  exact ⟨rfl,⟨below_setRow HB1.out (Nat.le_refl _) _⟩⟩
 obtain ⟨x,xs,rfl⟩:∃ x xs,bs=x :: xs:=by
  cases bs with
  | nil=>exact absurd hbl.symm h0
  | cons x xs=>exact ⟨x,xs,rfl⟩
 have hL1:L-1=xs.length:=by rw [← hbl];simp
 have hcells:∀ i,i<L→w.cell? ⟨sb,so+i,none⟩=some (.int .u8 (((x :: xs).getD i 0:Nat):Int)):=by
  obtain ⟨a,c',sb',so',he,h1,h2,h3⟩:=hv
  injection he with ea eb ec
  rw [h2 (by simp)] at ea
  injection ea with ea
  injection ea with e1 e2
  subst e1 e2
  exact fun i hi=>h3 i (by omega)
 have hc0:w.cell? ⟨sb,so,none⟩=some (.int .u8 (x:Int)):=hcells 0 (by omega)
 have hsb:sb<w.heap.size:=block_lt_of_cell hc0
 have hx256:x<256:=hsm x (by simp)
 have hbo:=bad_opn x hx256
 have hand:=andNot_128 x hx256
 have handn:=and_128 x hx256
 obtain ⟨o,ho⟩:∃ o,x % 128=o:=⟨_,rfl⟩
 have ho128:o<128:=by omega
 rw [ho] at hand hbo
 obtain ⟨fin,hfin⟩:∃ fin,decide (128≤x)=fin:=⟨_,rfl⟩
 have hne0:((((if 128≤x then 128 else 0:Nat):Int)) != 0)=fin:=by
  rw [← hfin]
  by_cases h:128≤x
  ·rw [if_pos h,decide_eq_true h];rfl
  ·rw [if_neg h,decide_eq_false h];rfl
 obtain ⟨ax,hax⟩:∃ ax:Nat,(if 128≤x then 128 else 0:Nat)=ax:=⟨_,rfl⟩
 rw [hax] at handn hne0
 rw [hfin] at hbo
 have hwo:IntKind.i64.wrap (o:Int)=(o:Int):=by rw [IntKind.wrap_i64];omega
 obtain ⟨ob,hob⟩:∃ ob,opn fin (o:Int)=ob:=⟨_,rfl⟩
 have C23:∀ W,Calls Tryz.prog 135 #[.bool fin,.int .i64 (o:Int)] W fun e w'=>e=.returned (.bool ob)∧W=w':=fun W=>by rw [← hob];exact opens_any fin (o:Int) W
 have hLq:((L:Int)==0)=false:=by simp;omega
 have h0L:0<L:=by omega
 go_enter Tryz.func109,Tryz.ntmps109
 go_upto_region 3 with fail
 obtain ⟨Rw,hR⟩:∃ Rw,w1.drew=Rw:=⟨_,rfl⟩
 have HS0:Below w.heap.size w Rw:=by rw [← hR];exact HB1.out.drew
 have HZR:Rw.heap[w.heap.size]? = some (.cells #[.bool false,.int .i64 0,.bool false,.int .u8 0,.int .u8 0,.int .u8 0,.int .u8 0,.string {data:=#[]}] 61 (0,0)):=by rw [← hR];exact HZ1.out
 refine wp_region_noPanic ?_
 refine wp_region_held (S:=fun W=>Below w.heap.size w W) (by kernel_rfl) ?_
 change wpAnyH _ _ _ _ _ _ _ _ w1.drew
 rw [hR]
 clear hR HB1 HZ1
 refine heldTake (d:=some 15) (op:=.move (Operand.tmp 0)) (g:=none) 0 ?v0 rfl (by kernel_rfl) (by kernel_rfl) (by kernel_rfl) (by kernel_rfl) ?y0 HS0 ?_
 case y0=>intro o' ho W hS;simp only [execOp,ho];go_simp;try rfl
 simp only [Act.put,List.setIfInBounds_toArray,List.set_cons_zero,List.set_cons_succ]
 refine heldTake (d:=some 16) (op:=.indexAddr 49 (Operand.tmp 15) (Operand.const (Value.int IntKind.i64 0))) (g:=none) 1 ?v1 rfl (by kernel_rfl) (by kernel_rfl) (by kernel_rfl) (by kernel_rfl) ?y1 HS0 ?_
 case y1=>intro o' ho W hS;simp only [execOp,ho];go_simp;try rfl
 simp only [Act.put,List.setIfInBounds_toArray,List.set_cons_zero,List.set_cons_succ]
 refine heldTake (d:=some 17) (op:=.load 5 (Operand.tmp 16)) (g:=none) 2 ?v2 rfl (by kernel_rfl) (by kernel_rfl) (by kernel_rfl) (by kernel_rfl) ?y2 HS0 ?_
 case y2=>intro o' ho W hS;have hcx:W.cell? ⟨sb,so,none⟩=some (.int .u8 (x:Int)):=(hS.cell hsb).trans hc0;simp only [execOp,ho];go_simp;try rfl
 simp only [Act.put,List.setIfInBounds_toArray,List.set_cons_zero,List.set_cons_succ]
 refine heldTake (d:=some 18) (op:=.binOp BinOp.and 5 (Operand.tmp 17) (Operand.const (Value.int IntKind.u8 128)) 5) (g:=none) 3 ?v3 rfl (by kernel_rfl) (by kernel_rfl) (by kernel_rfl) (by kernel_rfl) ?y3 HS0 ?_
 case y3=>intro o' ho W hS;simp only [execOp,ho];go_simp;try rfl
 simp only [Act.put,List.setIfInBounds_toArray,List.set_cons_zero,List.set_cons_succ]
 refine heldTake (d:=some 19) (op:=.binOp BinOp.neq 5 (Operand.tmp 18) (Operand.const (Value.int IntKind.u8 0)) 5) (g:=none) 4 ?v4 rfl (by kernel_rfl) (by kernel_rfl) (by kernel_rfl) (by kernel_rfl) ?y4 HS0 ?_
 case y4=>intro o' ho W hS;simp only [execOp,ho];go_simp;try rfl
 simp only [Act.put,List.setIfInBounds_toArray,List.set_cons_zero,List.set_cons_succ]
 refine heldTake (d:=some 20) (op:=.move (Operand.tmp 0)) (g:=none) 5 ?v5 rfl (by kernel_rfl) (by kernel_rfl) (by kernel_rfl) (by kernel_rfl) ?y5 HS0 ?_
 case y5=>intro o' ho W hS;simp only [execOp,ho];go_simp;try rfl
 simp only [Act.put,List.setIfInBounds_toArray,List.set_cons_zero,List.set_cons_succ]
 refine heldTake (d:=some 21) (op:=.indexAddr 49 (Operand.tmp 20) (Operand.const (Value.int IntKind.i64 0))) (g:=none) 6 ?v6 rfl (by kernel_rfl) (by kernel_rfl) (by kernel_rfl) (by kernel_rfl) ?y6 HS0 ?_
 case y6=>intro o' ho W hS;simp only [execOp,ho];go_simp;try rfl
 simp only [Act.put,List.setIfInBounds_toArray,List.set_cons_zero,List.set_cons_succ]
 refine heldTake (d:=some 22) (op:=.load 5 (Operand.tmp 21)) (g:=none) 7 ?v7 rfl (by kernel_rfl) (by kernel_rfl) (by kernel_rfl) (by kernel_rfl) ?y7 HS0 ?_
 case y7=>intro o' ho W hS;have hcx:W.cell? ⟨sb,so,none⟩=some (.int .u8 (x:Int)):=(hS.cell hsb).trans hc0;simp only [execOp,ho];go_simp;try rfl
 simp only [Act.put,List.setIfInBounds_toArray,List.set_cons_zero,List.set_cons_succ]
 refine heldTake (d:=some 23) (op:=.binOp BinOp.andNot 5 (Operand.tmp 22) (Operand.const (Value.int IntKind.u8 128)) 5) (g:=none) 8 ?v8 rfl (by kernel_rfl) (by kernel_rfl) (by kernel_rfl) (by kernel_rfl) ?y8 HS0 ?_
 case y8=>intro o' ho W hS;simp only [execOp,ho];go_simp;try rfl
 simp only [Act.put,List.setIfInBounds_toArray,List.set_cons_zero,List.set_cons_succ]
 refine heldTake (d:=some 24) (op:=.convert 5 3 (Operand.tmp 23)) (g:=none) 9 ?v9 rfl (by kernel_rfl) (by kernel_rfl) (by kernel_rfl) (by kernel_rfl) ?y9 HS0 ?_
 case y9=>intro o' ho W hS;simp only [execOp,ho];go_simp;try rfl
 simp only [Act.put,List.setIfInBounds_toArray,List.set_cons_zero,List.set_cons_succ]
 refine heldTake (d:=some 25) (op:=.build 61 #[(0,Operand.tmp 19),(1,Operand.tmp 24)]) (g:=none) 10 ?v10 rfl (by kernel_rfl) (by kernel_rfl) (by kernel_rfl) (by kernel_rfl) ?y10 HS0 ?_
 case y10=>intro o' ho W hS;simp only [execOp,ho];go_simp;try rfl
 simp only [Act.put,List.setIfInBounds_toArray,List.set_cons_zero,List.set_cons_succ]
 obtain ⟨w2,hw2⟩:∃ W,Rw.alloc (.cells #[.bool false,.int .i64 0,.bool false,.int .u8 0,.int .u8 0,.int .u8 0,.int .u8 0,.string {data:=#[]}] 61)=W:=⟨_,rfl⟩
 obtain ⟨fb,hfb⟩:∃ fb,Rw.heap.size=fb:=⟨_,rfl⟩
 have HB2:Sl (Below w.heap.size w w2):=⟨by rw [← hw2];exact HS0.alloc HS0.size _⟩
 have HF2:w2.heap[fb]? = some (.cells #[.bool false,.int .i64 0,.bool false,.int .u8 0,.int .u8 0,.int .u8 0,.int .u8 0,.string {data:=#[]}] 61 (0,0)):=by rw [← hw2,← hfb];exact bx_new _ _
 have hne:w.heap.size<fb:=by rw [← hfb];exact (Array.getElem?_eq_some_iff.1 HZR).1
 have HZ2:w2.heap[w.heap.size]? = some (.cells #[.bool false,.int .i64 0,.bool false,.int .u8 0,.int .u8 0,.int .u8 0,.int .u8 0,.string {data:=#[]}] 61 (0,0)):=by rw [← hw2,alloc_old _ _ _ (by omega)];exact HZR
 refine heldRunT (d:=some 7) (op:=.alloc 61) (g:=none) (t:=0) 11 (.pointer (some ⟨fb,0,none⟩)) w2 rfl (by kernel_rfl) (by kernel_rfl) ?y11 HB2.out ?_
 case y11=>intro o' ho _;simp only [execOp,ho];go_simp;first | done | (refine ⟨?_,?_⟩<;>first | rw [hfb] | rw [hw2] | rfl) | (rw [hfb];done) | (rw [hw2,hfb];done) | rfl
 simp only [Act.put,List.setIfInBounds_toArray,List.set_cons_zero,List.set_cons_succ]
 obtain ⟨w3,hw3⟩:∃ W,w2.setRow fb #[.bool fin,.int .i64 (o:Int),.bool false,.int .u8 0,.int .u8 0,.int .u8 0,.int .u8 0,.string {data:=#[]}]=W:=⟨_,rfl⟩
 have HB3:Sl (Below w.heap.size w w3):=⟨by rw [← hw3];exact below_setRow HB2.out (by omega) _⟩
 have HF3:Sl (w3.heap[fb]? = some (.cells #[.bool fin,.int .i64 (o:Int),.bool false,.int .u8 0,.int .u8 0,.int .u8 0,.int .u8 0,.string {data:=#[]}] 61 (0,0))):=⟨by rw [← hw3];exact setRow_heap _ _ _ _ _ _ HF2⟩
 have HZ3:Sl (w3.heap[w.heap.size]? = some (.cells #[.bool false,.int .i64 0,.bool false,.int .u8 0,.int .u8 0,.int .u8 0,.int .u8 0,.string {data:=#[]}] 61 (0,0))):=⟨by rw [← hw3,setRow_other _ _ _ _ (by omega)];exact HZ2⟩
 have HFB:=Sl.mk hne
 refine heldStore (d:=none) (op:=.store 61 (Operand.tmp 7) (Operand.tmp 25)) (g:=none) (t:=0) 12 w3 rfl (by kernel_rfl) (by kernel_rfl) ?y12 HB3.out ?_
 case y12=>intro o' ho ht;rw [← hw3];exact store8 ho (by rfl) (by rfl) HF2 ⟨rfl,rfl⟩ (fr_all _ _ _ _ _ _ _ _)
 simp only [Act.put]
 refine wpAnyH_done (by kernel_rfl) ?_ _
 refine NoPanic.normal ?_
 clear HS0 HZR hw2 hfb HB2 HF2 HZ2 hw3
 obtain ⟨e0,e1,e2,e3,e4,e5,e6,e7⟩:=bx8 HF3.out
 go_wp2_with fail
 refine (C23 _).mono ?_
 rintro e w' ⟨rfl,rfl⟩
 cases ob with
 | false =>
   have hbad:bad x=true:=by rw [hbo.1,hob];rfl
   have HQ:Sl (getF (x :: xs) most=(Fr0,0,91)):=⟨getF_bad most hbad⟩
   have HI:=fr_info (cs:=#[.bool false,.int .i64 0,.bool false,.int .u8 0,.int .u8 0,.int .u8 0,.int .u8 0,.string {data:=#[]}]) rfl
   go_wp2_with (refine wpList_store_row rfl 61 (.tmp 4) (.tmp 32) rfl w.heap.size #[.bool false,.int .i64 0,.bool false,.int .u8 0,.int .u8 0,.int .u8 0,.int .u8 0,.string {data:=#[]}] rfl rfl 61 #[.bool false,.int .i64 0,.bool false,.int .u8 0,.int .u8 0,.int .u8 0,.int .u8 0,.string {data:=#[]}] HZ3.out HI rfl (fr_all _ _ _ _ _ _ _ _) ?_)
   refine bodyPost_ret (ret_fr rfl _ _ w.heap.size 61 _ (0,0) rfl (setRow_heap _ _ _ _ _ _ HZ3.out) rfl) rfl ?_
   rw [HQ.out]
   exact ⟨rfl,⟨below_setRow HB3.out (Nat.le_refl _) _⟩⟩
 | true =>
   have hbad:bad x=false:=by rw [hbo.1,hob];rfl
   obtain ⟨l,hl⟩:∃ l,xs.length=l:=⟨_,rfl⟩
   rw [hl] at hL1
   obtain ⟨⟨n,k,e⟩,hnke⟩:∃ r,lenF o xs=r:=⟨_,rfl⟩
   have hgl:=getF_len (xs:=xs) most hx256 hbad
   rw [ho,hnke] at hgl
   have hle:=lenF_le o xs
   rw [hnke] at hle
   obtain ⟨of1,hof1⟩:∃ of1,(if cap=1 then so else so+1)=of1:=⟨_,rfl⟩
   have C24:∀ W,Below w.heap.size w W→Calls Tryz.prog 136 #[.int .i64 (o:Int),.slice (some ⟨sb,of1,none⟩) l (cap-1)] W fun e' w'=>e'=.returned (.tuple #[.int .u64 (n:Int),.int .i64 (k:Int),.int .i64 (e:Int)])∧Sl (Below W.heap.size W w'):=fun W hW=>by
    have hs:=src_sub (HV.out.below (Nat.le_refl _) hW) 1 l (cap-1) of1 (fun _=>by rw [← hof1,if_neg (by omega)]) (by omega) (by omega) hbl
    rw [show (((x :: xs).drop 1).take l)=xs by rw [List.drop_succ_cons,List.drop_zero];exact List.take_of_length_le (by omega)] at hs
    have:=length_any o _ xs W (HG.out.below hW HG.out.size) hs (fun y hy=>hsm y (List.mem_cons_of_mem _ hy)) (by omega)
    rw [hnke] at this
    exact this
   go_upto_region 6 with fail
   obtain ⟨Rw,hR⟩:∃ Rw,w3.drew=Rw:=⟨_,rfl⟩
   have HS0:Below w.heap.size w Rw∧Rw.heap[fb]? = some (.cells #[.bool fin,.int .i64 (o:Int),.bool false,.int .u8 0,.int .u8 0,.int .u8 0,.int .u8 0,.string {data:=#[]}] 61 (0,0)):=⟨by rw [← hR];exact HB3.out.drew,by rw [← hR];exact HF3.out⟩
   have HZR:Sl (Rw.heap[w.heap.size]? = some (.cells #[.bool false,.int .i64 0,.bool false,.int .u8 0,.int .u8 0,.int .u8 0,.int .u8 0,.string {data:=#[]}] 61 (0,0))):=⟨by rw [← hR];exact HZ3.out⟩
   refine wp_region_noPanic ?_
   refine wp_region_held (S:=fun W=>Below w.heap.size w W∧W.heap[fb]? = some (.cells #[.bool fin,.int .i64 (o:Int),.bool false,.int .u8 0,.int .u8 0,.int .u8 0,.int .u8 0,.string {data:=#[]}] 61 (0,0))) (by kernel_rfl) ?_
   change wpAnyH _ _ _ _ _ _ _ _ w3.drew
   rw [hR]
   clear hR HB3 HF3 HZ3
   refine heldTake (d:=some 34) (op:=.fieldAddr 61 (Operand.tmp 7) 1) (g:=none) 0 ?v0z rfl (by kernel_rfl) (by kernel_rfl) (by kernel_rfl) (by kernel_rfl) ?y0z HS0 ?_
   case y0z=>intro o' ho W hS;simp only [execOp,ho];go_simp;try rfl
   simp only [Act.put,List.setIfInBounds_toArray,List.set_cons_zero,List.set_cons_succ]
   refine heldTake (d:=some 35) (op:=.load 3 (Operand.tmp 34)) (g:=none) 1 ?v1z rfl (by kernel_rfl) (by kernel_rfl) (by kernel_rfl) (by kernel_rfl) ?y1z HS0 ?_
   case y1z=>intro o' ho W hS;have hco:=(bx8 hS.2).2.1;simp only [execOp,ho];go_simp;try rfl
   simp only [Act.put,List.setIfInBounds_toArray,List.set_cons_zero,List.set_cons_succ]
   refine heldTake (d:=some 36) (op:=.move (Operand.tmp 0)) (g:=none) 2 ?v2z rfl (by kernel_rfl) (by kernel_rfl) (by kernel_rfl) (by kernel_rfl) ?y2z HS0 ?_
   case y2z=>intro o' ho W hS;simp only [execOp,ho];go_simp;try rfl
   simp only [Act.put,List.setIfInBounds_toArray,List.set_cons_zero,List.set_cons_succ]
   refine heldTake (d:=some 37) (op:=.slice 49 (Operand.tmp 36) (some (Operand.const (Value.int IntKind.i64 1))) none none) (g:=none) 3 (.slice (some ⟨sb,of1,none⟩) l (cap-1)) rfl (by kernel_rfl) (by kernel_rfl) (by kernel_rfl) (by kernel_rfl) ?y3z HS0 ?_
   case y3z=>intro o' ho W hS;exact slice_tail of1 hof1 ho (by rfl) hL1 ⟨h0L,hLc⟩ (by rfl)
   simp only [Act.put,List.setIfInBounds_toArray,List.set_cons_zero,List.set_cons_succ]
   refine heldCall (d:=some 38) (op:=.call {callee:=Callee.value (Operand.func 136),args:=#[Operand.tmp 35,Operand.tmp 37],argTypes:=#[3,49]}) (g:=none) 4 136 #[.int .i64 (o:Int),.slice (some ⟨sb,of1,none⟩) l (cap-1)] rfl (by kernel_rfl) (by kernel_rfl) ?y4z ?_
   case y4z=>intro o' ho;simp only [execOp,ho];go_simp;try rfl
   refine (C24 Rw HS0.1).mono ?_
   rintro e X ⟨rfl,HXX⟩
   have HS1:Below w.heap.size w X∧X.heap[fb]? = some (.cells #[.bool fin,.int .i64 (o:Int),.bool false,.int .u8 0,.int .u8 0,.int .u8 0,.int .u8 0,.string {data:=#[]}] 61 (0,0)):=⟨HS0.1.trans (HXX.out.mono HS0.1.size),below_key HS0.2 HXX.out⟩
   have HZX:Sl (X.heap[w.heap.size]? = some (.cells #[.bool false,.int .i64 0,.bool false,.int .u8 0,.int .u8 0,.int .u8 0,.int .u8 0,.string {data:=#[]}] 61 (0,0))):=⟨below_key HZR.out HXX.out⟩
   refine ⟨_,rfl,HS1,?_⟩
   simp only [Act.put,List.setIfInBounds_toArray,List.set_cons_zero,List.set_cons_succ]
   refine heldTake (d:=some 33) (op:=.move (Operand.tmp 38)) (g:=none) 5 ?v5z rfl (by kernel_rfl) (by kernel_rfl) (by kernel_rfl) (by kernel_rfl) ?y5z HS1 ?_
   case y5z=>intro o' ho W hS;simp only [execOp,ho];go_simp;try rfl
   simp only [Act.put,List.setIfInBounds_toArray,List.set_cons_zero,List.set_cons_succ]
   refine heldTake (d:=some 39) (op:=.extract (Operand.tmp 33) 0) (g:=none) 6 ?v6z rfl (by kernel_rfl) (by kernel_rfl) (by kernel_rfl) (by kernel_rfl) ?y6z HS1 ?_
   case y6z=>intro o' ho W hS;simp only [execOp,ho];go_simp;try rfl
   simp only [Act.put,List.setIfInBounds_toArray,List.set_cons_zero,List.set_cons_succ]
   refine heldTake (d:=some 40) (op:=.extract (Operand.tmp 33) 1) (g:=none) 7 ?v7z rfl (by kernel_rfl) (by kernel_rfl) (by kernel_rfl) (by kernel_rfl) ?y7z HS1 ?_
   case y7z=>intro o' ho W hS;simp only [execOp,ho];go_simp;try rfl
   simp only [Act.put,List.setIfInBounds_toArray,List.set_cons_zero,List.set_cons_succ]
   refine heldTake (d:=some 41) (op:=.extract (Operand.tmp 33) 2) (g:=none) 8 ?v8z rfl (by kernel_rfl) (by kernel_rfl) (by kernel_rfl) (by kernel_rfl) ?y8z HS1 ?_
   case y8z=>intro o' ho W hS;simp only [execOp,ho];go_simp;try rfl
   simp only [Act.put,List.setIfInBounds_toArray,List.set_cons_zero,List.set_cons_succ]
   refine heldTake (d:=some 8) (op:=.assign (Operand.tmp 39)) (g:=none) 9 ?v9z rfl (by kernel_rfl) (by kernel_rfl) (by kernel_rfl) (by kernel_rfl) ?y9z HS1 ?_
   case y9z=>intro o' ho W hS;simp only [execOp,ho];go_simp;try rfl
   simp only [Act.put,List.setIfInBounds_toArray,List.set_cons_zero,List.set_cons_succ]
   refine heldTake (d:=some 9) (op:=.assign (Operand.tmp 40)) (g:=none) 10 ?v10z rfl (by kernel_rfl) (by kernel_rfl) (by kernel_rfl) (by kernel_rfl) ?y10z HS1 ?_
   case y10z=>intro o' ho W hS;simp only [execOp,ho];go_simp;try rfl
   simp only [Act.put,List.setIfInBounds_toArray,List.set_cons_zero,List.set_cons_succ]
   refine heldTake (d:=some 10) (op:=.assign (Operand.tmp 41)) (g:=none) 11 ?v11z rfl (by kernel_rfl) (by kernel_rfl) (by kernel_rfl) (by kernel_rfl) ?y11z HS1 ?_
   case y11z=>intro o' ho W hS;simp only [execOp,ho];go_simp;try rfl
   simp only [Act.put,List.setIfInBounds_toArray,List.set_cons_zero,List.set_cons_succ]
   refine wpAnyH_done (by kernel_rfl) ?_ _
   refine NoPanic.normal ?_
   have HBX:=Sl.mk HS1.1
   have HFX:=Sl.mk HS1.2
   clear HS0 HZR HS1 HXX
   by_cases he0:e=0
   ·subst he0
    have hxs:0<l:=by
     have:=hle.2
     cases xs with
     | nil=>exact absurd rfl (this rfl)
     | cons y ys=>rw [← hl];simp
    obtain ⟨y,hy⟩:∃ y,xs.getD 0 0=y:=⟨_,rfl⟩
    have hy256:y<256:=by rw [← hy];exact Small.getD (fun z hz=>hsm z (List.mem_cons_of_mem _ hz)) (by omega) 0
    have hc1:w.cell? ⟨sb,so+1,none⟩=some (.int .u8 (y:Int)):=by rw [hcells 1 (by omega),← hy];rfl
    have hx16:x % 16=o:=by have:=(hbo.2 hbad).2;omega
    have HGE:Sl (getF (x :: xs) most=if most<(n:Int) then (Fr0,0,92) else fillF fin (o:Int) (decide (128≤y)) (1+k) n ((x :: xs).drop (1+k))):=⟨by
     rw [hgl,if_pos rfl,rest_fill,hx16,hfin,hy,show (x :: xs).drop (1+k)=xs.drop k by rw [Nat.add_comm];rfl]⟩
    have hkl:k≤l:=by have:=hle.1;omega
    clear hgl hle hnke hcells hc0 hand handn hbo hob C23 C24 hne0 hax hbad hy hx16 hv hw1 hg e0 e1 e2 e3 e4 e5 e6 e7 hl hof1 hfin ho hwo
    by_cases hneg:most<0
    ·have hq1:(most<0)=True:=eq_true hneg
     have HQ:Sl (getF (x :: xs) most=(Fr0,0,92)):=⟨by rw [HGE.out];exact if_pos (by omega)⟩
     clear hneg
     have HI:=fr_info (cs:=#[.bool false,.int .i64 0,.bool false,.int .u8 0,.int .u8 0,.int .u8 0,.int .u8 0,.string {data:=#[]}]) rfl
     go_wp2_with (refine wpList_store_row rfl 61 (.tmp 4) (.tmp 54) rfl w.heap.size #[.bool false,.int .i64 0,.bool false,.int .u8 0,.int .u8 0,.int .u8 0,.int .u8 0,.string {data:=#[]}] rfl rfl 61 #[.bool false,.int .i64 0,.bool false,.int .u8 0,.int .u8 0,.int .u8 0,.int .u8 0,.string {data:=#[]}] HZX.out HI rfl (fr_all _ _ _ _ _ _ _ _) ?_)
     refine bodyPost_ret (ret_fr rfl _ _ w.heap.size 61 _ (0,0) rfl (setRow_heap _ _ _ _ _ _ HZX.out) rfl) rfl ?_
     rw [HQ.out]
     exact ⟨rfl,⟨below_setRow HBX.out (Nat.le_refl _) _⟩⟩
    ·have hq1:(most<0)=False:=eq_false hneg
     obtain ⟨mo,rfl⟩:=Int.eq_ofNat_of_zero_le (show 0≤most by omega)
     have hmw:IntKind.u64.wrap (mo:Int)=(mo:Int):=by rw [IntKind.wrap_u64];omega
     by_cases hov:mo<n
     ·have hq2:((n:Int)>(mo:Int))=True:=eq_true (by omega)
      have HQ:Sl (getF (x :: xs) (mo:Int)=(Fr0,0,92)):=⟨by rw [HGE.out];exact if_pos (by omega)⟩
      clear hneg
      have HI:=fr_info (cs:=#[.bool false,.int .i64 0,.bool false,.int .u8 0,.int .u8 0,.int .u8 0,.int .u8 0,.string {data:=#[]}]) rfl
      go_wp2_with (refine wpList_store_row rfl 61 (.tmp 4) (.tmp 54) rfl w.heap.size #[.bool false,.int .i64 0,.bool false,.int .u8 0,.int .u8 0,.int .u8 0,.int .u8 0,.string {data:=#[]}] rfl rfl 61 #[.bool false,.int .i64 0,.bool false,.int .u8 0,.int .u8 0,.int .u8 0,.int .u8 0,.string {data:=#[]}] HZX.out HI rfl (fr_all _ _ _ _ _ _ _ _) ?_)
      refine bodyPost_ret (ret_fr rfl _ _ w.heap.size 61 _ (0,0) rfl (setRow_heap _ _ _ _ _ _ HZX.out) rfl) rfl ?_
      rw [HQ.out]
      exact ⟨rfl,⟨below_setRow HBX.out (Nat.le_refl _) _⟩⟩
     ·have hq2:((n:Int)>(mo:Int))=False:=eq_false (by omega)
      have HQ:Sl (getF (x :: xs) (mo:Int)=fillF fin (o:Int) (decide (128≤y)) (1+k) n ((x :: xs).drop (1+k))):=⟨by rw [HGE.out,if_neg (by omega)]⟩
      have hk1:1+k≤L:=by omega
      have hn64:n≤9223372036854775807:=by omega
      have cy:X.cell? ⟨sb,so+1,none⟩=some (.int .u8 (y:Int)):=(HBX.out.cell hsb).trans hc1
      obtain ⟨f0,f1,f2,f3,f4,f5,f6,f7⟩:=bx8 HFX.out
      have z2:X.frozen? ⟨fb,2,none⟩=false:=frozen_of_row _ _ _ _ _ HFX.out
      have hwk:IntKind.i64.wrap (1+(k:Int))=((1+k:Nat):Int):=by rw [IntKind.wrap_i64];omega
      obtain ⟨pk,hpk⟩:∃ pk,1+k=pk:=⟨_,rfl⟩
      rw [hpk] at hwk
      have h1L:1<L:=by omega
      obtain ⟨mk,hmk⟩:∃ mk,decide (128≤y)=mk:=⟨_,rfl⟩
      obtain ⟨w4,hw4⟩:∃ W,X.setCell ⟨fb,2,none⟩ (.bool mk)=W:=⟨_,rfl⟩
      have HB4:Sl (Below w.heap.size w w4):=⟨by rw [← hw4];exact HBX.out.setCell (by show w.heap.size≤fb;have:=HFB.out;omega) _⟩
      have HF4:Sl (w4.heap[fb]? = some (.cells #[.bool fin,.int .i64 (o:Int),.bool mk,.int .u8 0,.int .u8 0,.int .u8 0,.int .u8 0,.string {data:=#[]}] 61 (0,0))):=⟨by rw [← hw4,heap_setCell_same _ _ _ _ _ _ HFX.out];rfl⟩
      have HZ4:Sl (w4.heap[w.heap.size]? = some (.cells #[.bool false,.int .i64 0,.bool false,.int .u8 0,.int .u8 0,.int .u8 0,.int .u8 0,.string {data:=#[]}] 61 (0,0))):=⟨by rw [← hw4,heap_setCell_other _ _ _ _ (by show w.heap.size≠fb;have:=HFB.out;omega)];exact HZX.out⟩
      obtain ⟨g0,g1,g2,g3,g4,g5,g6,g7⟩:=bx8 HF4.out
      rw [hmk,hpk] at HQ
      have hand:=and_128 y hy256
      have C25:=fun W hW=>filled_any fin (o:Int) mk sb so L cap pk n (x :: xs) W hW hbl hsm hm (by omega) hn64
      clear hneg hov hk1 hn64 HGE
      cases mk with
      | true =>
        have hy128:128≤y:=of_decide_eq_true hmk
        rw [if_pos hy128] at hand
        clear hy128 hmk
        rw [show (((128:Nat):Int))=128 from rfl] at hand
        go_wp2_with fail
        refine (C25 _ (HV.out.below (Nat.le_refl _) HB4.out)).mono ?_
        rintro e w5 ⟨rfl,HX5⟩
        have HB5:Sl (Below w.heap.size w w5):=⟨HB4.out.trans (HX5.out.mono HB4.out.size)⟩
        have HZ5:Sl (w5.heap[w.heap.size]? = some (.cells #[.bool false,.int .i64 0,.bool false,.int .u8 0,.int .u8 0,.int .u8 0,.int .u8 0,.string {data:=#[]}] 61 (0,0))):=⟨below_key HZ4.out HX5.out⟩
        clear HX5
        obtain ⟨r,hr⟩:∃ r,fillF fin (o:Int) true pk n ((x :: xs).drop pk)=r:=⟨_,rfl⟩
        rw [hr] at HQ ⊢
        clear hr
        obtain ⟨⟨rf,ro,rm,rk,rd⟩,rn,re⟩:=r
        have HI:=fr_info (cs:=#[.bool rf,.int .i64 ro,.bool rm,.int .u8 ((rk.getD 0 0:Nat):Int),.int .u8 ((rk.getD 1 0:Nat):Int),.int .u8 ((rk.getD 2 0:Nat):Int),.int .u8 ((rk.getD 3 0:Nat):Int),.string (strOf rd)]) rfl
        unfold resF valF
        go_wp2_with (refine wpList_store_row rfl 61 (.tmp 4) (.tmp 67) rfl w.heap.size #[.bool rf,.int .i64 ro,.bool rm,.int .u8 ((rk.getD 0 0:Nat):Int),.int .u8 ((rk.getD 1 0:Nat):Int),.int .u8 ((rk.getD 2 0:Nat):Int),.int .u8 ((rk.getD 3 0:Nat):Int),.string (strOf rd)] rfl rfl 61 #[.bool false,.int .i64 0,.bool false,.int .u8 0,.int .u8 0,.int .u8 0,.int .u8 0,.string {data:=#[]}] HZ5.out HI rfl (fr_all _ _ _ _ _ _ _ _) ?_)
        refine bodyPost_ret (ret_fr rfl _ _ w.heap.size 61 _ (0,0) rfl (setRow_heap _ _ _ _ _ _ HZ5.out) rfl) rfl ?_
        rw [HQ.out]
        exact ⟨rfl,⟨below_setRow HB5.out (Nat.le_refl _) _⟩⟩
      | false =>
        have hy128:¬ 128≤y:=of_decide_eq_false hmk
        rw [if_neg hy128] at hand
        clear hy128 hmk
        rw [show (((0:Nat):Int))=0 from rfl] at hand
        go_wp2_with fail
        refine (C25 _ (HV.out.below (Nat.le_refl _) HB4.out)).mono ?_
        rintro e w5 ⟨rfl,HX5⟩
        have HB5:Sl (Below w.heap.size w w5):=⟨HB4.out.trans (HX5.out.mono HB4.out.size)⟩
        have HZ5:Sl (w5.heap[w.heap.size]? = some (.cells #[.bool false,.int .i64 0,.bool false,.int .u8 0,.int .u8 0,.int .u8 0,.int .u8 0,.string {data:=#[]}] 61 (0,0))):=⟨below_key HZ4.out HX5.out⟩
        clear HX5
        obtain ⟨r,hr⟩:∃ r,fillF fin (o:Int) false pk n ((x :: xs).drop pk)=r:=⟨_,rfl⟩
        rw [hr] at HQ ⊢
        clear hr
        obtain ⟨⟨rf,ro,rm,rk,rd⟩,rn,re⟩:=r
        have HI:=fr_info (cs:=#[.bool rf,.int .i64 ro,.bool rm,.int .u8 ((rk.getD 0 0:Nat):Int),.int .u8 ((rk.getD 1 0:Nat):Int),.int .u8 ((rk.getD 2 0:Nat):Int),.int .u8 ((rk.getD 3 0:Nat):Int),.string (strOf rd)]) rfl
        unfold resF valF
        go_wp2_with (refine wpList_store_row rfl 61 (.tmp 4) (.tmp 67) rfl w.heap.size #[.bool rf,.int .i64 ro,.bool rm,.int .u8 ((rk.getD 0 0:Nat):Int),.int .u8 ((rk.getD 1 0:Nat):Int),.int .u8 ((rk.getD 2 0:Nat):Int),.int .u8 ((rk.getD 3 0:Nat):Int),.string (strOf rd)] rfl rfl 61 #[.bool false,.int .i64 0,.bool false,.int .u8 0,.int .u8 0,.int .u8 0,.int .u8 0,.string {data:=#[]}] HZ5.out HI rfl (fr_all _ _ _ _ _ _ _ _) ?_)
        refine bodyPost_ret (ret_fr rfl _ _ w.heap.size 61 _ (0,0) rfl (setRow_heap _ _ _ _ _ _ HZ5.out) rfl) rfl ?_
        rw [HQ.out]
        exact ⟨rfl,⟨below_setRow HB5.out (Nat.le_refl _) _⟩⟩
   ·have he0':((e:Int) != 0)=true:=by simp;omega
    have HQ:Sl (getF (x :: xs) most=(Fr0,0,e)):=⟨by rw [hgl];exact if_neg he0⟩
    clear hgl hle hnke hcells hc0 hand handn hbo hob C23 C24 hne0 hax hbad hv hw1 hg e0 e1 e2 e3 e4 e5 e6 e7 hl hof1 hfin ho hwo he0
    have HI:=fr_info (cs:=#[.bool false,.int .i64 0,.bool false,.int .u8 0,.int .u8 0,.int .u8 0,.int .u8 0,.string {data:=#[]}]) rfl
    go_wp2_with (refine wpList_store_row rfl 61 (.tmp 4) (.tmp 44) rfl w.heap.size #[.bool false,.int .i64 0,.bool false,.int .u8 0,.int .u8 0,.int .u8 0,.int .u8 0,.string {data:=#[]}] rfl rfl 61 #[.bool false,.int .i64 0,.bool false,.int .u8 0,.int .u8 0,.int .u8 0,.int .u8 0,.string {data:=#[]}] HZX.out HI rfl (fr_all _ _ _ _ _ _ _ _) ?_)
    refine bodyPost_ret (ret_fr rfl _ _ w.heap.size 61 _ (0,0) rfl (setRow_heap _ _ _ _ _ _ HZX.out) rfl) rfl ?_
    rw [HQ.out]
    exact ⟨rfl,⟨below_setRow HBX.out (Nat.le_refl _) _⟩⟩
end Go.Proofs.YtlahonjmfecikaaGreatDoor.Fra
set_option maxRecDepth 100000
namespace Go.Proofs.YtlahonjmfecikaaGreatDoor.Fra
open Go.RowKit MaskPlain FramePlain Mas
theorem laid_fr {w W:World} (cs:Array Value) (h:Below w.heap.size w W):Below w.heap.size w ((W.alloc (.cells #[.bool false,.int .i64 0,.bool false,.int .u8 0,.int .u8 0,.int .u8 0,.int .u8 0,.string {data:=#[]}] 61)).setRow W.heap.size cs)∧((W.alloc (.cells #[.bool false,.int .i64 0,.bool false,.int .u8 0,.int .u8 0,.int .u8 0,.int .u8 0,.string {data:=#[]}] 61)).setRow W.heap.size cs).heap[W.heap.size]? = some (.cells cs 61 (0,0)) :=
 ⟨below_setRow (h.alloc h.size _) h.size _,setRow_heap _ _ _ _ _ _ (bx_new W _)⟩
theorem laid_self (W:World) (cs:Array Value):Below W.heap.size W ((W.alloc (.cells #[.bool false,.int .i64 0,.bool false,.int .u8 0,.int .u8 0,.int .u8 0,.int .u8 0,.string {data:=#[]}] 61)).setRow W.heap.size cs):=(laid_fr cs (Below.refl _ _)).1
end Go.Proofs.YtlahonjmfecikaaGreatDoor.Fra
set_option maxRecDepth 100000
namespace Go.Proofs.YtlahonjmfecikaaGreatDoor.Fra
open Go.RowKit MaskPlain FramePlain Mas
end Go.Proofs.YtlahonjmfecikaaGreatDoor.Fra
set_option maxRecDepth 100000
namespace Go.Proofs.YtlahonjmfecikaaGreatDoor.Fra
open Go.RowKit MaskPlain FramePlain Mas
theorem text_small {f:Fr} (h:chk f=0) (hk:Small 256 f.key) (hd:Small 256 f.data):Small 256 (text f):=by
 obtain ⟨h1,h2⟩:=chk_ok h
 have hb:=(byte0_facts h1).2.2.2.1
 have hl:=lenB_small (n:=f.data.length) (by omega)
 have hw:=(lenB_low (n:=f.data.length) (by omega)).1
 unfold text headB
 by_cases hm:f.masked=true
 ·rw [if_pos hm,if_pos hm]
  intro x hx
  simp only [List.mem_append,List.mem_cons] at hx
  rcases hx with ((rfl | rfl | hx) | hx) | hx
  ·exact hb
  ·omega
  ·exact hl x (List.mem_of_mem_drop hx)
  ·exact hk x hx
  ·exact turn_lt f.key 0 f.data hd (fun i=>hk.getD (by omega) i) x hx
 ·rw [if_neg hm,if_neg hm]
  intro x hx
  simp only [List.mem_append,List.mem_cons] at hx
  rcases hx with (rfl | hx) | hx
  ·exact hb
  ·exact hl x hx
  ·exact hd x hx
end Go.Proofs.YtlahonjmfecikaaGreatDoor.Fra
set_option maxRecDepth 100000
namespace Go.Proofs.YtlahonjmfecikaaGreatDoor.Stm
open Go.RowKit MaskPlain FramePlain StreamPlain Mas Fra
def cv (f:Fr):List Value:=[.bool f.fin,.int .i64 f.op,.bool f.masked,.int .u8 ((f.key.getD 0 0:Nat):Int),.int .u8 ((f.key.getD 1 0:Nat):Int),.int .u8 ((f.key.getD 2 0:Nat):Int),.int .u8 ((f.key.getD 3 0:Nat):Int),.string (strOf f.data)]
theorem cv_val (f:Fr):valF f=.agg (cv f).toArray:=rfl
def cvs (fs:List Fr):List Value:=fs.flatMap cv
theorem cvs_cons (f:Fr) (fs:List Fr):cvs (f :: fs)=cv f++cvs fs:=rfl
theorem cvs_length (fs:List Fr):(cvs fs).length=fs.length*8:=by
 induction fs with
 | nil=>rfl
 | cons f fs ih=>rw [cvs_cons,List.length_append,ih];simp [cv];omega
theorem cvs_append (a b:List Fr):cvs (a++b)=cvs a++cvs b:=by simp [cvs]
theorem cv_one (f:Fr):∀ u∈cv f,u.oneCell'=true:=fun u hu=>by
 simp only [cv,List.mem_cons,List.not_mem_nil,or_false] at hu
 rcases hu with rfl | rfl | rfl | rfl | rfl | rfl | rfl | rfl<;>rfl
theorem cvs_one {fs:List Fr} : ∀ u∈cvs fs,u.oneCell'=true:=fun u hu=>by
 simp only [cvs,List.mem_flatMap] at hu
 obtain ⟨f,_,hf⟩:=hu
 exact cv_one f u hf
theorem cvs_get:∀ (fs:List Fr) (i:Nat),i<fs.length→∀ j,j<8→(cvs fs)[i*8+j]? = (cv (fs.getD i Fr0))[j]?
 | [],i,hi,_,_=>by simp at hi
 | f :: fs,0,_,j,hj=>by
   rw [cvs_cons,Nat.zero_mul,Nat.zero_add,List.getElem?_append_left (by simpa [cv] using hj)];rfl
 | f :: fs,i+1,hi,j,hj=>by
   rw [cvs_cons,show (i+1)*8+j=i*8+j+8 from by omega,List.getElem?_append_right (by simp [cv])]
   have:=cvs_get fs i (by simpa using hi) j hj
   simpa [cv] using this
theorem cvs_at {fs:List Fr} {j:Nat} {u:Value} (h:(cvs fs)[j]? = some u):j / 8<fs.length∧(cv (fs.getD (j / 8) Fr0))[j % 8]? = some u:=by
 have hj:j<(cvs fs).length:=(List.getElem?_eq_some_iff.1 h).1
 rw [cvs_length] at hj
 refine ⟨by omega,?_⟩
 rw [← cvs_get fs (j / 8) (by omega) (j % 8) (by omega),← h]
 congr 1;omega
def OwnR (W:World) (base:Nat) (v:Value) (fs:List Fr):Prop:=W.ownsRow base 61 8 v fs.length (cvs fs)
def FrsAt (W:World) (v:Value) (fs:List Fr):Prop :=
 ∃ (a:Option Addr) (cap sb so:Nat),v=.slice a fs.length cap∧fs.length≤cap∧(0<fs.length→a=some ⟨sb,so,none⟩)∧∀ i,i<fs.length→∀ j,j<8→W.cell? ⟨sb,so+i*8+j,none⟩=(cv (fs.getD i Fr0))[j]?
theorem cv_some (f:Fr) (j:Nat) (hj:j<8):∃ u,(cv f)[j]? = some u:=⟨_,List.getElem?_eq_getElem (by simpa [cv] using hj)⟩
theorem FrsAt.below {w w':World} {v:Value} {fs:List Fr} (h:FrsAt w v fs) (hb:Below w.heap.size w w'):FrsAt w' v fs:=by
 obtain ⟨a,cap,sb,so,h1,hc,h3,h4⟩:=h
 refine ⟨a,cap,sb,so,h1,hc,h3,fun i hi j hj=>?_⟩
 have g:=h4 i hi j hj
 obtain ⟨u,hu⟩:=cv_some (fs.getD i Fr0) j hj
 rw [hu] at g ⊢
 have k0:=block_lt_of_cell g
 rw [hb.cell (p:=⟨sb,so+i*8+j,none⟩) k0];exact g
theorem FrsAt.grown {w w':World} {v:Value} {fs:List Fr} {r:Option Nat} (h:FrsAt w v fs) (hg:w.grownBy w' r) (hne:∀ g,v.ownBlock=some g→some g≠r):FrsAt w' v fs:=by
 obtain ⟨a,cap,sb,so,rfl,hc,h3,h4⟩:=h
 refine ⟨a,cap,sb,so,rfl,hc,h3,fun i hi j hj=>?_⟩
 have g:=h4 i hi j hj
 obtain ⟨u,hu⟩:=cv_some (fs.getD i Fr0) j hj
 rw [hu] at g ⊢
 have k0:sb<w.heap.size:=block_lt_of_cell g
 obtain rfl:=h3 (by omega)
 have hb:w'.heap[sb]? = w.heap[sb]?:=hg.block sb k0 (hne sb rfl)
 rw [World.cell?_of_block (w:=w) hb];exact g
theorem FrsAt.two {w w':World} {v:Value} {fs:List Fr} {b p:Nat} (h:FrsAt w v fs) (k:Two w w' b p) (h1:v.ownBlock≠some b) (h2:v.ownBlock≠some p):FrsAt w' v fs:=by
 obtain ⟨a,cap,sb,so,rfl,hc,h3,h4⟩:=h
 refine ⟨a,cap,sb,so,rfl,hc,h3,fun i hi j hj=>?_⟩
 have g:=h4 i hi j hj
 obtain ⟨u,hu⟩:=cv_some (fs.getD i Fr0) j hj
 rw [hu] at g ⊢
 have k0:sb<w.heap.size:=block_lt_of_cell g
 obtain rfl:=h3 (by omega)
 have hb:w'.heap[sb]? = w.heap[sb]?:=k.block sb k0 (fun e=>h1 (by simp [Value.ownBlock,e])) (fun e=>h2 (by simp [Value.ownBlock,e]))
 rw [World.cell?_of_block (w:=w) hb];exact g
theorem OwnR.below {w w':World} {base:Nat} {v:Value} {l:List Fr} (h:OwnR w base v l) (hb:Below w.heap.size w w'):OwnR w' base v l:=own_below h hb
theorem OwnR.two {w w':World} {base b p:Nat} {v:Value} {l:List Fr} (h:OwnR w base v l) (k:Two w w' b p) (h1:v.ownBlock≠some b) (h2:v.ownBlock≠some p):OwnR w' base v l:=by
 obtain ⟨hl,hh⟩:=h
 refine ⟨hl,?_⟩
 rcases hh with ⟨rfl,hz⟩ | ⟨g,cap,cur,rfl,hg,hx,hr⟩
 ·exact .inl ⟨rfl,hz⟩
 ·refine .inr ⟨g,cap,cur,rfl,hg,?_,hr⟩
  rw [k.block g (Array.getElem?_eq_some_iff.1 hx).1 (fun e=>h1 (by simp [Value.ownBlock,e])) (fun e=>h2 (by simp [Value.ownBlock,e]))]
  exact hx
theorem ownR_nil (R:World) (base:Nat):OwnR R base (.slice none 0 0) []:=World.ownsRow_nil _ _ _ _
theorem OwnR.slice {W:World} {base:Nat} {v:Value} {l:List Fr} (h:OwnR W base v l):∃ a c,v=.slice a l.length c:=by
 obtain ⟨_,h2⟩:=h
 rcases h2 with ⟨rfl,hz⟩ | ⟨g,cap,cur,rfl,_⟩
 ·rw [hz];exact ⟨_,_,rfl⟩
 ·exact ⟨_,_,rfl⟩
theorem OwnR.frs {W:World} {base:Nat} {v:Value} {fs:List Fr} (ho:OwnR W base v fs):FrsAt W v fs:=by
 obtain ⟨h1,h2⟩:=ho
 rcases h2 with ⟨rfl,hz⟩ | ⟨g,cap,cur,rfl,hg,hh,hc1,hc2,hsz,htk⟩
 ·exact ⟨none,0,0,0,by rw [hz],by omega,fun h=>by omega,fun i hi=>by omega⟩
 ·refine ⟨some ⟨g,0,none⟩,cap,g,0,rfl,hc1,fun _=>rfl,fun i hi j hj=>?_⟩
  have k:=cvs_get fs i hi j hj
  rw [Nat.zero_add,← k,cell_of_row _ _ _ _ _ _ hh,← htk,List.getElem?_take_of_lt (by omega)]
  simp
theorem OwnR.ge {W:World} {base:Nat} {v:Value} {l:List Fr} (h:OwnR W base v l) {g:Nat} (hg:v.ownBlock=some g):base≤g:=by
 obtain ⟨_,h2⟩:=h
 rcases h2 with ⟨rfl,_⟩ | ⟨k,cap,cur,rfl,hk,_⟩
 ·cases hg
 ·have:k=g:=by simpa [Value.ownBlock] using hg
  omega
theorem OwnR.kind {W:World} {base g:Nat} {v:Value} {l:List Fr} {cs:Array Value} {t:TypeId} (ho:OwnR W base v l) (h:W.heap[g]? = some (.cells cs t (0,0))) (ht:t≠61):v.ownBlock≠some g:=fun e=>by
 obtain ⟨_,h2⟩:=ho
 rcases h2 with ⟨rfl,_⟩ | ⟨k,cap,cur,rfl,_,hh,_⟩
 ·cases e
 ·obtain rfl:k=g:=by simpa [Value.ownBlock] using e
  rw [h] at hh
  injection hh with hh
  injection hh with _ h4
  exact ht h4
theorem OwnR.keeps {W W':World} {base B:Nat} {w0:World} {v:Value} {l:List Fr} (h:OwnR W base v l) (hB:Below B w0 W) (hg:W.grownBy W' v.ownBlock) (hb:B≤base) (hs:B≤W.heap.size):Below B w0 W' :=
 hB.grown hg hs (fun _ hk=>Nat.le_trans hb (h.ge hk))
theorem info43:∃ i,Tryz.prog.info? 61=some i∧i.zero=some (.agg #[.bool false,.int .i64 0,.bool false,.int .u8 0,.int .u8 0,.int .u8 0,.int .u8 0,.string ByteArray.empty])∧i.size=8∧i.bytes=40:=by
 have h5:(Tryz.prog.info? 61).map (fun i=>(i.zero,i.size,i.bytes))=some (some (.agg #[.bool false,.int .i64 0,.bool false,.int .u8 0,.int .u8 0,.int .u8 0,.int .u8 0,.string ByteArray.empty]),8,40):=by kernel_rfl
 cases hi:Tryz.prog.info? 61 with
 | none=>rw [hi] at h5;cases h5
 | some i =>
   rw [hi] at h5
   simp only [Option.map_some,Option.some.injEq,Prod.mk.injEq] at h5
   exact ⟨i,rfl,h5.1,h5.2.1,h5.2.2⟩
theorem own_app {P:Program} {w:World} (base:Nat) (t ty e:TypeId) (i:TypeInfo) (z:Value) (size bytes:Nat) (ht:P.underlying t=some (.slice e)) (hi:P.info? e=some i) (hz:i.zero=some z)
 (hsize:i.size=size) (hby:i.bytes=bytes) (hzs:z.cells.size=size) (hsz:0<size)
 (v:Value) (n:Nat) (xs:List Value) (hown:w.ownsRow base e size v n xs)
 (a:Addr) (m c:Nat) (news:List Value) (hl:news.length=m*size) (hnews:∀ j u,news[j]? = some u→w.cell? (a.add j)=some u) (h1:∀ u∈news,u.oneCell'=true)
 (h63:n+m≤maxLen) (hbytes:(n+m)*bytes≤140737488355328) (hbase:base≤w.heap.size) :
 ∃ v' w',(Builtin.append_ #[t,t] ty #[v,.slice (some a) m c]).run P w=.ok v' w'∧w'.ownsRow base e size v' (n+m) (xs++news)∧w.grownBy w' v.ownBlock ∧
   (v'.ownBlock=v.ownBlock∨v'.ownBlock=some w.heap.size):=by
 obtain ⟨v',w',hr,h2,h3,_⟩:=run_append_own (P:=P) w base t ty e i z size bytes ht hi hz hsize hby hzs hsz v n xs hown a m c news hl hnews h1 h63 hbytes hbase
 refine ⟨v',w',hr,h2,h3,?_⟩
 subst hsize hby
 rcases hown.2 with ⟨rfl,rfl⟩ | ⟨g,cap,cur,rfl,hbg,hg,hnc,hcm,hcs,htake⟩
 ·have hx:xs=[]:=List.eq_nil_of_length_eq_zero (by simpa using hown.1)
  subst hx
  obtain ⟨v2,w2,hr2,h4,_,h5⟩:=run_append_own (P:=P) w w.heap.size t ty e i z i.size i.bytes ht hi hz rfl rfl hzs hsz _ 0 [] (World.ownsRow_nil w w.heap.size e i.size) a m c news hl hnews h1 h63 hbytes (Nat.le_refl _)
  rw [hr] at hr2
  injection hr2 with e1 e2
  subst e1 e2
  by_cases hm:m=0
  ·rw [h5.2 ⟨rfl,hm⟩];exact .inl rfl
  ·have hr3:=run_append_nil (P:=P) w t ty e i z ht hi hz a m c news hl hnews (by omega) (by unfold maxLen at h63;omega) (by have hb:=hbytes;simp only [Nat.zero_add] at hb;omega)
   rw [hr] at hr3
   injection hr3 with e1 e2
   rw [e1];exact .inr rfl
 ·by_cases hroom:n+m≤cap
  ·have hfit:n*i.size+news.length≤cur.size:=by rw [hl,hcs,← Nat.add_mul];exact Nat.mul_le_mul_right _ hroom
   have hr2:=run_append_room (P:=P) (ty:=ty) w t e i ht hi g n cap cur hg a m c news hl hnews h1 hroom hfit
   rw [hr] at hr2
   injection hr2 with e1 e2
   rw [e1];exact .inl rfl
  ·have holds:∀ j u,xs[j]? = some u→w.cell? ((⟨g,0,none⟩:Addr).add j)=some u:=hown.cells (g:=g) rfl
   have hr2:=run_append_grow (P:=P) w t ty e i z ht hi hz ⟨g,0,none⟩ n cap xs hown.1 holds a m c news hl hnews (by omega) (by unfold maxLen at h63;omega) (growslice_fits (by omega) hbytes)
   rw [hr] at hr2
   injection hr2 with e1 e2
   rw [e1];exact .inr rfl
theorem add_frs {Z:World} {base:Nat} {v0 x:Value} {m l:List Fr} (hown:OwnR Z base v0 m) (hx:FrsAt Z x l) (hl:m.length+l.length≤1000000) (hbase:base≤Z.heap.size) :
 ∃ v1 w1,(Builtin.append_ #[34,34] 34 #[v0,x]).run Tryz.prog Z=.ok v1 w1∧OwnR w1 base v1 (m++l)∧Z.grownBy w1 v0.ownBlock∧(v1.ownBlock=v0.ownBlock∨v1.ownBlock=some Z.heap.size):=by
 obtain ⟨i0,hi0,hz0,hz1,hz2⟩:=info43
 obtain ⟨ad,cap,sb,so,rfl,hcap,had,hcell⟩:=hx
 have key:∀ a:Addr,(0<l.length→a=⟨sb,so,none⟩)→∃ v1 w1,(Builtin.append_ #[34,34] 34 #[v0,.slice (some a) l.length cap]).run Tryz.prog Z=.ok v1 w1∧OwnR w1 base v1 (m++l)∧Z.grownBy w1 v0.ownBlock∧(v1.ownBlock=v0.ownBlock∨v1.ownBlock=some Z.heap.size):=fun a ha=>by
  obtain ⟨v',w',h1,h2,h3,h4⟩:=own_app (P:=Tryz.prog) (w:=Z) base 34 34 61 i0 _ 8 40 Tryz.underlying34 hi0 hz0 hz1 hz2 rfl (by decide) v0 m.length (cvs m) hown a l.length cap (cvs l) (cvs_length l) (fun j u hu=>by
   obtain ⟨hi,h⟩:=cvs_at hu
   obtain rfl:=ha (by omega)
   have g1:=hcell _ hi (j % 8) (by omega)
   rw [Addr.add_mid,← h,← g1]
   congr 2;omega) cvs_one (by unfold maxLen;omega) (by omega) hbase
  refine ⟨v',w',h1,?_,h3,h4⟩
  unfold OwnR
  rw [List.length_append,cvs_append]
  exact h2
 cases ad with
 | some a=>exact key a (fun h=>by have:=had h;injection this)
 | none =>
   have hz:l.length=0:=by
    by_cases h:0<l.length
    ·have:=had h;cases this
    ·omega
   have hf:l=[]:=List.eq_nil_of_length_eq_zero hz
   subst hf
   refine ⟨v0,Z,?_,by rw [List.append_nil];exact hown,grown_refl _ _,.inl rfl⟩
   rcases hown.2 with ⟨rfl,_⟩ | ⟨g,c,cur,rfl,_,_,hnc,_⟩
   ·simp [Builtin.append_,run_underlying Tryz.underlying34,sizeOf,typeInfo,hi0,Builtin.lenOf,Builtin.firstCells]
   ·simp [Builtin.append_,run_underlying Tryz.underlying34,sizeOf,typeInfo,hi0,Builtin.lenOf,Builtin.firstCells,storeCells]
    intro hc
    exact absurd hc (by omega)
theorem frs_one {W:World} {g:Nat} {f:Fr} {cs:Array Value} {t:TypeId} (h:W.heap[g]? = some (.cells cs t (0,0))) (hc:cs=(cv f).toArray):FrsAt W (.slice (some ⟨g,0,none⟩) 1 1) [f]:=by
 subst hc
 refine ⟨_,1,g,0,rfl,Nat.le_refl _,fun _=>rfl,fun i hi j hj=>?_⟩
 obtain rfl:i=0:=by simpa using hi
 rw [cell_of_row _ _ _ _ _ _ h,List.getElem?_toArray]
 congr 1;omega
theorem app_frs {w:World} {ops:Array Oper} {rest:List Oper} {o:Oper} {a:Act} {Q:Exit→Act→World→Prop} (hgd:o.guard=none) (s x:Operand)
 (ho:o.op=.call {callee:=.builtin .append,args:=#[s,x],argTypes:=#[34,34]}) (hty:o.type=34) (base:Nat) (v u:Value) (fs gs:List Fr) (hs:a.eval s=v) (hown:OwnR w base v fs)
 (hx:a.eval x=u) (hu:FrsAt w u gs) (hl:fs.length+gs.length≤1000000) (hbase:base≤w.heap.size)
 (h:∀ v' w',Sl (OwnR w' base v' (fs++gs))→Sl (w.grownBy w' v.ownBlock)→wpList Tryz.prog ops Q rest (a.put o.dst v') w'):wpList Tryz.prog ops Q (o :: rest) a w:=by
 obtain ⟨v1,w1,hrun,h1,h2,_⟩:=add_frs hown hu hl hbase
 refine wpList_plain hgd fun K hK=>?_
 unfold Oper.wp
 have hy:(execOp a.eval o).run Tryz.prog w=.ok (.value v1) w1:=by
  simp [execOp,ho,hty,resolve,invoke,builtin,hs,hx,hrun,Result.andThen]
 rw [hy,Oper.upon_value]
 exact hK _ _ (h v1 w1 ⟨h1⟩ ⟨h2⟩)
end Go.Proofs.YtlahonjmfecikaaGreatDoor.Stm
set_option maxRecDepth 100000
namespace Go.Proofs.YtlahonjmfecikaaGreatDoor.Stm
open Go.RowKit MaskPlain FramePlain StreamPlain Mas Fra
structure StrmAt (w0 W:World) (b:Nat) (masked:Bool) (most:Int) (part:List Nat) (err:Nat) (v:Value):Prop where
 X:W.heap[b]? = some (.cells #[.bool masked,.int .i64 most,v,.int .i64 (err:Int)] 119 (0,0))
 O:W.ownsRow w0.heap.size 5 1 v part.length (u8s part)
 B:w0.heap.size≤b
 L:Below w0.heap.size w0 W
def ob (v:Value) (b:Nat):Nat:=v.ownBlock.getD b
section
variable {w0 W W':World} {b:Nat} {masked:Bool} {most:Int} {part:List Nat} {err:Nat} {v:Value}
theorem StrmAt.lt (h:StrmAt w0 W b masked most part err v):b<W.heap.size:=(Array.getElem?_eq_some_iff.1 h.X).1
theorem StrmAt.below (h:StrmAt w0 W b masked most part err v) (k:Below W.heap.size W W'):StrmAt w0 W' b masked most part err v :=
 ⟨below_key h.X k,own_below h.O k,h.B,h.L.trans (k.mono h.L.size)⟩
theorem StrmAt.slice (h:StrmAt w0 W b masked most part err v):∃ a c,v=.slice a part.length c∧part.length≤c:=by
 rcases h.O.2 with ⟨rfl,hz⟩ | ⟨g,cap,cur,rfl,_,_,hc,_⟩
 ·rw [hz];exact ⟨_,_,rfl,Nat.le_refl _⟩
 ·exact ⟨_,_,rfl,hc⟩
theorem own_src' {base:Nat} {bs:List Nat} (h:W.ownsRow base 5 1 v bs.length (u8s bs)):SrcAt W v bs:=by
 by_cases hp:0<bs.length
 ·obtain ⟨_,_,_,_,k⟩:=own_src h hp;exact k
 ·obtain rfl:bs=[]:=List.eq_nil_of_length_eq_zero (by omega)
  rcases h.2 with ⟨rfl,hz⟩ | ⟨g,cap,cur,rfl,_,_,hc,_⟩
  ·exact ⟨none,0,0,0,rfl,Nat.le_refl _,fun h=>absurd h (by decide),fun i hi=>absurd hi (by simp)⟩
  ·exact ⟨_,cap,g,0,rfl,hc,fun _=>rfl,fun i hi=>absurd hi (by simp)⟩
theorem StrmAt.src (h:StrmAt w0 W b masked most part err v):SrcAt W v part:=own_src' h.O
theorem StrmAt.cells (h:StrmAt w0 W b masked most part err v):W.cell? ⟨b,0,none⟩=some (.bool masked)∧W.cell? ⟨b,1,none⟩=some (.int .i64 most)∧W.cell? ⟨b,2,none⟩=some v∧W.cell? ⟨b,3,none⟩=some (.int .i64 (err:Int)):=by
 refine ⟨?_,?_,?_,?_⟩<;>(rw [cell_of_row _ _ _ _ _ _ h.X];rfl)
theorem StrmAt.froz (h:StrmAt w0 W b masked most part err v) (i:Nat):W.frozen? ⟨b,i,none⟩=false:=frozen_of_row _ _ _ _ _ h.X
end
theorem new_yes (masked:Bool) (most:Int) (w0 w:World) (hL:Below w0.heap.size w0 w) (hm:125≤most∧most≤65536) :
 Calls Tryz.prog 38 #[.bool masked,.int .i64 most] w fun e w'=>e=.returned (.tuple #[.pointer (some ⟨w.heap.size,0,none⟩),.int .i64 0])∧Sl (StrmAt w0 w' w.heap.size masked most [] 0 (.slice none 0 0))∧Sl (Below w.heap.size w w'):=by
 have h1:(most<125)=False:=eq_false (by omega)
 have h2:(most>65536)=False:=eq_false (by omega)
 have HL:=Sl.mk hL
 clear hm hL
 go_enter Tryz.func38,Tryz.ntmps38
 go_wp2
 go_ret2
 exact ⟨rfl,⟨⟨alloc_new _ _ _ rfl,World.ownsRow_nil _ _ _ _,HL.out.size,HL.out.alloc HL.out.size _⟩⟩,⟨(Below.refl _ _).alloc (Nat.le_refl _) _⟩⟩
theorem part_any {w0 W:World} {b:Nat} {masked:Bool} {most:Int} {part:List Nat} {err:Nat} {v:Value} (h:StrmAt w0 W b masked most part err v) :
 Calls Tryz.prog 67 #[.pointer (some ⟨b,0,none⟩)] W fun e w'=>e=.returned (.int .i64 (part.length:Int))∧W=w':=by
 obtain ⟨a,c,rfl,_⟩:=h.slice
 obtain ⟨_,_,c2,_⟩:=h.cells
 clear h
 obtain ⟨n,hn⟩:∃ n,part.length=n:=⟨_,rfl⟩
 rw [hn] at c2 ⊢
 clear hn
 go_enter Tryz.func67,Tryz.ntmps67
 go_wp2
 go_ret
 exact ⟨rfl,rfl⟩
theorem unlike_any {w0 W:World} {b:Nat} {masked:Bool} {most:Int} {part:List Nat} {err:Nat} {v:Value} (h:StrmAt w0 W b masked most part err v) (y:Nat) (hy:y<256) :
 Calls Tryz.prog 108 #[.pointer (some ⟨b,0,none⟩),.int .u8 (y:Int)] W fun e w'=>e=.returned (.bool (decide (128≤y) != masked))∧W=w':=by
 obtain ⟨c0,_,_,_⟩:=h.cells
 have ha:=and_128 y hy
 clear h
 have hne0:((((if 128≤y then 128 else 0:Nat):Int)) != 0)=decide (128≤y):=by
  by_cases h:128≤y
  ·rw [if_pos h,decide_eq_true h];rfl
  ·rw [if_neg h,decide_eq_false h];rfl
 obtain ⟨ax,hax⟩:∃ ax:Nat,(if 128≤y then 128 else 0:Nat)=ax:=⟨_,rfl⟩
 obtain ⟨d,hd⟩:∃ d,decide (128≤y)=d:=⟨_,rfl⟩
 rw [hax] at ha hne0
 rw [hd] at hne0 ⊢
 clear hax hd
 go_enter Tryz.func108,Tryz.ntmps108
 go_wp2
 go_ret
 exact ⟨rfl,rfl⟩
end Go.Proofs.YtlahonjmfecikaaGreatDoor.Stm
set_option maxRecDepth 100000
namespace Go.Proofs.YtlahonjmfecikaaGreatDoor.Stm
open Go.RowKit MaskPlain FramePlain StreamPlain Mas Fra
theorem getf_zero (a:Option Addr) (cap:Nat) (most:Int) (w:World):Calls Tryz.prog 109 #[.slice a 0 cap,.int .i64 most] w fun e w'=>e=.returned (resF (getF [] most))∧Sl (Below w.heap.size w w'):=by
 obtain ⟨w1,hw1⟩:∃ w1,w.alloc (.cells #[.bool false,.int .i64 0,.bool false,.int .u8 0,.int .u8 0,.int .u8 0,.int .u8 0,.string {data:=#[]}] 61)=w1:=⟨_,rfl⟩
 have HB1:Sl (Below w.heap.size w w1):=⟨by rw [← hw1];exact (bx_below w _).out⟩
 have HZ1:Sl (w1.heap[w.heap.size]? = some (.cells #[.bool false,.int .i64 0,.bool false,.int .u8 0,.int .u8 0,.int .u8 0,.int .u8 0,.string {data:=#[]}] 61 (0,0))):=⟨by rw [← hw1];exact bx_new _ _⟩
 have HQ:Sl (getF [] most=(Fr0,0,90)):=⟨rfl⟩
 go_enter Tryz.func109,Tryz.ntmps109
 have HI:=fr_info (cs:=#[.bool false,.int .i64 0,.bool false,.int .u8 0,.int .u8 0,.int .u8 0,.int .u8 0,.string {data:=#[]}]) rfl
 go_wp2_with (refine wpList_store_row rfl 61 (.tmp 4) (.tmp 14) rfl w.heap.size #[.bool false,.int .i64 0,.bool false,.int .u8 0,.int .u8 0,.int .u8 0,.int .u8 0,.string {data:=#[]}] rfl rfl 61 #[.bool false,.int .i64 0,.bool false,.int .u8 0,.int .u8 0,.int .u8 0,.int .u8 0,.string {data:=#[]}] HZ1.out HI rfl (fr_all _ _ _ _ _ _ _ _) ?_)
 refine bodyPost_ret (ret_fr rfl _ _ w.heap.size 61 _ (0,0) rfl (setRow_heap _ _ _ _ _ _ HZ1.out) rfl) rfl ?_
 rw [HQ.out]
 exact ⟨rfl,⟨below_setRow HB1.out (Nat.le_refl _) _⟩⟩
theorem fget_any (a:Option Addr) (L cap:Nat) (bs:List Nat) (most:Int) (w:World) (hg:Globs w) (hv:SrcAt w (.slice a L cap) bs) (hbl:bs.length=L) (hsm:Small 256 bs) (hm:L≤100000) (hmo:most≤9223372036854775807) :
 Calls Tryz.prog 109 #[.slice a L cap,.int .i64 most] w fun e w'=>e=.returned (resF (getF bs most))∧Sl (Below w.heap.size w w'):=by
 by_cases h0:L=0
 ·subst h0
  obtain rfl:bs=[]:=List.eq_nil_of_length_eq_zero hbl
  exact getf_zero a cap most w
 ·have hv':=hv
  obtain ⟨a',c',sb,so,he,_,ha,_⟩:=hv'
  injection he with e1 e2 e3
  rw [ha (by omega)] at e1
  subst e1
  exact getf_any sb so L cap bs most w hg hv hbl hsm hm hmo
theorem slice_to {W:World} {ev:Operand→Value} {o:Oper} {x:Operand} {sb so L cap:Nat} (ho:o.op=.slice 49 x none (some (.const (.int .i64 1))) none) (hx:ev x=.slice (some ⟨sb,so,none⟩) L cap) (hev:ev (.const (.int .i64 1))=.int .i64 1) (hc:1≤cap) :
 (execOp ev o).run Tryz.prog W=.ok (.value (.slice (some ⟨sb,so,none⟩) 1 cap)) W:=by
 simp only [execOp,ho,hx,hev,Option.map_some,Option.map_none]
 have hc':(1:Int)≤(cap:Int):=by omega
 go_simp
theorem one_short {bs:List Nat} (h:bs.length≤1) (masked:Bool) (most:Int):one bs masked most=getF bs most:=by
 match bs,h with
 | [],_=>rfl
 | [x],_ =>
   by_cases hb:bad x=true
   ·rw [one_cons,if_pos hb,get_cons,if_pos hb]
   ·rw [one_cons,if_neg hb,if_neg (fun hh=>absurd hh.1 (by decide))]
theorem one_like {x y:Nat} {ys:List Nat} {masked:Bool} (h:(decide (128≤y) != masked)=false) (most:Int):one (x :: y :: ys) masked most=getF (x :: y :: ys) most:=by
 by_cases hb:bad x=true
 ·rw [one_cons,if_pos hb,get_cons,if_pos hb]
 ·rw [one_cons,if_neg hb,if_neg (fun hh=>hh.2 (by simpa using h))]
theorem one_unlike {x y:Nat} {ys:List Nat} {masked:Bool} (hb:bad x=false) (h:(decide (128≤y) != masked)=true) (most:Int):one (x :: y :: ys) masked most=(Fr0,0,100):=by
 rw [one_cons,if_neg (by rw [hb];decide),if_pos ⟨by simp,by simpa using h⟩]
theorem val_parts (f:Fr):∃ rf ro rm,∃ ka kb kc kd:Nat,∃ rd,valF f=(.agg #[.bool rf,.int .i64 ro,.bool rm,.int .u8 ((ka:Nat):Int),.int .u8 ((kb:Nat):Int),.int .u8 ((kc:Nat):Int),.int .u8 ((kd:Nat):Int),.string rd]):=⟨_,_,_,_,_,_,_,_,rfl⟩
set_option maxHeartbeats 4000000 in
theorem get_any {w0 W:World} {b:Nat} {masked:Bool} {most:Int} {part:List Nat} {err:Nat} {v:Value} (hs:StrmAt w0 W b masked most part err v) (a:Option Addr) (L cap:Nat) (bs:List Nat) (hg:Globs w0) (hv:SrcAt W (.slice a L cap) bs) (hbl:bs.length=L) (hsm:Small 256 bs) (hm:L≤100000) (hmo:most≤9223372036854775807) :
 Calls Tryz.prog 83 #[.pointer (some ⟨b,0,none⟩),.slice a L cap] W fun e w'=>e=.returned (resF (one bs masked most))∧Sl (Below W.heap.size W w'):=by
 have HG:=Sl.mk hg
 have HV:=Sl.mk hv
 have HST:=Sl.mk hs
 obtain ⟨f,n,k,hgf⟩:∃ f n k,getF bs most=(f,n,k):=⟨_,_,_,rfl⟩
 obtain ⟨rf,ro,rm,ka,kb,kc,kd,rd,hval⟩:=val_parts f
 have FW:∀ V,Globs V→SrcAt V (.slice a L cap) bs→Calls Tryz.prog 109 #[.slice a L cap,.int .i64 most] V fun e w'=>e=.returned (.tuple #[.agg #[.bool rf,.int .i64 ro,.bool rm,.int .u8 ((ka:Nat):Int),.int .u8 ((kb:Nat):Int),.int .u8 ((kc:Nat):Int),.int .u8 ((kd:Nat):Int),.string rd],.int .i64 (n:Int),.int .i64 (k:Int)])∧Sl (Below V.heap.size V w'):=fun V h1 h2=>by
  have:=fget_any a L cap bs most V h1 h2 hbl hsm hm hmo
  rw [hgf,resF,hval] at this
  exact this
 obtain ⟨wa,hwa⟩:∃ w1,W.alloc (.cells #[.bool false,.int .i64 0,.bool false,.int .u8 0,.int .u8 0,.int .u8 0,.int .u8 0,.string {data:=#[]}] 61)=w1:=⟨_,rfl⟩
 have HB1:Sl (Below W.heap.size W wa):=⟨by rw [← hwa];exact (bx_below W _).out⟩
 have HZ1:Sl (wa.heap[W.heap.size]? = some (.cells #[.bool false,.int .i64 0,.bool false,.int .u8 0,.int .u8 0,.int .u8 0,.int .u8 0,.string {data:=#[]}] 61 (0,0))):=⟨by rw [← hwa];exact bx_new _ _⟩
 have HST1:Sl (StrmAt w0 wa b masked most part err v):=⟨hs.below HB1.out⟩
 obtain ⟨_,c1,_,_⟩:=HST1.out.cells
 by_cases hL:L≤1
 ·have hq:((L:Int)>1)=False:=eq_false (by omega)
  have HQ:Sl (resF (one bs masked most)=.tuple #[.agg #[.bool rf,.int .i64 ro,.bool rm,.int .u8 ((ka:Nat):Int),.int .u8 ((kb:Nat):Int),.int .u8 ((kc:Nat):Int),.int .u8 ((kd:Nat):Int),.string rd],.int .i64 (n:Int),.int .i64 (k:Int)]):=⟨by
   rw [one_short (by omega),hgf,resF,hval]⟩
  clear hgf hval hs hg hv hbl hsm hm hmo hL
  go_enter Tryz.func83,Tryz.ntmps83
  go_wp2_with fail
  refine (FW wa (HG.out.below HST1.out.L HG.out.size) (HV.out.below (Nat.le_refl _) HB1.out)).mono ?_
  rintro e w4 ⟨rfl,HX4⟩
  have HB4:Sl (Below W.heap.size W w4):=⟨HB1.out.trans (HX4.out.mono HB1.out.size)⟩
  have HZ4:Sl (w4.heap[W.heap.size]? = some (.cells #[.bool false,.int .i64 0,.bool false,.int .u8 0,.int .u8 0,.int .u8 0,.int .u8 0,.string {data:=#[]}] 61 (0,0))):=⟨below_key HZ1.out HX4.out⟩
  clear FW HX4
  have HI:=fr_info (cs:=#[.bool rf,.int .i64 ro,.bool rm,.int .u8 ((ka:Nat):Int),.int .u8 ((kb:Nat):Int),.int .u8 ((kc:Nat):Int),.int .u8 ((kd:Nat):Int),.string rd]) rfl
  go_wp2_with (refine wpList_store_row rfl 61 (.tmp 4) (.tmp 42) rfl W.heap.size #[.bool rf,.int .i64 ro,.bool rm,.int .u8 ((ka:Nat):Int),.int .u8 ((kb:Nat):Int),.int .u8 ((kc:Nat):Int),.int .u8 ((kd:Nat):Int),.string rd] rfl rfl 61 #[.bool false,.int .i64 0,.bool false,.int .u8 0,.int .u8 0,.int .u8 0,.int .u8 0,.string {data:=#[]}] HZ4.out HI rfl (fr_all _ _ _ _ _ _ _ _) ?_)
  refine bodyPost_ret (ret_fr rfl _ _ W.heap.size 61 _ (0,0) rfl (setRow_heap _ _ _ _ _ _ HZ4.out) rfl) rfl ?_
  rw [HQ.out]
  exact ⟨rfl,⟨below_setRow HB4.out (Nat.le_refl _) _⟩⟩
 ·obtain ⟨x,y,ys,rfl⟩:∃ x y ys,bs=x :: y :: ys:=by
   match bs,hbl with
   | x :: y :: ys,_=>exact ⟨x,y,ys,rfl⟩
   | [x],h=>simp at h;omega
   | [],h=>simp at h;omega
  have hq:((L:Int)>1)=True:=eq_true (by omega)
  have hy:y<256:=hsm y (by simp)
  obtain ⟨sb,so,rfl,hcap,hc1⟩:∃ sb so,a=some ⟨sb,so,none⟩∧L≤cap∧W.cell? ⟨sb,so+1,none⟩=some (.int .u8 (y:Int)):=by
   obtain ⟨a',c',sb,so,he,h1,h2,h3⟩:=hv
   injection he with e1 e2 e3
   exact ⟨sb,so,by rw [e1];exact h2 (by simp),by omega,h3 1 (by simp)⟩
  have hcy:wa.cell? ⟨sb,so+1,none⟩=some (.int .u8 (y:Int)):=(HB1.out.cell (block_lt_of_cell hc1)).trans hc1
  have CU:=unlike_any HST1.out y hy
  obtain ⟨u,hu⟩:∃ u,(decide (128≤y) != masked)=u:=⟨_,rfl⟩
  rw [hu] at CU
  cases u with
  | false =>
    have HQ:Sl (resF (one (x :: y :: ys) masked most)=.tuple #[.agg #[.bool rf,.int .i64 ro,.bool rm,.int .u8 ((ka:Nat):Int),.int .u8 ((kb:Nat):Int),.int .u8 ((kc:Nat):Int),.int .u8 ((kd:Nat):Int),.string rd],.int .i64 (n:Int),.int .i64 (k:Int)]):=⟨by
     rw [one_like hu,hgf,resF,hval]⟩
    clear hgf hval hs hg hv hbl hsm hm hmo hL hu hc1 hy
    go_enter Tryz.func83,Tryz.ntmps83
    go_wp2_with fail
    refine CU.mono ?_
    rintro e w2 ⟨rfl,rfl⟩
    go_wp2_with fail
    refine (FW wa (HG.out.below HST1.out.L HG.out.size) (HV.out.below (Nat.le_refl _) HB1.out)).mono ?_
    rintro e w4 ⟨rfl,HX4⟩
    have HB4:Sl (Below W.heap.size W w4):=⟨HB1.out.trans (HX4.out.mono HB1.out.size)⟩
    have HZ4:Sl (w4.heap[W.heap.size]? = some (.cells #[.bool false,.int .i64 0,.bool false,.int .u8 0,.int .u8 0,.int .u8 0,.int .u8 0,.string {data:=#[]}] 61 (0,0))):=⟨below_key HZ1.out HX4.out⟩
    clear FW HX4
    have HI:=fr_info (cs:=#[.bool rf,.int .i64 ro,.bool rm,.int .u8 ((ka:Nat):Int),.int .u8 ((kb:Nat):Int),.int .u8 ((kc:Nat):Int),.int .u8 ((kd:Nat):Int),.string rd]) rfl
    go_wp2_with (refine wpList_store_row rfl 61 (.tmp 4) (.tmp 42) rfl W.heap.size #[.bool rf,.int .i64 ro,.bool rm,.int .u8 ((ka:Nat):Int),.int .u8 ((kb:Nat):Int),.int .u8 ((kc:Nat):Int),.int .u8 ((kd:Nat):Int),.string rd] rfl rfl 61 #[.bool false,.int .i64 0,.bool false,.int .u8 0,.int .u8 0,.int .u8 0,.int .u8 0,.string {data:=#[]}] HZ4.out HI rfl (fr_all _ _ _ _ _ _ _ _) ?_)
    refine bodyPost_ret (ret_fr rfl _ _ W.heap.size 61 _ (0,0) rfl (setRow_heap _ _ _ _ _ _ HZ4.out) rfl) rfl ?_
    rw [HQ.out]
    exact ⟨rfl,⟨below_setRow HB4.out (Nat.le_refl _) _⟩⟩
  | true =>
    have HQ:Sl (bad x=true→resF (one (x :: y :: ys) masked most)=.tuple #[.agg #[.bool false,.int .i64 0,.bool false,.int .u8 0,.int .u8 0,.int .u8 0,.int .u8 0,.string {data:=#[]}],.int .i64 0,.int .i64 91]):=⟨fun h=>by
     rw [one_cons,if_pos h];rfl⟩
    have HQ2:Sl (bad x=false→resF (one (x :: y :: ys) masked most)=.tuple #[.agg #[.bool false,.int .i64 0,.bool false,.int .u8 0,.int .u8 0,.int .u8 0,.int .u8 0,.string {data:=#[]}],.int .i64 0,.int .i64 100]):=⟨fun h=>by
     rw [one_unlike h hu];rfl⟩
    obtain ⟨f1,n1,k1,hg1⟩:∃ f n k,getF [x] most=(f,n,k):=⟨_,_,_,rfl⟩
    clear hval
    obtain ⟨rf,ro,rm,ka,kb,kc,kd,rd,hval⟩:=val_parts f1
    have HK:Sl ((bad x=true∧k1=91)∨(bad x=false∧k1=90)):=⟨by
     have:=get_first x most
     rw [hg1] at this
     by_cases h:bad x=true
     ·rw [if_pos h] at this;exact .inl ⟨h,this⟩
     ·rw [if_neg h] at this;exact .inr ⟨by simpa using h,this⟩⟩
    have HV1:Sl (SrcAt wa (.slice (some ⟨sb,so,none⟩) 1 cap) [x]):=⟨by
     have h:=src_sub (hv.below (Nat.le_refl _) HB1.out) 0 1 cap so (fun _=>rfl) (by omega) (by omega) hbl
     exact h⟩
    have FO:∀ V,Globs V→SrcAt V (.slice (some ⟨sb,so,none⟩) 1 cap) [x]→Calls Tryz.prog 109 #[.slice (some ⟨sb,so,none⟩) 1 cap,.int .i64 most] V fun e w'=>e=.returned (.tuple #[.agg #[.bool rf,.int .i64 ro,.bool rm,.int .u8 ((ka:Nat):Int),.int .u8 ((kb:Nat):Int),.int .u8 ((kc:Nat):Int),.int .u8 ((kd:Nat):Int),.string rd],.int .i64 (n1:Int),.int .i64 (k1:Int)])∧Sl (Below V.heap.size V w'):=fun V h1 h2=>by
     have:=fget_any (some ⟨sb,so,none⟩) 1 cap [x] most V h1 h2 rfl (fun z hz=>hsm z (by simp at hz;simp [hz])) (by omega) hmo
     rw [hg1,resF,hval] at this
     exact this
    have hcap:1≤cap:=by omega
    clear hgf hval hg1 hs hg hv hbl hsm hm hmo hL hu hc1 hy FW
    go_enter Tryz.func83,Tryz.ntmps83
    go_wp2_with fail
    refine CU.mono ?_
    rintro e w2 ⟨rfl,rfl⟩
    clear CU
    go_upto_region 2 with fail
    obtain ⟨R,hR⟩:∃ R,wa.drew=R:=⟨_,rfl⟩
    have HS0:Below wa.heap.size wa R:=by rw [← hR];exact (Below.refl _ _).drew
    refine wp_region_noPanic ?_
    refine wp_region_held (S:=fun V=>Below wa.heap.size wa V) (by kernel_rfl) ?_
    change wpAnyH _ _ _ _ _ _ _ _ wa.drew
    rw [hR]
    clear hR
    refine heldTake (d:=some 21) (op:=.move (Operand.tmp 1)) (g:=none) 0 ?v0z rfl (by kernel_rfl) (by kernel_rfl) (by kernel_rfl) (by kernel_rfl) ?y0z HS0 ?_
    case y0z=>intro o' ho W hS;simp only [execOp,ho];go_simp;try rfl
    simp only [Act.put,List.setIfInBounds_toArray,List.set_cons_zero,List.set_cons_succ]
    refine heldTake (d:=some 22) (op:=.slice 49 (Operand.tmp 21) none (some (Operand.const (Value.int IntKind.i64 1))) none) (g:=none) 1 (.slice (some ⟨sb,so,none⟩) 1 cap) rfl (by kernel_rfl) (by kernel_rfl) (by kernel_rfl) (by kernel_rfl) ?y1z HS0 ?_
    case y1z=>intro o' ho W hS;exact slice_to ho (by rfl) (by rfl) hcap
    simp only [Act.put,List.setIfInBounds_toArray,List.set_cons_zero,List.set_cons_succ]
    refine heldTake (d:=some 23) (op:=.move (Operand.tmp 0)) (g:=none) 2 ?v2z rfl (by kernel_rfl) (by kernel_rfl) (by kernel_rfl) (by kernel_rfl) ?y2z HS0 ?_
    case y2z=>intro o' ho W hS;simp only [execOp,ho];go_simp;try rfl
    simp only [Act.put,List.setIfInBounds_toArray,List.set_cons_zero,List.set_cons_succ]
    refine heldTake (d:=some 24) (op:=.nilCheck (Operand.tmp 23)) (g:=none) 3 ?v3z rfl (by kernel_rfl) (by kernel_rfl) (by kernel_rfl) (by kernel_rfl) ?y3z HS0 ?_
    case y3z=>intro o' ho W hS;simp only [execOp,ho];go_simp;try rfl
    simp only [Act.put,List.setIfInBounds_toArray,List.set_cons_zero,List.set_cons_succ]
    refine heldTake (d:=some 25) (op:=.fieldAddr 119 (Operand.tmp 24) 1) (g:=none) 4 ?v4z rfl (by kernel_rfl) (by kernel_rfl) (by kernel_rfl) (by kernel_rfl) ?y4z HS0 ?_
    case y4z=>intro o' ho W hS;simp only [execOp,ho];go_simp;try rfl
    simp only [Act.put,List.setIfInBounds_toArray,List.set_cons_zero,List.set_cons_succ]
    refine heldTake (d:=some 26) (op:=.load 3 (Operand.tmp 25)) (g:=none) 5 ?v5z rfl (by kernel_rfl) (by kernel_rfl) (by kernel_rfl) (by kernel_rfl) ?y5z HS0 ?_
    case y5z=>intro o' ho W hS;obtain ⟨_,d1,_,_⟩:=(HST1.out.below (hS.mono (Nat.le_refl _))).cells;simp only [execOp,ho];go_simp;try rfl
    simp only [Act.put,List.setIfInBounds_toArray,List.set_cons_zero,List.set_cons_succ]
    obtain ⟨Aw,hA⟩:∃ V,R.alloc (.cells #[.bool false,.int .i64 0,.bool false,.int .u8 0,.int .u8 0,.int .u8 0,.int .u8 0,.string {data:=#[]}] 61)=V:=⟨_,rfl⟩
    have HSA:Below wa.heap.size wa Aw:=by rw [← hA];exact HS0.alloc HS0.size _
    refine heldCA2 (di:=some 7) (opi:=.alloc 61) (dj:=some 27) (opj:=.call {callee:=Callee.value (Operand.func 109),args:=#[Operand.tmp 22,Operand.tmp 26],argTypes:=#[49,3]}) (ti:=0) (tj:=109) 11 6 (.pointer (some ⟨R.heap.size,0,none⟩)) Aw 109 #[.slice (some ⟨sb,so,none⟩) 1 cap,.int .i64 most] rfl rfl (by kernel_rfl) ?y11a ?y6a HSA ?first ?second
    case y11a=>intro o' ho ht;simp only [execOp,ho];go_simp;first | done | rw [hA] | rfl
    case y6a=>intro o' ho ht;simp only [execOp,ho];go_simp;try rfl
    case first =>
     simp only [Act.put,List.setIfInBounds_toArray,List.set_cons_zero,List.set_cons_succ]
     refine heldCall (d:=some 27) (op:=.call {callee:=Callee.value (Operand.func 109),args:=#[Operand.tmp 22,Operand.tmp 26],argTypes:=#[49,3]}) (g:=none) 6 109 #[.slice (some ⟨sb,so,none⟩) 1 cap,.int .i64 most] rfl (by kernel_rfl) (by kernel_rfl) ?y6p ?_
     case y6p=>intro o' ho;simp only [execOp,ho];go_simp;try rfl
     refine (FO Aw (HG.out.below (HST1.out.below HSA).L HG.out.size) (HV1.out.below (Nat.le_refl _) HSA)).mono ?_
     rintro e Zf ⟨rfl,HXZ⟩
     have HSZf:Below wa.heap.size wa Zf:=HSA.trans (HXZ.out.mono HSA.size)
     refine ⟨_,rfl,HSZf,?_⟩
     simp only [Act.put,List.setIfInBounds_toArray,List.set_cons_zero,List.set_cons_succ]
     refine heldTake (d:=some 20) (op:=.move (Operand.tmp 27)) (g:=none) 7 ?v7f rfl (by kernel_rfl) (by kernel_rfl) (by kernel_rfl) (by kernel_rfl) ?y7f HSZf ?_
     case y7f=>intro o' ho W hS;simp only [execOp,ho];go_simp;try rfl
     simp only [Act.put,List.setIfInBounds_toArray,List.set_cons_zero,List.set_cons_succ]
     refine heldTake (d:=some 28) (op:=.extract (Operand.tmp 20) 0) (g:=none) 8 ?v8f rfl (by kernel_rfl) (by kernel_rfl) (by kernel_rfl) (by kernel_rfl) ?y8f HSZf ?_
     case y8f=>intro o' ho W hS;simp only [execOp,ho];go_simp;try rfl
     simp only [Act.put,List.setIfInBounds_toArray,List.set_cons_zero,List.set_cons_succ]
     refine heldTake (d:=some 29) (op:=.extract (Operand.tmp 20) 1) (g:=none) 9 ?v9f rfl (by kernel_rfl) (by kernel_rfl) (by kernel_rfl) (by kernel_rfl) ?y9f HSZf ?_
     case y9f=>intro o' ho W hS;simp only [execOp,ho];go_simp;try rfl
     simp only [Act.put,List.setIfInBounds_toArray,List.set_cons_zero,List.set_cons_succ]
     refine heldTake (d:=some 30) (op:=.extract (Operand.tmp 20) 2) (g:=none) 10 ?v10f rfl (by kernel_rfl) (by kernel_rfl) (by kernel_rfl) (by kernel_rfl) ?y10f HSZf ?_
     case y10f=>intro o' ho W hS;simp only [execOp,ho];go_simp;try rfl
     simp only [Act.put,List.setIfInBounds_toArray,List.set_cons_zero,List.set_cons_succ]
     have HQf:wa.heap.size≤R.heap.size:=HS0.size
     have HFf:Zf.heap[R.heap.size]? = some (.cells #[.bool false,.int .i64 0,.bool false,.int .u8 0,.int .u8 0,.int .u8 0,.int .u8 0,.string {data:=#[]}] 61 (0,0)):=below_key (by rw [← hA];exact bx_new _ _) HXZ.out
     clear HXZ hA HSA
     obtain ⟨Yf,hYf⟩:∃ Y,Zf.setRow R.heap.size #[.bool rf,.int .i64 ro,.bool rm,.int .u8 ((ka:Nat):Int),.int .u8 ((kb:Nat):Int),.int .u8 ((kc:Nat):Int),.int .u8 ((kd:Nat):Int),.string rd]=Y:=⟨_,rfl⟩
     have HSYf:Below wa.heap.size wa Yf:=by rw [← hYf];exact below_setRow HSZf HQf _
     refine heldStore (d:=none) (op:=.store 61 (Operand.tmp 7) (Operand.tmp 28)) (g:=none) (t:=0) 12 Yf rfl (by kernel_rfl) (by kernel_rfl) ?y12f HSYf ?_
     case y12f=>intro o' ho ht;rw [← hYf];exact store8 ho (by rfl) (by rfl) HFf ⟨rfl,rfl⟩ (fr_all _ _ _ _ _ _ _ _)
     simp only [Act.put]
     refine heldTake (d:=some 8) (op:=.assign (Operand.tmp 29)) (g:=none) 13 ?v13f rfl (by kernel_rfl) (by kernel_rfl) (by kernel_rfl) (by kernel_rfl) ?y13f HSYf ?_
     case y13f=>intro o' ho W hS;simp only [execOp,ho];go_simp;try rfl
     simp only [Act.put,List.setIfInBounds_toArray,List.set_cons_zero,List.set_cons_succ]
     refine heldTake (d:=some 9) (op:=.assign (Operand.tmp 30)) (g:=none) 14 ?v14f rfl (by kernel_rfl) (by kernel_rfl) (by kernel_rfl) (by kernel_rfl) ?y14f HSYf ?_
     case y14f=>intro o' ho W hS;simp only [execOp,ho];go_simp;try rfl
     simp only [Act.put,List.setIfInBounds_toArray,List.set_cons_zero,List.set_cons_succ]
     refine wpAnyH_done (by kernel_rfl) ?_ _
     refine NoPanic.normal ?_
     have HBY:Sl (Below W.heap.size W Yf):=⟨HB1.out.trans (HSYf.mono HB1.out.size)⟩
     have HZY:Sl (Yf.heap[W.heap.size]? = some (.cells #[.bool false,.int .i64 0,.bool false,.int .u8 0,.int .u8 0,.int .u8 0,.int .u8 0,.string {data:=#[]}] 61 (0,0))):=⟨below_key HZ1.out HSYf⟩
     clear HS0 HSZf HQf HFf hYf HSYf
     rcases HK.out with ⟨hb,rfl⟩ | ⟨hb,rfl⟩
     ·have hq9:(((91:Nat):Int)==91)=true:=rfl
      have HI:=fr_info (cs:=#[.bool false,.int .i64 0,.bool false,.int .u8 0,.int .u8 0,.int .u8 0,.int .u8 0,.string {data:=#[]}]) rfl
      go_wp2_with (refine wpList_store_row rfl 61 (.tmp 4) (.tmp 33) rfl W.heap.size #[.bool false,.int .i64 0,.bool false,.int .u8 0,.int .u8 0,.int .u8 0,.int .u8 0,.string {data:=#[]}] rfl rfl 61 #[.bool false,.int .i64 0,.bool false,.int .u8 0,.int .u8 0,.int .u8 0,.int .u8 0,.string {data:=#[]}] HZY.out HI rfl (fr_all _ _ _ _ _ _ _ _) ?_)
      refine bodyPost_ret (ret_fr rfl _ _ W.heap.size 61 _ (0,0) rfl (setRow_heap _ _ _ _ _ _ HZY.out) rfl) rfl ?_
      rw [HQ.out hb]
      exact ⟨rfl,⟨below_setRow HBY.out (Nat.le_refl _) _⟩⟩
     ·have hq9:(((90:Nat):Int)==91)=false:=rfl
      have HI:=fr_info (cs:=#[.bool false,.int .i64 0,.bool false,.int .u8 0,.int .u8 0,.int .u8 0,.int .u8 0,.string {data:=#[]}]) rfl
      go_wp2_with (refine wpList_store_row rfl 61 (.tmp 4) (.tmp 35) rfl W.heap.size #[.bool false,.int .i64 0,.bool false,.int .u8 0,.int .u8 0,.int .u8 0,.int .u8 0,.string {data:=#[]}] rfl rfl 61 #[.bool false,.int .i64 0,.bool false,.int .u8 0,.int .u8 0,.int .u8 0,.int .u8 0,.string {data:=#[]}] HZY.out HI rfl (fr_all _ _ _ _ _ _ _ _) ?_)
      refine bodyPost_ret (ret_fr rfl _ _ W.heap.size 61 _ (0,0) rfl (setRow_heap _ _ _ _ _ _ HZY.out) rfl) rfl ?_
      rw [HQ2.out hb]
      exact ⟨rfl,⟨below_setRow HBY.out (Nat.le_refl _) _⟩⟩
    case second =>
     refine (FO R (HG.out.below (HST1.out.below HS0).L HG.out.size) (HV1.out.below (Nat.le_refl _) HS0)).mono ?_
     rintro e Xs ⟨rfl,HXZ⟩
     have HSX:Below wa.heap.size wa Xs:=HS0.trans (HXZ.out.mono HS0.size)
     refine ⟨_,rfl,HSX,?_⟩
     simp only [Act.put,List.setIfInBounds_toArray,List.set_cons_zero,List.set_cons_succ]
     refine heldTake (d:=some 20) (op:=.move (Operand.tmp 27)) (g:=none) 7 ?v7s rfl (by kernel_rfl) (by kernel_rfl) (by kernel_rfl) (by kernel_rfl) ?y7s HSX ?_
     case y7s=>intro o' ho W hS;simp only [execOp,ho];go_simp;try rfl
     simp only [Act.put,List.setIfInBounds_toArray,List.set_cons_zero,List.set_cons_succ]
     refine heldTake (d:=some 28) (op:=.extract (Operand.tmp 20) 0) (g:=none) 8 ?v8s rfl (by kernel_rfl) (by kernel_rfl) (by kernel_rfl) (by kernel_rfl) ?y8s HSX ?_
     case y8s=>intro o' ho W hS;simp only [execOp,ho];go_simp;try rfl
     simp only [Act.put,List.setIfInBounds_toArray,List.set_cons_zero,List.set_cons_succ]
     refine heldTake (d:=some 29) (op:=.extract (Operand.tmp 20) 1) (g:=none) 9 ?v9s rfl (by kernel_rfl) (by kernel_rfl) (by kernel_rfl) (by kernel_rfl) ?y9s HSX ?_
     case y9s=>intro o' ho W hS;simp only [execOp,ho];go_simp;try rfl
     simp only [Act.put,List.setIfInBounds_toArray,List.set_cons_zero,List.set_cons_succ]
     refine heldTake (d:=some 30) (op:=.extract (Operand.tmp 20) 2) (g:=none) 10 ?v10s rfl (by kernel_rfl) (by kernel_rfl) (by kernel_rfl) (by kernel_rfl) ?y10s HSX ?_
     case y10s=>intro o' ho W hS;simp only [execOp,ho];go_simp;try rfl
     simp only [Act.put,List.setIfInBounds_toArray,List.set_cons_zero,List.set_cons_succ]
     obtain ⟨Zs,hZs⟩:∃ V,Xs.alloc (.cells #[.bool false,.int .i64 0,.bool false,.int .u8 0,.int .u8 0,.int .u8 0,.int .u8 0,.string {data:=#[]}] 61)=V:=⟨_,rfl⟩
     have HSZs:Below wa.heap.size wa Zs:=by rw [← hZs];exact HSX.alloc HSX.size _
     refine heldRunT (d:=some 7) (op:=.alloc 61) (g:=none) (t:=0) 11 (.pointer (some ⟨Xs.heap.size,0,none⟩)) Zs rfl (by kernel_rfl) (by kernel_rfl) ?y11s HSZs ?_
     case y11s=>intro o' ho _;simp only [execOp,ho];go_simp;first | done | rw [hZs] | rfl
     simp only [Act.put,List.setIfInBounds_toArray,List.set_cons_zero,List.set_cons_succ]
     have HQs:wa.heap.size≤Xs.heap.size:=HSX.size
     have HFs:Zs.heap[Xs.heap.size]? = some (.cells #[.bool false,.int .i64 0,.bool false,.int .u8 0,.int .u8 0,.int .u8 0,.int .u8 0,.string {data:=#[]}] 61 (0,0)):=by rw [← hZs];exact bx_new _ _
     clear HXZ HSX hZs
     obtain ⟨Ys,hYs⟩:∃ Y,Zs.setRow Xs.heap.size #[.bool rf,.int .i64 ro,.bool rm,.int .u8 ((ka:Nat):Int),.int .u8 ((kb:Nat):Int),.int .u8 ((kc:Nat):Int),.int .u8 ((kd:Nat):Int),.string rd]=Y:=⟨_,rfl⟩
     have HSYs:Below wa.heap.size wa Ys:=by rw [← hYs];exact below_setRow HSZs HQs _
     refine heldStore (d:=none) (op:=.store 61 (Operand.tmp 7) (Operand.tmp 28)) (g:=none) (t:=0) 12 Ys rfl (by kernel_rfl) (by kernel_rfl) ?y12s HSYs ?_
     case y12s=>intro o' ho ht;rw [← hYs];exact store8 ho (by rfl) (by rfl) HFs ⟨rfl,rfl⟩ (fr_all _ _ _ _ _ _ _ _)
     simp only [Act.put]
     refine heldTake (d:=some 8) (op:=.assign (Operand.tmp 29)) (g:=none) 13 ?v13s rfl (by kernel_rfl) (by kernel_rfl) (by kernel_rfl) (by kernel_rfl) ?y13s HSYs ?_
     case y13s=>intro o' ho W hS;simp only [execOp,ho];go_simp;try rfl
     simp only [Act.put,List.setIfInBounds_toArray,List.set_cons_zero,List.set_cons_succ]
     refine heldTake (d:=some 9) (op:=.assign (Operand.tmp 30)) (g:=none) 14 ?v14s rfl (by kernel_rfl) (by kernel_rfl) (by kernel_rfl) (by kernel_rfl) ?y14s HSYs ?_
     case y14s=>intro o' ho W hS;simp only [execOp,ho];go_simp;try rfl
     simp only [Act.put,List.setIfInBounds_toArray,List.set_cons_zero,List.set_cons_succ]
     refine wpAnyH_done (by kernel_rfl) ?_ _
     refine NoPanic.normal ?_
     have HBY:Sl (Below W.heap.size W Ys):=⟨HB1.out.trans (HSYs.mono HB1.out.size)⟩
     have HZY:Sl (Ys.heap[W.heap.size]? = some (.cells #[.bool false,.int .i64 0,.bool false,.int .u8 0,.int .u8 0,.int .u8 0,.int .u8 0,.string {data:=#[]}] 61 (0,0))):=⟨below_key HZ1.out HSYs⟩
     clear HS0 HSZs HQs HFs hYs HSYs
     rcases HK.out with ⟨hb,rfl⟩ | ⟨hb,rfl⟩
     ·have hq9:(((91:Nat):Int)==91)=true:=rfl
      have HI:=fr_info (cs:=#[.bool false,.int .i64 0,.bool false,.int .u8 0,.int .u8 0,.int .u8 0,.int .u8 0,.string {data:=#[]}]) rfl
      go_wp2_with (refine wpList_store_row rfl 61 (.tmp 4) (.tmp 33) rfl W.heap.size #[.bool false,.int .i64 0,.bool false,.int .u8 0,.int .u8 0,.int .u8 0,.int .u8 0,.string {data:=#[]}] rfl rfl 61 #[.bool false,.int .i64 0,.bool false,.int .u8 0,.int .u8 0,.int .u8 0,.int .u8 0,.string {data:=#[]}] HZY.out HI rfl (fr_all _ _ _ _ _ _ _ _) ?_)
      refine bodyPost_ret (ret_fr rfl _ _ W.heap.size 61 _ (0,0) rfl (setRow_heap _ _ _ _ _ _ HZY.out) rfl) rfl ?_
      rw [HQ.out hb]
      exact ⟨rfl,⟨below_setRow HBY.out (Nat.le_refl _) _⟩⟩
     ·have hq9:(((90:Nat):Int)==91)=false:=rfl
      have HI:=fr_info (cs:=#[.bool false,.int .i64 0,.bool false,.int .u8 0,.int .u8 0,.int .u8 0,.int .u8 0,.string {data:=#[]}]) rfl
      go_wp2_with (refine wpList_store_row rfl 61 (.tmp 4) (.tmp 35) rfl W.heap.size #[.bool false,.int .i64 0,.bool false,.int .u8 0,.int .u8 0,.int .u8 0,.int .u8 0,.string {data:=#[]}] rfl rfl 61 #[.bool false,.int .i64 0,.bool false,.int .u8 0,.int .u8 0,.int .u8 0,.int .u8 0,.string {data:=#[]}] HZY.out HI rfl (fr_all _ _ _ _ _ _ _ _) ?_)
      refine bodyPost_ret (ret_fr rfl _ _ W.heap.size 61 _ (0,0) rfl (setRow_heap _ _ _ _ _ _ HZY.out) rfl) rfl ?_
      rw [HQ2.out hb]
      exact ⟨rfl,⟨below_setRow HBY.out (Nat.le_refl _) _⟩⟩
end Go.Proofs.YtlahonjmfecikaaGreatDoor.Stm
set_option maxRecDepth 100000
namespace Go.Proofs.YtlahonjmfecikaaGreatDoor.Stm
open Go.RowKit MaskPlain FramePlain StreamPlain Mas Fra
def fromA (a:Option Addr) (r cap:Nat):Option Addr:=if cap=r then a else a.map (·.add r)
theorem slice_from {W:World} {ev:Operand→Value} {o:Oper} {x y:Operand} {a:Option Addr} {L cap r:Nat} (ho:o.op=.slice 49 x (some y) none none) (hx:ev x=.slice a L cap) (hy:ev y=.int .i64 (r:Int)) (h:r≤L) :
 (execOp ev o).run Tryz.prog W=.ok (.value (.slice (fromA a r cap) (L-r) (cap-r))) W:=by
 have hs:=Tryz.underlying49
 obtain ⟨i0,hi,hz0,hz1,hz2⟩:=info5'
 unfold execOp
 simp only [ho,hx,hy,Option.map_none,Option.map_some,Sem.run_bind]
 rw [run_sliceAt_slice (h:=hs),run_slice_l (ht:=hs) (h0:=by omega) (h1:=by omega)]
 simp [sizeOf,typeInfo,show Tryz.prog.elem 49=5 from rfl,hi,hz1,sliced,fromA]
theorem SrcAt.from {W:World} {a:Option Addr} {L cap r:Nat} {bs:List Nat} (h:SrcAt W (.slice a L cap) bs) (hr:r≤L) (hl:bs.length=L):SrcAt W (.slice (fromA a r cap) (L-r) (cap-r)) (bs.drop r):=by
 obtain ⟨a',c',sb,so,he,h1,h2,h3⟩:=h
 injection he with e1 e2 e3
 subst e1 e3
 refine ⟨_,_,sb,so+r,by rw [List.length_drop,hl],by rw [List.length_drop];omega,fun hp=>?_,fun i hi=>?_⟩
 ·rw [List.length_drop] at hp
  unfold fromA
  rw [if_neg (by omega),h2 (by omega),Option.map_some,Addr.add_mid]
 ·rw [List.length_drop] at hi
  rw [Nat.add_assoc,h3 (r+i) (by omega)]
  congr 3
  rw [List.getD_eq_getElem?_getD,List.getD_eq_getElem?_getD,List.getElem?_drop]
theorem ret_fr2 {fn:Func} {p u:Tmp} (h:fn.results=#[.cell p 61,.tmp u]) (tmps:Array Value) (w:World) (g:Nat) (t:TypeId) (cs:Array Value) (fr:Nat×Nat)
 (hp:tmps.getD p undef=.pointer (some ⟨g,0,none⟩)) (hg:w.heap[g]? = some (.cells cs t fr)) (hs:cs.size=8) :
 (results fn tmps).run Tryz.prog w=.ok (.tuple #[.agg cs,tmps.getD u undef]) w:=by
 have hi:(Tryz.prog.info? 61).map (·.size)=some cs.size:=fr_info hs
 have hp':tmps[p]?.getD undef=.pointer (some ⟨g,0,none⟩):=by simpa using hp
 simp only [results,h]
 simp [Result.andThen,hp',asAddr,run_loadVar_row (P:=Tryz.prog) w g t 61 cs fr _ hg Tryz.underlying61 rfl hi]
theorem grown_then {w w1 w2:World} {r:Option Nat} (h:w.grownBy w1 r) (k:Below w.heap.size w1 w2):w.grownBy w2 r :=
 ⟨k.os.trans h.os,k.tape.trans h.tape,k.output.trans h.output,Nat.le_trans h.size k.size,fun j hj hne=>(k.block j hj).trans (h.block j hj hne)⟩
theorem cell_of_one {W:World} {g:Nat} {v:Value} {t:TypeId} (h:W.heap[g]? = some (.cells #[v] t (0,0))):W.cell? ⟨g,0,none⟩=some v:=by rw [cell_of_row _ _ _ _ _ _ h];rfl
theorem free_of_one {W:World} {g:Nat} {v:Value} {t:TypeId} (h:W.heap[g]? = some (.cells #[v] t (0,0))):W.frozen? ⟨g,0,none⟩=false:=frozen_of_row _ _ _ _ _ h
theorem one_setCell {W:World} {g:Nat} {v u:Value} {t:TypeId} (h:W.heap[g]? = some (.cells #[v] t (0,0))):(W.setCell ⟨g,0,none⟩ u).heap[g]? = some (.cells #[u] t (0,0)):=by
 rw [heap_setCell_same _ _ _ _ _ _ h];rfl
set_option maxHeartbeats 4000000 in
theorem next_any {w0 W:World} {b:Nat} {masked:Bool} {most:Int} {bs:List Nat} {v:Value} (hs:StrmAt w0 W b masked most bs 0 v) (hg:Globs w0) (C R r:Nat) (f:Fr) (n k:Nat) (hC:W.heap[C]? = some (.cells #[.pointer (some ⟨b,0,none⟩)] 77 (0,0))) (hR:W.heap[R]? = some (.cells #[.int .i64 (r:Int)] 3 (0,0)))
 (hr:r≤bs.length) (hsm:Small 256 bs) (hm:bs.length≤100000) (hmo:most≤9223372036854775807) (h1:one (bs.drop r) masked most=(f,n,k)) (hn:r+n≤bs.length) :
 Calls Tryz.prog 82 #[.pointer (some ⟨C,0,none⟩),.pointer (some ⟨R,0,none⟩)] W fun e w'=>e=.returned (.tuple #[valF f,.int .i64 (k:Int)])∧Sl (w'.heap[R]? = some (.cells #[.int .i64 ((r+n:Nat):Int)] 3 (0,0)))∧Sl (W.grownBy w' (some R)):=by
 have HG:=Sl.mk hg
 obtain ⟨rf,ro,rm,ka,kb,kc,kd,rd,hval⟩:=val_parts f
 obtain ⟨a,cap,rfl,hcap⟩:=hs.slice
 obtain ⟨L,hL⟩:∃ L,bs.length=L:=⟨_,rfl⟩
 rw [hL] at hs hcap hr hm hn
 obtain ⟨a',ha'⟩:∃ a',fromA a r cap=a':=⟨_,rfl⟩
 obtain ⟨wa,hwa⟩:∃ w1,W.alloc (.cells #[.bool false,.int .i64 0,.bool false,.int .u8 0,.int .u8 0,.int .u8 0,.int .u8 0,.string {data:=#[]}] 61)=w1:=⟨_,rfl⟩
 have HB1:Sl (Below W.heap.size W wa):=⟨by rw [← hwa];exact (bx_below W _).out⟩
 have HZ1:Sl (wa.heap[W.heap.size]? = some (.cells #[.bool false,.int .i64 0,.bool false,.int .u8 0,.int .u8 0,.int .u8 0,.int .u8 0,.string {data:=#[]}] 61 (0,0))):=⟨by rw [← hwa];exact bx_new _ _⟩
 have HSW:Sl (wa.heap.size=W.heap.size+1):=⟨by rw [← hwa];exact alloc_size _ _⟩
 have HST1:Sl (StrmAt w0 wa b masked most bs 0 (.slice a L cap)):=⟨hs.below HB1.out⟩
 have HR1:Sl (wa.heap[R]? = some (.cells #[.int .i64 (r:Int)] 3 (0,0))):=⟨below_key hR HB1.out⟩
 have HRL:Sl (R<W.heap.size):=⟨(Array.getElem?_eq_some_iff.1 hR).1⟩
 obtain ⟨_,_,hp1,_⟩:=HST1.out.cells
 have hc1:=cell_of_one (below_key hC HB1.out)
 have hr1:=cell_of_one HR1.out
 have hCl:C<wa.heap.size:=block_lt_of_cell hc1
 have hbl:b<wa.heap.size:=block_lt_of_cell hp1
 have hRl:R<wa.heap.size:=block_lt_of_cell hr1
 have hsl:∀ (V:World) (ev:Operand→Value) (o:Oper) (x y:Operand),o.op=.slice 49 x (some y) none none→ev x=.slice a L cap→ev y=.int .i64 (r:Int)→(execOp ev o).run Tryz.prog V=.ok (.value (.slice a' (L-r) (cap-r))) V:=fun V ev o x y ho hx hy=>by
  rw [← ha'];exact slice_from ho hx hy hr
 have CG:∀ V,Below wa.heap.size wa V→Calls Tryz.prog 83 #[.pointer (some ⟨b,0,none⟩),.slice a' (L-r) (cap-r)] V fun e w'=>e=.returned (.tuple #[.agg #[.bool rf,.int .i64 ro,.bool rm,.int .u8 ((ka:Nat):Int),.int .u8 ((kb:Nat):Int),.int .u8 ((kc:Nat):Int),.int .u8 ((kd:Nat):Int),.string rd],.int .i64 (n:Int),.int .i64 (k:Int)])∧Sl (Below V.heap.size V w'):=fun V hB=>by
  have hS:=HST1.out.below hB
  have hsrc:SrcAt V (.slice a' (L-r) (cap-r)) (bs.drop r):=by rw [← ha'];exact SrcAt.from hS.src hr hL
  have:=get_any hS a' (L-r) (cap-r) (bs.drop r) HG.out hsrc (by rw [List.length_drop,hL]) (hsm.drop r) (by omega) hmo
  rw [h1,resF,hval] at this
  exact this
 clear ha' h1 hs hC hR hsm hmo hg hL hcap
 go_enter Tryz.func82,Tryz.ntmps82
 go_upto_region 1 with fail
 obtain ⟨Rw,hRw⟩:∃ R,wa.drew=R:=⟨_,rfl⟩
 have HS0:Below wa.heap.size wa Rw:=by rw [← hRw];exact (Below.refl _ _).drew
 refine wp_region_noPanic ?_
 refine wp_region_held (S:=fun V=>Below wa.heap.size wa V) (by kernel_rfl) ?_
 change wpAnyH _ _ _ _ _ _ _ _ wa.drew
 rw [hRw]
 clear hRw
 refine heldTake (d:=some 8) (op:=.load 77 (Operand.tmp 0)) (g:=none) 0 ?v0 rfl (by kernel_rfl) (by kernel_rfl) (by kernel_rfl) (by kernel_rfl) ?y0 HS0 ?_
 case y0=>intro o' ho W hS;have hcx:W.cell? ⟨C,0,none⟩=some (.pointer (some ⟨b,0,none⟩)):=(hS.cell hCl).trans hc1;simp only [execOp,ho];go_simp;try rfl
 simp only [Act.put,List.setIfInBounds_toArray,List.set_cons_zero,List.set_cons_succ]
 refine heldTake (d:=some 9) (op:=.load 77 (Operand.tmp 0)) (g:=none) 1 ?v1 rfl (by kernel_rfl) (by kernel_rfl) (by kernel_rfl) (by kernel_rfl) ?y1 HS0 ?_
 case y1=>intro o' ho W hS;have hcx:W.cell? ⟨C,0,none⟩=some (.pointer (some ⟨b,0,none⟩)):=(hS.cell hCl).trans hc1;simp only [execOp,ho];go_simp;try rfl
 simp only [Act.put,List.setIfInBounds_toArray,List.set_cons_zero,List.set_cons_succ]
 refine heldTake (d:=some 10) (op:=.nilCheck (Operand.tmp 9)) (g:=none) 2 ?v2 rfl (by kernel_rfl) (by kernel_rfl) (by kernel_rfl) (by kernel_rfl) ?y2 HS0 ?_
 case y2=>intro o' ho W hS;simp only [execOp,ho];go_simp;try rfl
 simp only [Act.put,List.setIfInBounds_toArray,List.set_cons_zero,List.set_cons_succ]
 refine heldTake (d:=some 11) (op:=.fieldAddr 119 (Operand.tmp 10) 2) (g:=none) 3 ?v3 rfl (by kernel_rfl) (by kernel_rfl) (by kernel_rfl) (by kernel_rfl) ?y3 HS0 ?_
 case y3=>intro o' ho W hS;simp only [execOp,ho];go_simp;try rfl
 simp only [Act.put,List.setIfInBounds_toArray,List.set_cons_zero,List.set_cons_succ]
 refine heldTake (d:=some 12) (op:=.load 49 (Operand.tmp 11)) (g:=none) 4 ?v4 rfl (by kernel_rfl) (by kernel_rfl) (by kernel_rfl) (by kernel_rfl) ?y4 HS0 ?_
 case y4=>intro o' ho W hS;have hcx:W.cell? ⟨b,2,none⟩=some (.slice a L cap):=(hS.cell hbl).trans hp1;simp only [execOp,ho];go_simp;try rfl
 simp only [Act.put,List.setIfInBounds_toArray,List.set_cons_zero,List.set_cons_succ]
 refine heldTake (d:=some 13) (op:=.load 3 (Operand.tmp 1)) (g:=none) 5 ?v5 rfl (by kernel_rfl) (by kernel_rfl) (by kernel_rfl) (by kernel_rfl) ?y5 HS0 ?_
 case y5=>intro o' ho W hS;have hcx:W.cell? ⟨R,0,none⟩=some (.int .i64 (r:Int)):=(hS.cell hRl).trans hr1;simp only [execOp,ho];go_simp;try rfl
 simp only [Act.put,List.setIfInBounds_toArray,List.set_cons_zero,List.set_cons_succ]
 refine heldTake (d:=some 14) (op:=.slice 49 (Operand.tmp 12) (some (Operand.tmp 13)) none none) (g:=none) 6 (.slice a' (L-r) (cap-r)) rfl (by kernel_rfl) (by kernel_rfl) (by kernel_rfl) (by kernel_rfl) ?y6 HS0 ?_
 case y6=>intro o' ho W hS;exact hsl W _ o' _ _ ho (by rfl) (by rfl)
 simp only [Act.put,List.setIfInBounds_toArray,List.set_cons_zero,List.set_cons_succ]
 obtain ⟨Aw,hA⟩:∃ V,Rw.alloc (.cells #[.bool false,.int .i64 0,.bool false,.int .u8 0,.int .u8 0,.int .u8 0,.int .u8 0,.string {data:=#[]}] 61)=V:=⟨_,rfl⟩
 have HSA:Below wa.heap.size wa Aw:=by rw [← hA];exact HS0.alloc HS0.size _
 refine heldCA2 (di:=some 4) (opi:=.alloc 61) (dj:=some 15) (opj:=.call {callee:=Callee.value (Operand.func 83),args:=#[Operand.tmp 8,Operand.tmp 14],argTypes:=#[77,49]}) (ti:=0) (tj:=109) 12 7 (.pointer (some ⟨Rw.heap.size,0,none⟩)) Aw 83 #[.pointer (some ⟨b,0,none⟩),.slice a' (L-r) (cap-r)] rfl rfl (by kernel_rfl) ?y12a ?y7a HSA ?first ?second
 case y12a=>intro o' ho ht;simp only [execOp,ho];go_simp;first | done | rw [hA] | rfl
 case y7a=>intro o' ho ht;simp only [execOp,ho];go_simp;try rfl
 case first =>
  simp only [Act.put,List.setIfInBounds_toArray,List.set_cons_zero,List.set_cons_succ]
  refine heldCall (d:=some 15) (op:=.call {callee:=Callee.value (Operand.func 83),args:=#[Operand.tmp 8,Operand.tmp 14],argTypes:=#[77,49]}) (g:=none) 7 83 #[.pointer (some ⟨b,0,none⟩),.slice a' (L-r) (cap-r)] rfl (by kernel_rfl) (by kernel_rfl) ?y7p ?_
  case y7p=>intro o' ho;simp only [execOp,ho];go_simp;try rfl
  refine (CG Aw HSA).mono ?_
  rintro e Zf ⟨rfl,HXZ⟩
  have HSZf:Below wa.heap.size wa Zf:=HSA.trans (HXZ.out.mono HSA.size)
  refine ⟨_,rfl,HSZf,?_⟩
  simp only [Act.put,List.setIfInBounds_toArray,List.set_cons_zero,List.set_cons_succ]
  refine heldTake (d:=some 7) (op:=.move (Operand.tmp 15)) (g:=none) 8 ?v8f rfl (by kernel_rfl) (by kernel_rfl) (by kernel_rfl) (by kernel_rfl) ?y8f HSZf ?_
  case y8f=>intro o' ho W hS;simp only [execOp,ho];go_simp;try rfl
  simp only [Act.put,List.setIfInBounds_toArray,List.set_cons_zero,List.set_cons_succ]
  refine heldTake (d:=some 16) (op:=.extract (Operand.tmp 7) 0) (g:=none) 9 ?v9f rfl (by kernel_rfl) (by kernel_rfl) (by kernel_rfl) (by kernel_rfl) ?y9f HSZf ?_
  case y9f=>intro o' ho W hS;simp only [execOp,ho];go_simp;try rfl
  simp only [Act.put,List.setIfInBounds_toArray,List.set_cons_zero,List.set_cons_succ]
  refine heldTake (d:=some 17) (op:=.extract (Operand.tmp 7) 1) (g:=none) 10 ?v10f rfl (by kernel_rfl) (by kernel_rfl) (by kernel_rfl) (by kernel_rfl) ?y10f HSZf ?_
  case y10f=>intro o' ho W hS;simp only [execOp,ho];go_simp;try rfl
  simp only [Act.put,List.setIfInBounds_toArray,List.set_cons_zero,List.set_cons_succ]
  refine heldTake (d:=some 18) (op:=.extract (Operand.tmp 7) 2) (g:=none) 11 ?v11f rfl (by kernel_rfl) (by kernel_rfl) (by kernel_rfl) (by kernel_rfl) ?y11f HSZf ?_
  case y11f=>intro o' ho W hS;simp only [execOp,ho];go_simp;try rfl
  simp only [Act.put,List.setIfInBounds_toArray,List.set_cons_zero,List.set_cons_succ]
  have HQf:wa.heap.size≤Rw.heap.size:=HS0.size
  have HFf:Zf.heap[Rw.heap.size]? = some (.cells #[.bool false,.int .i64 0,.bool false,.int .u8 0,.int .u8 0,.int .u8 0,.int .u8 0,.string {data:=#[]}] 61 (0,0)):=below_key (by rw [← hA];exact bx_new _ _) HXZ.out
  clear HXZ hA HSA
  obtain ⟨Yf,hYf⟩:∃ Y,Zf.setRow Rw.heap.size #[.bool rf,.int .i64 ro,.bool rm,.int .u8 ((ka:Nat):Int),.int .u8 ((kb:Nat):Int),.int .u8 ((kc:Nat):Int),.int .u8 ((kd:Nat):Int),.string rd]=Y:=⟨_,rfl⟩
  have HSYf:Below wa.heap.size wa Yf:=by rw [← hYf];exact below_setRow HSZf HQf _
  have HFY:Sl (Yf.heap[Rw.heap.size]? = some (.cells #[.bool rf,.int .i64 ro,.bool rm,.int .u8 ((ka:Nat):Int),.int .u8 ((kb:Nat):Int),.int .u8 ((kc:Nat):Int),.int .u8 ((kd:Nat):Int),.string rd] 61 (0,0))):=⟨by rw [← hYf];exact setRow_heap _ _ _ _ _ _ HFf⟩
  refine heldStore (d:=none) (op:=.store 61 (Operand.tmp 4) (Operand.tmp 16)) (g:=none) (t:=0) 13 Yf rfl (by kernel_rfl) (by kernel_rfl) ?y13f HSYf ?_
  case y13f=>intro o' ho ht;rw [← hYf];exact store8 ho (by rfl) (by rfl) HFf ⟨rfl,rfl⟩ (fr_all _ _ _ _ _ _ _ _)
  simp only [Act.put]
  refine heldTake (d:=some 5) (op:=.assign (Operand.tmp 17)) (g:=none) 14 ?v14f rfl (by kernel_rfl) (by kernel_rfl) (by kernel_rfl) (by kernel_rfl) ?y14f HSYf ?_
  case y14f=>intro o' ho W hS;simp only [execOp,ho];go_simp;try rfl
  simp only [Act.put,List.setIfInBounds_toArray,List.set_cons_zero,List.set_cons_succ]
  refine heldTake (d:=some 6) (op:=.assign (Operand.tmp 18)) (g:=none) 15 ?v15f rfl (by kernel_rfl) (by kernel_rfl) (by kernel_rfl) (by kernel_rfl) ?y15f HSYf ?_
  case y15f=>intro o' ho W hS;simp only [execOp,ho];go_simp;try rfl
  simp only [Act.put,List.setIfInBounds_toArray,List.set_cons_zero,List.set_cons_succ]
  refine wpAnyH_done (by kernel_rfl) ?_ _
  refine NoPanic.normal ?_
  have HBY:Sl (Below W.heap.size W Yf):=⟨HB1.out.trans (HSYf.mono HB1.out.size)⟩
  have HZY:Sl (Yf.heap[W.heap.size]? = some (.cells #[.bool false,.int .i64 0,.bool false,.int .u8 0,.int .u8 0,.int .u8 0,.int .u8 0,.string {data:=#[]}] 61 (0,0))):=⟨below_key HZ1.out HSYf⟩
  have HRY:Sl (Yf.heap[R]? = some (.cells #[.int .i64 (r:Int)] 3 (0,0))):=⟨below_key HR1.out HSYf⟩
  have hq:wa.heap.size≤Rw.heap.size:=HQf
  have hlt:R<W.heap.size:=HRL.out
  have hsz:wa.heap.size=W.heap.size+1:=HSW.out
  clear HS0 HSZf HQf HFf hYf HSYf hc1 hp1 hr1 hCl hbl hRl CG
  have HNE:Sl (Rw.heap.size≠R):=⟨by omega⟩
  obtain ⟨e0,e1,e2,e3,e4,e5,e6,e7⟩:=bx8 HFY.out
  have hne:=HNE.out
  have hr2:=cell_of_one HRY.out
  have hf2:=free_of_one HRY.out
  have HI:=fr_info (cs:=#[.bool rf,.int .i64 ro,.bool rm,.int .u8 ((ka:Nat):Int),.int .u8 ((kb:Nat):Int),.int .u8 ((kc:Nat):Int),.int .u8 ((kd:Nat):Int),.string rd]) rfl
  have HZ2:Sl ((Yf.setCell ⟨R,0,none⟩ (.int .i64 ((r:Int)+(n:Int)))).heap[W.heap.size]? = some (.cells #[.bool false,.int .i64 0,.bool false,.int .u8 0,.int .u8 0,.int .u8 0,.int .u8 0,.string {data:=#[]}] 61 (0,0))):=⟨by rw [heap_setCell_other _ _ _ _ (by show W.heap.size≠R;omega)];exact HZY.out⟩
  go_wp2_with (refine wpList_store_row rfl 61 (.tmp 2) (.tmp 22) rfl W.heap.size #[.bool rf,.int .i64 ro,.bool rm,.int .u8 ((ka:Nat):Int),.int .u8 ((kb:Nat):Int),.int .u8 ((kc:Nat):Int),.int .u8 ((kd:Nat):Int),.string rd] rfl rfl 61 #[.bool false,.int .i64 0,.bool false,.int .u8 0,.int .u8 0,.int .u8 0,.int .u8 0,.string {data:=#[]}] HZ2.out HI rfl (fr_all _ _ _ _ _ _ _ _) ?_)
  refine bodyPost_ret (ret_fr2 rfl _ _ W.heap.size 61 _ (0,0) rfl (setRow_heap _ _ _ _ _ _ HZ2.out) rfl) rfl ?_
  refine ⟨by rw [hval];rfl,⟨?_⟩,⟨grown_then (grown_trans (grown_below HBY.out (some R)) (grown_setCell Yf R 0 _)) (below_setRow (Below.refl _ _) (Nat.le_refl _) _)⟩⟩
  rw [setRow_other _ _ _ _ (by omega),one_setCell HRY.out,Int.natCast_add]
 case second =>
  refine (CG Rw HS0).mono ?_
  rintro e Xs ⟨rfl,HXZ⟩
  have HSX:Below wa.heap.size wa Xs:=HS0.trans (HXZ.out.mono HS0.size)
  refine ⟨_,rfl,HSX,?_⟩
  simp only [Act.put,List.setIfInBounds_toArray,List.set_cons_zero,List.set_cons_succ]
  refine heldTake (d:=some 7) (op:=.move (Operand.tmp 15)) (g:=none) 8 ?v8s rfl (by kernel_rfl) (by kernel_rfl) (by kernel_rfl) (by kernel_rfl) ?y8s HSX ?_
  case y8s=>intro o' ho W hS;simp only [execOp,ho];go_simp;try rfl
  simp only [Act.put,List.setIfInBounds_toArray,List.set_cons_zero,List.set_cons_succ]
  refine heldTake (d:=some 16) (op:=.extract (Operand.tmp 7) 0) (g:=none) 9 ?v9s rfl (by kernel_rfl) (by kernel_rfl) (by kernel_rfl) (by kernel_rfl) ?y9s HSX ?_
  case y9s=>intro o' ho W hS;simp only [execOp,ho];go_simp;try rfl
  simp only [Act.put,List.setIfInBounds_toArray,List.set_cons_zero,List.set_cons_succ]
  refine heldTake (d:=some 17) (op:=.extract (Operand.tmp 7) 1) (g:=none) 10 ?v10s rfl (by kernel_rfl) (by kernel_rfl) (by kernel_rfl) (by kernel_rfl) ?y10s HSX ?_
  case y10s=>intro o' ho W hS;simp only [execOp,ho];go_simp;try rfl
  simp only [Act.put,List.setIfInBounds_toArray,List.set_cons_zero,List.set_cons_succ]
  refine heldTake (d:=some 18) (op:=.extract (Operand.tmp 7) 2) (g:=none) 11 ?v11s rfl (by kernel_rfl) (by kernel_rfl) (by kernel_rfl) (by kernel_rfl) ?y11s HSX ?_
  case y11s=>intro o' ho W hS;simp only [execOp,ho];go_simp;try rfl
  simp only [Act.put,List.setIfInBounds_toArray,List.set_cons_zero,List.set_cons_succ]
  obtain ⟨Zs,hZs⟩:∃ V,Xs.alloc (.cells #[.bool false,.int .i64 0,.bool false,.int .u8 0,.int .u8 0,.int .u8 0,.int .u8 0,.string {data:=#[]}] 61)=V:=⟨_,rfl⟩
  have HSZs:Below wa.heap.size wa Zs:=by rw [← hZs];exact HSX.alloc HSX.size _
  refine heldRunT (d:=some 4) (op:=.alloc 61) (g:=none) (t:=0) 12 (.pointer (some ⟨Xs.heap.size,0,none⟩)) Zs rfl (by kernel_rfl) (by kernel_rfl) ?y12s HSZs ?_
  case y12s=>intro o' ho _;simp only [execOp,ho];go_simp;first | done | rw [hZs] | rfl
  simp only [Act.put,List.setIfInBounds_toArray,List.set_cons_zero,List.set_cons_succ]
  have HQs:wa.heap.size≤Xs.heap.size:=HSX.size
  have HFs:Zs.heap[Xs.heap.size]? = some (.cells #[.bool false,.int .i64 0,.bool false,.int .u8 0,.int .u8 0,.int .u8 0,.int .u8 0,.string {data:=#[]}] 61 (0,0)):=by rw [← hZs];exact bx_new _ _
  clear HXZ HSX hZs
  obtain ⟨Ys,hYs⟩:∃ Y,Zs.setRow Xs.heap.size #[.bool rf,.int .i64 ro,.bool rm,.int .u8 ((ka:Nat):Int),.int .u8 ((kb:Nat):Int),.int .u8 ((kc:Nat):Int),.int .u8 ((kd:Nat):Int),.string rd]=Y:=⟨_,rfl⟩
  have HSYs:Below wa.heap.size wa Ys:=by rw [← hYs];exact below_setRow HSZs HQs _
  have HFY:Sl (Ys.heap[Xs.heap.size]? = some (.cells #[.bool rf,.int .i64 ro,.bool rm,.int .u8 ((ka:Nat):Int),.int .u8 ((kb:Nat):Int),.int .u8 ((kc:Nat):Int),.int .u8 ((kd:Nat):Int),.string rd] 61 (0,0))):=⟨by rw [← hYs];exact setRow_heap _ _ _ _ _ _ HFs⟩
  refine heldStore (d:=none) (op:=.store 61 (Operand.tmp 4) (Operand.tmp 16)) (g:=none) (t:=0) 13 Ys rfl (by kernel_rfl) (by kernel_rfl) ?y13s HSYs ?_
  case y13s=>intro o' ho ht;rw [← hYs];exact store8 ho (by rfl) (by rfl) HFs ⟨rfl,rfl⟩ (fr_all _ _ _ _ _ _ _ _)
  simp only [Act.put]
  refine heldTake (d:=some 5) (op:=.assign (Operand.tmp 17)) (g:=none) 14 ?v14s rfl (by kernel_rfl) (by kernel_rfl) (by kernel_rfl) (by kernel_rfl) ?y14s HSYs ?_
  case y14s=>intro o' ho W hS;simp only [execOp,ho];go_simp;try rfl
  simp only [Act.put,List.setIfInBounds_toArray,List.set_cons_zero,List.set_cons_succ]
  refine heldTake (d:=some 6) (op:=.assign (Operand.tmp 18)) (g:=none) 15 ?v15s rfl (by kernel_rfl) (by kernel_rfl) (by kernel_rfl) (by kernel_rfl) ?y15s HSYs ?_
  case y15s=>intro o' ho W hS;simp only [execOp,ho];go_simp;try rfl
  simp only [Act.put,List.setIfInBounds_toArray,List.set_cons_zero,List.set_cons_succ]
  refine wpAnyH_done (by kernel_rfl) ?_ _
  refine NoPanic.normal ?_
  have HBY:Sl (Below W.heap.size W Ys):=⟨HB1.out.trans (HSYs.mono HB1.out.size)⟩
  have HZY:Sl (Ys.heap[W.heap.size]? = some (.cells #[.bool false,.int .i64 0,.bool false,.int .u8 0,.int .u8 0,.int .u8 0,.int .u8 0,.string {data:=#[]}] 61 (0,0))):=⟨below_key HZ1.out HSYs⟩
  have HRY:Sl (Ys.heap[R]? = some (.cells #[.int .i64 (r:Int)] 3 (0,0))):=⟨below_key HR1.out HSYs⟩
  have hq:wa.heap.size≤Xs.heap.size:=HQs
  have hlt:R<W.heap.size:=HRL.out
  have hsz:wa.heap.size=W.heap.size+1:=HSW.out
  clear HS0 HSZs HQs HFs hYs HSYs hc1 hp1 hr1 hCl hbl hRl CG
  have HNE:Sl (Xs.heap.size≠R):=⟨by omega⟩
  obtain ⟨e0,e1,e2,e3,e4,e5,e6,e7⟩:=bx8 HFY.out
  have hne:=HNE.out
  have hr2:=cell_of_one HRY.out
  have hf2:=free_of_one HRY.out
  have HI:=fr_info (cs:=#[.bool rf,.int .i64 ro,.bool rm,.int .u8 ((ka:Nat):Int),.int .u8 ((kb:Nat):Int),.int .u8 ((kc:Nat):Int),.int .u8 ((kd:Nat):Int),.string rd]) rfl
  have HZ2:Sl ((Ys.setCell ⟨R,0,none⟩ (.int .i64 ((r:Int)+(n:Int)))).heap[W.heap.size]? = some (.cells #[.bool false,.int .i64 0,.bool false,.int .u8 0,.int .u8 0,.int .u8 0,.int .u8 0,.string {data:=#[]}] 61 (0,0))):=⟨by rw [heap_setCell_other _ _ _ _ (by show W.heap.size≠R;omega)];exact HZY.out⟩
  go_wp2_with (refine wpList_store_row rfl 61 (.tmp 2) (.tmp 22) rfl W.heap.size #[.bool rf,.int .i64 ro,.bool rm,.int .u8 ((ka:Nat):Int),.int .u8 ((kb:Nat):Int),.int .u8 ((kc:Nat):Int),.int .u8 ((kd:Nat):Int),.string rd] rfl rfl 61 #[.bool false,.int .i64 0,.bool false,.int .u8 0,.int .u8 0,.int .u8 0,.int .u8 0,.string {data:=#[]}] HZ2.out HI rfl (fr_all _ _ _ _ _ _ _ _) ?_)
  refine bodyPost_ret (ret_fr2 rfl _ _ W.heap.size 61 _ (0,0) rfl (setRow_heap _ _ _ _ _ _ HZ2.out) rfl) rfl ?_
  refine ⟨by rw [hval];rfl,⟨?_⟩,⟨grown_then (grown_trans (grown_below HBY.out (some R)) (grown_setCell Ys R 0 _)) (below_setRow (Below.refl _ _) (Nat.le_refl _) _)⟩⟩
  rw [setRow_other _ _ _ _ (by omega),one_setCell HRY.out,Int.natCast_add]
end Go.Proofs.YtlahonjmfecikaaGreatDoor.Stm
set_option maxRecDepth 100000
namespace Go.Proofs.YtlahonjmfecikaaGreatDoor.Stm
open Go.RowKit MaskPlain FramePlain StreamPlain Mas Fra
def PL (T:List Nat) (masked:Bool) (most:Int) (fs:List Fr) (f:Fr) (k r:Nat):Prop:=∃ r0 n,r=r0+n∧r≤T.length∧one (T.drop r0) masked most=(f,n,k)∧(k≠0→n=0)∧all T masked most=(fs++(all (T.drop r0) masked most).1,(all (T.drop r0) masked most).2)∧2*fs.length≤r0
theorem one_n {s:List Nat} {masked:Bool} {most:Int} {f:Fr} {n k:Nat} (hs:Small 256 s) (h:one s masked most=(f,n,k)):n≤s.length∧(k≠0→n=0)∧(k=0→2≤n):=by
 rcases one_err s masked most with h1 | ⟨e,h1,he⟩
 ·have h2:=one_len hs h1
  rw [h] at h1 h2
  simp only at h1 h2
  exact ⟨h2.2,fun h3=>absurd h1 h3,fun _=>h2.1⟩
 ·rw [h] at h1
  injection h1 with _ h1
  injection h1 with h2 h3
  exact ⟨by omega,fun _=>h2,fun h4=>by omega⟩
theorem pl_start {T:List Nat} (masked:Bool) (most:Int) (hs:Small 256 T):∃ f n k,one (T.drop 0) masked most=(f,n,k)∧n≤T.length∧PL T masked most [] f k n:=by
 obtain ⟨⟨f,n,k⟩,h⟩:∃ x,one T masked most=x:=⟨_,rfl⟩
 obtain ⟨h1,h2,_⟩:=one_n hs h
 exact ⟨f,n,k,h,h1,0,n,by omega,h1,h,h2,by simp,by simp⟩
theorem pl_step {T:List Nat} {masked:Bool} {most:Int} {fs:List Fr} {f:Fr} {r:Nat} (hs:Small 256 T) (h:PL T masked most fs f 0 r) :
 ∃ f' n' k',one (T.drop r) masked most=(f',n',k')∧r+n'≤T.length∧PL T masked most (fs++[f]) f' k' (r+n'):=by
 obtain ⟨r0,n,rfl,hr,h1,_,h3,h4⟩:=h
 obtain ⟨⟨f',n',k'⟩,h'⟩:∃ x,one (T.drop (r0+n)) masked most=x:=⟨_,rfl⟩
 obtain ⟨g1,g2,_⟩:=one_n (hs.drop _) h'
 have g3:=(one_n (hs.drop _) h1).2.2 rfl
 rw [List.length_drop] at g1
 refine ⟨f',n',k',h',by omega,r0+n,n',rfl,by omega,h',g2,?_,by rw [List.length_append];simp;omega⟩
 rw [h3,all_step (T.drop r0) masked most (hs.drop _),h1,if_neg (by simp),if_neg (by simp),List.drop_drop]
 simp
theorem pl_more {T:List Nat} {masked:Bool} {most:Int} {fs:List Fr} {f:Fr} {r:Nat} (hs:Small 256 T) (h:PL T masked most fs f 90 r):all T masked most=(fs,0,T.length-r)∧r≤T.length:=by
 obtain ⟨r0,n,rfl,hr,h1,h2,h3,_⟩:=h
 obtain rfl:=h2 (by decide)
 rw [h3,all_step (T.drop r0) masked most (hs.drop _),h1,if_pos rfl,List.length_drop]
 simp at hr ⊢;omega
theorem pl_err {T:List Nat} {masked:Bool} {most:Int} {fs:List Fr} {f:Fr} {k r:Nat} (hs:Small 256 T) (h:PL T masked most fs f k r) (h0:k≠0) (h9:k≠90):all T masked most=(fs,k,0):=by
 obtain ⟨r0,n,rfl,hr,h1,h2,h3,_⟩:=h
 rw [h3,all_step (T.drop r0) masked most (hs.drop _),h1,if_neg h9,if_pos h0]
 simp
theorem add_bs {Z:World} {base:Nat} {v x:Value} {m l:List Nat} (hown:Z.ownsRow base 5 1 v m.length (u8s m)) (hx:SrcAt Z x l) (hl:m.length+l.length≤1000000) (hbase:base≤Z.heap.size) :
 ∃ v1 w1,(Builtin.append_ #[49,49] 49 #[v,x]).run Tryz.prog Z=.ok v1 w1∧w1.ownsRow base 5 1 v1 (m++l).length (u8s (m++l))∧Z.grownBy w1 v.ownBlock∧(v1.ownBlock=v.ownBlock∨v1.ownBlock=some Z.heap.size):=by
 obtain ⟨i0,hi0,hz0,hz1,hz2⟩:=info5'
 obtain ⟨a,cap,sb,so,rfl,hc,ha,hcell⟩:=hx
 cases a with
 | none =>
   have h0:l=[]:=by
    cases l with
    | nil=>rfl
    | cons x xs=>exact absurd (ha (by simp)) (by simp)
   subst h0
   refine ⟨v,Z,?_,by rw [List.append_nil];exact hown,grown_refl _ _,.inl rfl⟩
   rcases hown.2 with ⟨rfl,_⟩ | ⟨g,c,cur,rfl,_,_,hnc,_⟩
   ·simp [Builtin.append_,run_underlying Tryz.underlying49,sizeOf,typeInfo,hi0,Builtin.lenOf,Builtin.firstCells]
   ·simp [Builtin.append_,run_underlying Tryz.underlying49,sizeOf,typeInfo,hi0,Builtin.lenOf,Builtin.firstCells,storeCells]
    intro hc
    exact absurd hc (by omega)
 | some ad =>
   obtain ⟨v',w',h1,h2,h3,h4⟩:=own_app (P:=Tryz.prog) (w:=Z) base 49 49 5 i0 _ 1 1 Tryz.underlying49 hi0 hz0 hz1 hz2 rfl (by decide) v m.length (u8s m) hown ad l.length cap (u8s l) (by simp) (fun j u hu=>by
    have hj:j<l.length:=by have:=(List.getElem?_eq_some_iff.1 hu).1;simpa using this
    have had:=ha (by omega)
    injection had with had
    subst had
    rw [Addr.add_mid,hcell j hj,← hu,u8s_get l j hj]) (u8s_one l) (by unfold maxLen;omega) (by omega) hbase
   exact ⟨v',w',h1,by rw [List.length_append,u8s_append];exact h2,h3,h4⟩
theorem run_appB {ev:Operand→Value} {o:Oper} {x y:Operand} {Z w1:World} {v0 src v1:Value} {t:TypeId} (ho:o.op=.call {callee:=.builtin .append,args:=#[x,y],argTypes:=#[t,t]}) (ht:o.type=t) (hs:ev x=v0) (hx:ev y=src)
 (hap:(Builtin.append_ #[t,t] t #[v0,src]).run Tryz.prog Z=.ok v1 w1):(execOp ev o).run Tryz.prog Z=.ok (.value v1) w1:=by
 unfold execOp
 simp only [ho,ht,resolve,invoke,builtin,Sem.run_bind,Sem.run_pure,Result.andThen_ok,List.map_toArray,List.map_cons,List.map_nil,hs,hx,hap]
theorem ownB_kind {W:World} {base g n:Nat} {v:Value} {xs:List Value} {cs:Array Value} {t:TypeId} (ho:W.ownsRow base 5 1 v n xs) (h:W.heap[g]? = some (.cells cs t (0,0))) (ht:t≠5):v.ownBlock≠some g:=fun e=>by
 obtain ⟨_,h2⟩:=ho
 rcases h2 with ⟨rfl,_⟩ | ⟨k,cap,cur,rfl,_,hh,_⟩
 ·cases e
 ·obtain rfl:k=g:=by simpa [Value.ownBlock] using e
  rw [h] at hh
  injection hh with hh
  injection hh with _ h4
  exact ht h4
theorem own_base {W:World} {base base' e size n:Nat} {v:Value} {xs:List Value} (h:W.ownsRow base e size v n xs) (hb:base'≤base):W.ownsRow base' e size v n xs:=by
 refine ⟨h.1,?_⟩
 rcases h.2 with hn | ⟨g,cap,cur,rfl,hg,r⟩
 ·exact .inl hn
 ·exact .inr ⟨g,cap,cur,rfl,Nat.le_trans hb hg,r⟩
theorem StrmAt.ge {w0 W:World} {b:Nat} {masked:Bool} {most:Int} {part:List Nat} {err:Nat} {v:Value} (h:StrmAt w0 W b masked most part err v):w0.heap.size≤ob v b:=by
 unfold ob
 rcases h.O.2 with ⟨rfl,hz⟩ | ⟨g,cap,cur,rfl,hg,_⟩
 ·exact h.B
 ·exact hg
theorem ob_ne {v:Value} {b g:Nat} (h1:g≠b) (h2:v.ownBlock≠some g):g≠ob v b:=fun e=>by
 unfold ob at e
 cases h:v.ownBlock with
 | none=>rw [h] at e;exact h1 e
 | some k=>rw [h] at e h2;exact h2 (by rw [e];rfl)
theorem StrmAt.grown {w0 W W':World} {b:Nat} {masked:Bool} {most:Int} {part:List Nat} {err:Nat} {v:Value} {r:Option Nat} (h:StrmAt w0 W b masked most part err v) (g:W.grownBy W' r) (hb:∀ k,r=some k→k≠b∧v.ownBlock≠some k∧w0.heap.size≤k):StrmAt w0 W' b masked most part err v where
 X:=by rw [g.block b h.lt (fun e=>(hb b e.symm).1 rfl)];exact h.X
 O:=h.O.kept g (by cases r with
  | none=>cases hv:v.ownBlock<;>simp
  | some k=>exact .inr (hb k rfl).2.1)
 B:=h.B
 L:=h.L.grown g h.L.size (fun k hk=>(hb k hk).2.2)
theorem two_grown {W w w':World} {b p:Nat} {r:Option Nat} (h:Two W w b p) (g:w.grownBy w' r) (hr:∀ k,r=some k→W.heap.size≤k):Two W w' b p :=
 ⟨g.os.trans h.os,g.tape.trans h.tape,g.output.trans h.output,Nat.le_trans h.size g.size,fun k hk h1 h2=>(g.block k (Nat.lt_of_lt_of_le hk h.size) (fun e=>by have:=hr k e.symm;omega)).trans (h.block k hk h1 h2)⟩
theorem two_below {W w w':World} {b p:Nat} (h:Two W w b p) (g:Below w.heap.size w w'):Two W w' b p:=two_grown h (grown_below g none) (fun k hk=>by cases hk)
theorem strm_fed {w0 W w2:World} {b:Nat} {masked:Bool} {most:Int} {part T:List Nat} {err:Nat} {v v1:Value} (h:StrmAt w0 W b masked most part err v) (g:W.grownBy w2 v.ownBlock) (ho:w2.ownsRow w0.heap.size 5 1 v1 T.length (u8s T)) :
 StrmAt w0 (w2.setCell ⟨b,2,none⟩ v1) b masked most T err v1∧Two W (w2.setCell ⟨b,2,none⟩ v1) b (ob v b):=by
 have hk:=ownB_kind h.O h.X (by decide)
 have hb2:w2.heap[b]? = some (.cells #[.bool masked,.int .i64 most,v,.int .i64 (err:Int)] 119 (0,0)):=by rw [g.block b h.lt (fun e=>hk e.symm)];exact h.X
 have hk2:=ownB_kind ho hb2 (by decide)
 have hL:Below w0.heap.size w0 w2:=h.L.grown g h.L.size (fun k hk=>by have:=(h.O.lt k hk).1;omega)
 refine ⟨⟨by rw [heap_setCell_same _ _ _ _ _ _ hb2];rfl,ho.kept (grown_setCell w2 b 2 v1) (.inr hk2),h.B,hL.grown (grown_setCell w2 b 2 v1) hL.size (fun k hk=>by injection hk with hk;have:=h.B;omega)⟩,?_⟩
 have g2:=grown_setCell w2 b 2 v1
 exact ⟨g2.os.trans g.os,g2.tape.trans g.tape,g2.output.trans g.output,Nat.le_trans g.size g2.size,fun k hk h1 h2=>(g2.block k (Nat.lt_of_lt_of_le hk g.size) (fun e=>h1 (by injection e))).trans (g.block k hk (fun e=>h2 (by unfold ob;rw [← e];rfl)))⟩
structure LR (w0 W:World) (b C R q B:Nat) (masked:Bool) (most:Int) (T:List Nat) (v v1:Value) (wr:World) (u:Value) (fs:List Fr) (f:Fr) (k r:Nat):Prop where
 hS:StrmAt w0 wr b masked most T 0 v1
 hC:wr.heap[C]? = some (.cells #[.pointer (some ⟨b,0,none⟩)] 77 (0,0))
 hR:wr.heap[R]? = some (.cells #[.int .i64 (r:Int)] 3 (0,0))
 hQ:wr.heap[q]? = some (.cells (cv f).toArray 61 (0,0))
 hO:OwnR wr B u fs
 hN:B≤wr.heap.size
 hK:W.heap.size≤R∧W.heap.size≤q∧q<B
 hT:Two W wr b (ob v b)
 hP:PL T masked most fs f k r
section
variable {w0 W wr:World} {b C R q B:Nat} {masked:Bool} {most:Int} {T:List Nat} {v v1 u:Value} {fs:List Fr} {f:Fr} {k r:Nat}
theorem LR.below {w':World} (h:LR w0 W b C R q B masked most T v v1 wr u fs f k r) (g:Below wr.heap.size wr w'):LR w0 W b C R q B masked most T v v1 w' u fs f k r where
 hS:=h.hS.below g
 hC:=below_key h.hC g
 hR:=below_key h.hR g
 hQ:=below_key h.hQ g
 hO:=h.hO.below g
 hN:=Nat.le_trans h.hN g.size
 hK:=h.hK
 hT:=two_below h.hT g
 hP:=h.hP
theorem LR.told {w':World} (h:LR w0 W b C R q B masked most T v v1 wr u fs f k r) (hW:w0.heap.size≤W.heap.size) (g:wr.grownBy w' u.ownBlock) :
 StrmAt w0 w' b masked most T 0 v1∧w'.heap[C]? = some (.cells #[.pointer (some ⟨b,0,none⟩)] 77 (0,0))∧w'.heap[R]? = some (.cells #[.int .i64 (r:Int)] 3 (0,0))∧w'.heap[q]? = some (.cells (cv f).toArray 61 (0,0))∧B≤w'.heap.size∧Two W w' b (ob v b):=by
 obtain ⟨k1,k2,k3⟩:=h.hK
 have kb:=h.hO.kind h.hS.X (by decide)
 have kc:=h.hO.kind h.hC (by decide)
 have kr:=h.hO.kind h.hR (by decide)
 have lt:∀ {j:Nat} {o:Obj},wr.heap[j]? = some o→j<wr.heap.size:=fun h=>(Array.getElem?_eq_some_iff.1 h).1
 refine ⟨h.hS.grown g (fun k hk=>⟨fun e=>kb (by rw [← e];exact hk),fun e=>?_,by have:=h.hO.ge hk;omega⟩),?_,?_,?_,Nat.le_trans h.hN g.size,two_grown h.hT g (fun k hk=>by have:=h.hO.ge hk;omega)⟩
 ·rcases h.hO.2 with ⟨rfl,_⟩ | ⟨g',cap,cur,rfl,_,hh,_⟩
  ·cases hk
  ·obtain rfl:g'=k:=by simpa [Value.ownBlock] using hk
   exact ownB_kind h.hS.O hh (by decide) e
 ·rw [g.block _ (lt h.hC) (fun e=>kc e.symm)];exact h.hC
 ·rw [g.block _ (lt h.hR) (fun e=>kr e.symm)];exact h.hR
 ·rw [g.block _ (lt h.hQ) (fun e=>by have:=h.hO.ge e.symm;omega)];exact h.hQ
theorem LR.next {w1 w2:World} {u':Value} {f':Fr} {k' r':Nat} (hS:StrmAt w0 w1 b masked most T 0 v1) (hC:w1.heap[C]? = some (.cells #[.pointer (some ⟨b,0,none⟩)] 77 (0,0))) (hR:w2.heap[R]? = some (.cells #[.int .i64 (r':Int)] 3 (0,0))) (hR1:w1.heap[R]? = some (.cells #[.int .i64 (r:Int)] 3 (0,0)))
 (hQ:w1.heap[q]? = some (.cells (cv f).toArray 61 (0,0))) (hO:OwnR w1 B u' (fs++[f])) (hN:B≤w1.heap.size) (hK:W.heap.size≤R∧W.heap.size≤q∧q<B) (hT:Two W w1 b (ob v b)) (g:w1.grownBy w2 (some R)) (hP:PL T masked most (fs++[f]) f' k' r') (hW:w0.heap.size≤W.heap.size) :
 LR w0 W b C R q B masked most T v v1 (w2.setRow q (cv f').toArray) u' (fs++[f]) f' k' r':=by
 have lt:∀ {j:Nat} {o:Obj},w1.heap[j]? = some o→j<w1.heap.size:=fun h=>(Array.getElem?_eq_some_iff.1 h).1
 have kq:R≠q:=fun e=>by rw [e,hQ] at hR1;injection hR1 with h;injection h with _ h;exact absurd h (by decide)
 have kc:R≠C:=fun e=>by rw [e,hC] at hR1;injection hR1 with h;injection h with _ h;exact absurd h (by decide)
 have kb:R≠b:=fun e=>by rw [e,hS.X] at hR1;injection hR1 with h;injection h with _ h;exact absurd h (by decide)
 have kqb:q≠b:=fun e=>by rw [e,hS.X] at hQ;injection hQ with h;injection h with _ h;exact absurd h (by decide)
 have kqc:q≠C:=fun e=>by rw [e,hC] at hQ;injection hQ with h;injection h with _ h;exact absurd h (by decide)
 have S2:=hS.grown g (fun k hk=>by
  injection hk with hk
  subst hk
  exact ⟨kb,ownB_kind hS.O hR1 (by decide),by omega⟩)
 have Q2:w2.heap[q]? = some (.cells (cv f).toArray 61 (0,0)):=by rw [g.block _ (lt hQ) (fun e=>kq (by injection e with e;exact e.symm))];exact hQ
 have g2:=grown_setRow w2 q (cv f').toArray
 have O2:OwnR w2 B u' (fs++[f]):=hO.kept g (.inr (hO.kind hR1 (by decide)))
 exact {
  hS:=S2.grown g2 (fun k hk=>by
   injection hk with hk
   subst hk
   exact ⟨kqb,ownB_kind S2.O Q2 (by decide),by omega⟩)
  hC:=by rw [setRow_other _ _ _ _ (fun e=>kqc e.symm),g.block _ (lt hC) (fun e=>kc (by injection e with e;exact e.symm))];exact hC
  hR:=by rw [setRow_other _ _ _ _ kq];exact hR
  hQ:=setRow_heap _ _ _ _ _ _ Q2
  hO:=O2.kept g2 (.inr (fun e=>by have:=O2.ge e;omega))
  hN:=Nat.le_trans hN (Nat.le_trans g.size g2.size)
  hK:=hK
  hT:=two_grown (two_grown hT g (fun k hk=>by injection hk with hk;omega)) g2 (fun k hk=>by injection hk with hk;omega)
  hP:=hP}
end
theorem LR.start {w0 W w4 w5:World} {b C R:Nat} {masked:Bool} {most:Int} {T:List Nat} {v v1:Value} {f:Fr} {k r:Nat} {r0:Int} {z:Array Value} (hS:StrmAt w0 w4 b masked most T 0 v1) (hC:w4.heap[C]? = some (.cells #[.pointer (some ⟨b,0,none⟩)] 77 (0,0))) (hR1:w4.heap[R]? = some (.cells #[.int .i64 r0] 3 (0,0))) (hR:w5.heap[R]? = some (.cells #[.int .i64 (r:Int)] 3 (0,0)))
 (hK:W.heap.size≤R) (hT:Two W w4 b (ob v b)) (g:w4.grownBy w5 (some R)) (hP:PL T masked most [] f k r) (hW:w0.heap.size≤W.heap.size) :
 LR w0 W b C R w5.heap.size (w5.heap.size+1) masked most T v v1 ((w5.alloc (.cells z 61)).setRow w5.heap.size (cv f).toArray) (.slice none 0 0) [] f k r:=by
 have lt:∀ {j:Nat} {o:Obj},w4.heap[j]? = some o→j<w4.heap.size:=fun h=>(Array.getElem?_eq_some_iff.1 h).1
 have kc:R≠C:=fun e=>by rw [e,hC] at hR1;injection hR1 with h;injection h with _ h;exact absurd h (by decide)
 have kb:R≠b:=fun e=>by rw [e,hS.X] at hR1;injection hR1 with h;injection h with _ h;exact absurd h (by decide)
 have S2:=hS.grown g (fun k hk=>by
  injection hk with hk
  subst hk
  exact ⟨kb,ownB_kind hS.O hR1 (by decide),by omega⟩)
 have BL:Below w5.heap.size w5 ((w5.alloc (.cells z 61)).setRow w5.heap.size (cv f).toArray):=below_setRow ((Below.refl _ _).alloc (Nat.le_refl _) _) (Nat.le_refl _) _
 have C2:w5.heap[C]? = some (.cells #[.pointer (some ⟨b,0,none⟩)] 77 (0,0)):=by rw [g.block _ (lt hC) (fun e=>kc (by injection e with e;exact e.symm))];exact hC
 have T2:=two_grown hT g (fun k hk=>by injection hk with hk;omega)
 exact {
  hS:=S2.below BL
  hC:=below_key C2 BL
  hR:=below_key hR BL
  hQ:=setRow_heap _ _ _ _ _ _ (alloc_new _ _ _ rfl)
  hO:=ownR_nil _ _
  hN:=by have:=(grown_setRow (w5.alloc (.cells z 61)) w5.heap.size (cv f).toArray).size;rw [alloc_size] at this;exact this
  hK:=⟨hK,by have:=hT.size;have:=g.size;omega,by omega⟩
  hT:=two_below T2 BL
  hP:=hP}
theorem strm_err {w0 W:World} {b:Nat} {masked:Bool} {most:Int} {T:List Nat} {v1:Value} (h:StrmAt w0 W b masked most T 0 v1) (e:Nat) :
 StrmAt w0 ((W.setCell ⟨b,3,none⟩ (.int .i64 (e:Int))).setCell ⟨b,2,none⟩ (.slice none 0 0)) b masked most [] e (.slice none 0 0)∧W.grownBy ((W.setCell ⟨b,3,none⟩ (.int .i64 (e:Int))).setCell ⟨b,2,none⟩ (.slice none 0 0)) (some b) ∧
  (W.setCell ⟨b,3,none⟩ (.int .i64 (e:Int))).cell? ⟨b,2,none⟩=some v1∧(W.setCell ⟨b,3,none⟩ (.int .i64 (e:Int))).frozen? ⟨b,2,none⟩=false:=by
 have h1:(W.setCell ⟨b,3,none⟩ (.int .i64 (e:Int))).heap[b]? = some (.cells #[.bool masked,.int .i64 most,v1,.int .i64 (e:Int)] 119 (0,0)):=by rw [heap_setCell_same _ _ _ _ _ _ h.X];rfl
 have g:=grown_trans (grown_setCell W b 3 (.int .i64 (e:Int))) (grown_setCell (W.setCell ⟨b,3,none⟩ (.int .i64 (e:Int))) b 2 (.slice none 0 0))
 refine ⟨⟨by rw [heap_setCell_same _ _ _ _ _ _ h1];rfl,World.ownsRow_nil _ _ _ _,h.B,h.L.grown g h.L.size (fun k hk=>by injection hk with hk;have:=h.B;omega)⟩,g,?_,frozen_of_row _ _ _ _ _ h1⟩
 rw [cell_of_row _ _ _ _ _ _ h1];rfl
theorem strm_cut {w0 W w2:World} {b:Nat} {masked:Bool} {most:Int} {part T:List Nat} {err:Nat} {v v1:Value} (h:StrmAt w0 W b masked most part err v) (g:W.grownBy w2 none) (ho:w2.ownsRow w0.heap.size 5 1 v1 T.length (u8s T)) :
 StrmAt w0 (w2.setCell ⟨b,2,none⟩ v1) b masked most T err v1∧W.grownBy (w2.setCell ⟨b,2,none⟩ v1) (some b):=by
 have g':∀ r,W.grownBy w2 r:=fun r=>⟨g.os,g.tape,g.output,g.size,fun k hk _=>g.block k hk (by simp)⟩
 exact ⟨(strm_fed h (g' _) ho).1,grown_trans (g' _) (grown_setCell _ _ _ _)⟩
theorem two_left {W w w':World} {b p:Nat} (h:Two W w b p) (g:w.grownBy w' (some b)):Two W w' b p:=h.trans (Two.left g)
def lenV (v:Value):Nat:=match v with | .slice _ n _=>n | _=>0
theorem OwnR.len {W:World} {base:Nat} {v:Value} {l:List Fr} (h:OwnR W base v l):lenV v=l.length:=by
 obtain ⟨a,c,rfl⟩:=h.slice;rfl
theorem pl_len {T:List Nat} {masked:Bool} {most:Int} {fs:List Fr} {f:Fr} {k r:Nat} (h:PL T masked most fs f k r):fs.length≤T.length∧r≤T.length:=by
 obtain ⟨r0,n,rfl,hr,_,_,_,h4⟩:=h
 omega
end Go.Proofs.YtlahonjmfecikaaGreatDoor.Stm
set_option maxRecDepth 100000
namespace Go.Proofs.YtlahonjmfecikaaGreatDoor.Fra
open Go.RowKit MaskPlain FramePlain Mas
theorem strOf_app (a b:List Nat):strOf (a++b)=strOf a++strOf b:=by
 refine ByteArray.ext ?_
 simp [strOf,strOfNums,ByteArray.data_append]
theorem index_run {W:World} {ev:Operand→Value} {o:Oper} {x:Operand} {s:ByteArray} {L:List Nat} {l:Nat} (ho:o.op=.index 9 x (.const (.int .i64 0))) (hx:ev x=.string s) (hev:ev (.const (.int .i64 0))=.int .i64 0) (hs:bytes s=L∧0<L.length) (hl:L.getD 0 0=l) :
 (execOp ev o).run Tryz.prog W=.ok (.value (.int .u8 (l:Int))) W:=by
 obtain ⟨hs1,hs2⟩:=hs
 have hz:0<s.size:=by rw [← bytes_length,hs1];exact hs2
 have hb:=bytes_getD s 0 hz
 rw [hs1,hl] at hb
 subst hb
 simp only [execOp,ho,hx,hev]
 go_simp
 rfl
end Go.Proofs.YtlahonjmfecikaaGreatDoor.Fra
namespace Go.Proofs.YtlahonjmfecikaaGreatDoor
open Go.RowKit Go.WideShapes Go.ChangeShapes
def StrsAt (W:World) (v:Value) (l:List ByteArray):Prop :=
 ∃ (a:Option Addr) (cap sb so:Nat),v=.slice a l.length cap∧l.length≤maxLen∧(0<l.length→a=some ⟨sb,so,none⟩)∧(∀ i,i<l.length→W.cell? ⟨sb,so+i,none⟩=some (.string (l.getD i ByteArray.empty))) ∧
   ∀ i,(l.getD i ByteArray.empty).size≤maxLen
end Go.Proofs.YtlahonjmfecikaaGreatDoor
