/- The texts below, joined. -/
import Derived.Test.YtlahonjmfecikaaGreatDoorYg
import Derived.Lib.BufferWrite
import Derived.Lib.UnsafeStr
import Derived.Deep.DeepCutAuto
import Derived.StillTailTactics
set_option maxRecDepth 100000
set_option linter.unusedVariables false
set_option linter.unusedSimpArgs false
set_option maxRecDepth 100000
namespace Go.Proofs.YtlahonjmfecikaaGreatDoor.Leg
open Go.RowKit Stm
open FramePlain (Fr Fr0)
open LegPlain (Cf Lg)
open Msg (Kept)
def FRow (W:World) (base:Nat) (v:Value) (l:List Fr):Prop :=
 (v=.slice none 0 0∧l=[])∨∃ (g off cap:Nat) (cs:Array Value),v=.slice (some ⟨g,off,none⟩) l.length cap∧0<l.length∧base≤g∧W.heap[g]? = some (.cells cs 61 (0,0))∧l.length≤cap∧cap≤maxLen∧off+cap*8≤cs.size∧∀ j u,(cvs l)[j]? = some u→cs[off+j]? = some u
theorem frow_nil (W:World) (base:Nat):FRow W base (.slice none 0 0) []:=.inl ⟨rfl,rfl⟩
section
variable {W W':World} {base:Nat} {v:Value} {l:List Fr}
theorem FRow.heap (h:FRow W base v l) {g:Nat} (hg:v.ownBlock=some g):base≤g∧∃ cs,W.heap[g]? = some (.cells cs 61 (0,0)):=by
 rcases h with ⟨rfl,_⟩ | ⟨k,off,cap,cs,rfl,_,hb,hh,_⟩
 ·cases hg
 ·obtain rfl:k=g:=by simpa [Value.ownBlock] using hg
  exact ⟨hb,cs,hh⟩
theorem FRow.lt (h:FRow W base v l) {g:Nat} (hg:v.ownBlock=some g):g<W.heap.size:=by
 obtain ⟨_,cs,hc⟩:=h.heap hg
 exact (Array.getElem?_eq_some_iff.1 hc).1
theorem FRow.block (h:FRow W base v l) (hb:∀ g,v.ownBlock=some g→W'.heap[g]? = W.heap[g]?):FRow W' base v l:=by
 rcases h with h | ⟨g,off,cap,cs,rfl,h1,h2,h3,h4⟩
 ·exact .inl h
 ·exact .inr ⟨g,off,cap,cs,rfl,h1,h2,by rw [hb g rfl];exact h3,h4⟩
theorem FRow.below (h:FRow W base v l) (k:Below W.heap.size W W'):FRow W' base v l:=h.block fun _ hg=>k.block _ (h.lt hg)
theorem FRow.kept (h:FRow W base v l) {S:Nat→Prop} (k:Kept S W W') (hn:∀ g,v.ownBlock=some g→¬ S g):FRow W' base v l:=h.block fun g hg=>k.block g (h.lt hg) (hn g hg)
theorem FRow.grown (h:FRow W base v l) {r:Option Nat} (k:W.grownBy W' r) (hn:∀ g,v.ownBlock=some g→some g≠r):FRow W' base v l:=h.block fun g hg=>k.block g (h.lt hg) (hn g hg)
theorem FRow.slice (h:FRow W base v l):∃ a c,v=.slice a l.length c:=by
 rcases h with ⟨rfl,rfl⟩ | ⟨g,off,cap,cs,rfl,_⟩
 ·exact ⟨_,_,rfl⟩
 ·exact ⟨_,_,rfl⟩
theorem FRow.nil (h:FRow W base v []):v=.slice none 0 0:=by
 rcases h with ⟨rfl,_⟩ | ⟨_,_,_,_,_,hp,_⟩
 ·rfl
 ·exact absurd hp (Nat.lt_irrefl 0)
theorem FRow.one {e:Fr} (h:FRow W base v (e :: l)):∃ g off cap,v=.slice (some ⟨g,off,none⟩) (l.length+1) cap∧l.length+1≤cap:=by
 rcases h with ⟨_,h⟩ | ⟨g,off,cap,cs,rfl,_,_,_,h4,_⟩
 ·cases h
 ·exact ⟨g,off,cap,rfl,h4⟩
theorem FRow.frs (h:FRow W base v l):FrsAt W v l:=by
 rcases h with ⟨rfl,rfl⟩ | ⟨g,off,cap,cs,rfl,h1,h2,h3,h4,h5,h6,h7⟩
 ·exact ⟨none,0,0,0,rfl,Nat.le_refl _,fun h=>absurd h (Nat.lt_irrefl _),fun _ hi=>absurd hi (Nat.not_lt_zero _)⟩
 ·refine ⟨some ⟨g,off,none⟩,cap,g,off,rfl,h4,fun _=>rfl,fun i hi j hj=>?_⟩
  obtain ⟨u,hu⟩:=cv_some (l.getD i Fr0) j hj
  have k:=cvs_get l i hi j hj
  rw [hu] at k ⊢
  rw [cell_of_row _ _ _ _ _ _ h3,Nat.add_assoc]
  exact h7 _ _ k
theorem FRow.kind (h:FRow W base v l) {g:Nat} {cs:Array Value} {t:TypeId} (hg:W.heap[g]? = some (.cells cs t (0,0))) (ht:t≠61):v.ownBlock≠some g:=fun e=>by
 obtain ⟨_,cs',h2⟩:=h.heap e
 rw [hg] at h2
 injection h2 with h2
 injection h2 with _ h3
 exact ht h3
end
theorem FRow.add {Z:World} {base:Nat} {v x:Value} {m:List Fr} {e:Fr} (hown:FRow Z base v m) (hx:FrsAt Z x [e]) (hl:m.length+1≤1000000) (hbase:base≤Z.heap.size) :
 ∃ v1 w1,(Builtin.append_ #[34,34] 34 #[v,x]).run Tryz.prog Z=.ok v1 w1∧FRow w1 base v1 (m++[e])∧Z.grownBy w1 v.ownBlock∧(v1.ownBlock=v.ownBlock∨v1.ownBlock=some Z.heap.size):=by
 obtain ⟨i0,hi0,hz0,hz1,hz2⟩:=info43
 obtain ⟨ad,cap,sb,so,rfl,hcap,had,hcell⟩:=hx
 obtain rfl:=had (Nat.zero_lt_one)
 have hl1:(cvs [e]).length=[e].length*i0.size:=by rw [cvs_length,hz1]
 have hnews:∀ j u,(cvs [e])[j]? = some u→Z.cell? ((⟨sb,so,none⟩:Addr).add j)=some u:=fun j u hu=>by
  obtain ⟨hi,h⟩:=cvs_at hu
  have g1:=hcell _ hi (j % 8) (by omega)
  rw [Addr.add_mid,← h,← g1]
  congr 2;omega
 have hmax:maxLen=9223372036854775807:=rfl
 rcases hown with ⟨rfl,rfl⟩ | ⟨g,off,c,cs,rfl,h1,h2,h3,h4,h5,h6,h7⟩
 ·have hr:=run_append_nil (P:=Tryz.prog) Z 34 34 61 i0 _ Tryz.underlying34 hi0 hz0 ⟨sb,so,none⟩ [e].length cap (cvs [e]) hl1 hnews (by simp) (by simp) (by rw [hz2];simp)
  refine ⟨_,_,hr,.inr ⟨Z.heap.size,0,_,_,rfl,by simp,hbase,heap_alloc_new Z.drew _,grownCap_ge _ _ _ _,grownCap_le_maxLen _ _ _ _ (by simp [hmax]),?_,fun j u hu=>?_⟩,⟨rfl,rfl,rfl,by simp,fun k hk _=>alloc_old Z.drew _ k hk⟩,.inr rfl⟩
  ·have:=grownCap_ge Z [e].length 0 61
   rw [Array.size_append,List.size_toArray,size_zeroCells,cvs_length]
   show 0+_*8≤1*8+_*8
   simp only [List.length_singleton] at this ⊢
   omega
  ·rw [Nat.zero_add,Array.getElem?_append_left (by rw [List.size_toArray];exact (List.getElem?_eq_some_iff.1 hu).1),List.getElem?_toArray]
   exact hu
 ·have holds:∀ j u,(cvs m)[j]? = some u→Z.cell? ((⟨g,off,none⟩:Addr).add j)=some u:=fun j u hu=>by
   rw [Addr.add_mid,cell_of_row _ _ _ _ _ _ h3]
   exact h7 j u hu
  have hlo:(cvs m).length=m.length*i0.size:=by rw [cvs_length,hz1]
  have hcl:cs.toList.length=cs.size:=Array.length_toList
  by_cases hroom:m.length+1≤c
  ·have hst:=run_storeCells_at Tryz.prog g (off+m.length*8) 61 (cvs [e]) 0 cs Z h3 (by rw [cvs_length];simp only [List.length_singleton];omega) cvs_one
   have hf:=run_firstCells_some (P:=Tryz.prog) Z i0.size [e].length ⟨sb,so,none⟩ [e].length cap (cvs [e]) hl1 hnews
   refine ⟨.slice (some ⟨g,off,none⟩) (m++[e]).length c,Z.setRow g (cs.toList.take (off+m.length*8)++cvs [e]++cs.toList.drop (off+m.length*8+(cvs [e]).length)).toArray,?_,.inr ⟨g,off,c,_,rfl,by simp,h2,setRow_heap Z g cs _ 61 _ h3,by simpa using hroom,h5,?_,fun j u hu=>?_⟩,⟨rfl,rfl,rfl,by simp,fun k _ hk=>setRow_other Z g k _ (fun e=>hk (by simp [Value.ownBlock,e]))⟩,.inl rfl⟩
   ·simp only [Nat.add_zero] at hst
    rw [hz1] at hf
    simp only [List.length_singleton] at hf
    simp [Builtin.append_,run_underlying Tryz.underlying34,sizeOf,typeInfo,hi0,hz1,Builtin.lenOf,hroom,hf,Addr.add_lit]
    rw [List.append_assoc] at hst
    simp [hst]
   ·rw [List.size_toArray,List.length_append,List.length_append,List.length_take,List.length_drop,hcl,cvs_length]
    simp only [List.length_singleton]
    omega
   ·have hj:=(List.getElem?_eq_some_iff.1 hu).1
    rw [cvs_append,List.length_append,cvs_length,cvs_length] at hj
    simp only [List.length_singleton] at hj
    rw [cvs_append] at hu
    rw [List.getElem?_toArray,List.append_assoc]
    by_cases hlt:j<m.length*8
    ·rw [List.getElem?_append_left (by rw [List.length_take,hcl];omega),List.getElem?_take_of_lt (by omega)]
     rw [List.getElem?_append_left (by rw [cvs_length];exact hlt)] at hu
     rw [Array.getElem?_toList]
     exact h7 j u hu
    ·rw [List.getElem?_append_right (by rw [List.length_take,hcl];omega),List.length_take,hcl]
     rw [List.getElem?_append_right (by rw [cvs_length];omega),cvs_length] at hu
     rw [show off+j-min (off+m.length*8) cs.size=j-m.length*8 from by omega]
     rw [List.getElem?_append_left (by rw [cvs_length];simp only [List.length_singleton];omega)]
     exact hu
  ·have hr:=run_append_grow (P:=Tryz.prog) Z 34 34 61 i0 _ Tryz.underlying34 hi0 hz0 ⟨g,off,none⟩ m.length c (cvs m) hlo holds ⟨sb,so,none⟩ [e].length cap (cvs [e]) hl1 hnews (by simp only [List.length_singleton];omega) (by simp only [List.length_singleton];omega) (growslice_fits (by simp only [List.length_singleton];omega) (by rw [hz2];simp only [List.length_singleton];omega))
   refine ⟨_,_,hr,.inr ⟨Z.heap.size,0,grownCap Z (m.length+[e].length) c 61,_,by rw [List.length_append],by simp,hbase,heap_alloc_new Z.drew _,by rw [List.length_append];exact grownCap_ge _ _ _ _,grownCap_le_maxLen _ _ _ _ (by rw [hmax];simp only [List.length_singleton];omega),?_,fun j u hu=>?_⟩,⟨rfl,rfl,rfl,by simp,fun k hk _=>alloc_old Z.drew _ k hk⟩,.inr rfl⟩
   ·have:=grownCap_ge Z (m.length+[e].length) c 61
    rw [Array.size_append,Array.size_append,List.size_toArray,List.size_toArray,size_zeroCells,cvs_length,cvs_length]
    show 0+_*8≤m.length*8+1*8+_*8
    simp only [List.length_singleton] at this ⊢
    omega
   ·have hj:=(List.getElem?_eq_some_iff.1 hu).1
    rw [cvs_append,List.length_append] at hj
    rw [Nat.zero_add,Array.getElem?_append_left (by rw [Array.size_append,List.size_toArray,List.size_toArray];exact hj),List.append_toArray,List.getElem?_toArray,← cvs_append]
    exact hu
theorem putL_length:∀ (vs:List Value) (o:Nat) (cs:List Value),(Cut.putL cs o vs).length=cs.length
 | [],_,_=>rfl
 | v :: vs,o,cs=>by rw [Cut.putL,putL_length vs (o+1) (cs.set o v),List.length_set]
theorem putL_other:∀ (vs:List Value) (o k:Nat) (cs:List Value),k<o∨o+vs.length≤k→(Cut.putL cs o vs)[k]? = cs[k]?
 | [],_,_,_,_=>rfl
 | v :: vs,o,k,cs,h=>by
   rw [List.length_cons] at h
   rw [Cut.putL,putL_other vs (o+1) k (cs.set o v) (by omega),List.getElem?_set_ne (by omega)]
theorem FRow.range {W:World} {base g off n cap:Nat} {f:Fr} {l:List Fr} (h:FRow W base (.slice (some ⟨g,off,none⟩) n cap) (f :: l)):W.rangeAt g off (cv f)∧W.there g off 8:=by
 rcases h with ⟨_,h⟩ | ⟨g',off',c,cs,hv,h1,h2,h3,h4,h5,h6,h7⟩
 ·cases h
 ·injection hv with e1 e2 e3
  injection e1 with e1
  injection e1 with e4 e5
  subst e3 e4 e5
  have hc:∀ j,j<8→∃ u,(cv f)[j]? = some u∧W.cell? ⟨g,off+j,none⟩=some u:=fun j hj=>by
   obtain ⟨u,hu⟩:=cv_some f j hj
   refine ⟨u,hu,?_⟩
   rw [cell_of_row _ _ _ _ _ _ h3]
   exact h7 j u (by rw [cvs_cons,List.getElem?_append_left (by simpa [cv] using hj)];exact hu)
  refine ⟨fun j u hu=>?_,fun j hj=>⟨?_,frozen_of_row _ _ _ _ _ h3⟩⟩
  ·have hj:j<8:=by have:=(List.getElem?_eq_some_iff.1 hu).1;simpa [cv] using this
   obtain ⟨u',hu',hc'⟩:=hc j hj
   rw [hu] at hu'
   injection hu' with hu'
   rw [hu'];exact hc'
  ·obtain ⟨u,_,hc'⟩:=hc j hj
   rw [hc'];rfl
def zero8:List Value:=[.bool false,.int .i64 0,.bool false,.int .u8 0,.int .u8 0,.int .u8 0,.int .u8 0,.string {data:=#[]}]
theorem FRow.wipe {W:World} {base g off n cap:Nat} {f:Fr} {l:List Fr} (h:FRow W base (.slice (some ⟨g,off,none⟩) n cap) (f :: l)) :
 W.grownBy (W.setCells g off zero8) (some g)∧(0<l.length→FRow (W.setCells g off zero8) base (.slice (some ⟨g,off+8,none⟩) l.length (cap-1)) l):=by
 refine ⟨grown_setCells g _ _ _,fun hp=>?_⟩
 rcases h with ⟨_,h⟩ | ⟨g',off',c,cs,hv,h1,h2,h3,h4,h5,h6,h7⟩
 ·cases h
 ·injection hv with e1 e2 e3
  injection e1 with e1
  injection e1 with e4 e5
  subst e3 e4 e5
  rw [List.length_cons] at h4
  have hx:=Cut.setCells_row g 61 zero8 off cs.toList W (by simpa using h3)
  refine .inr ⟨g,off+8,cap-1,_,rfl,hp,h2,hx,by omega,by omega,?_,fun j u hu=>?_⟩
  ·rw [List.size_toArray,putL_length,Array.length_toList];omega
  ·have k:=h7 (j+8) u (by rw [cvs_cons,List.getElem?_append_right (by simp [cv])];simpa [cv] using hu)
   rw [List.getElem?_toArray,putL_other _ _ _ _ (.inr (by show off+8≤_;omega)),Array.getElem?_toList,show off+8+j=off+(j+8) from by omega]
   exact k
theorem FRow.setData {W:World} {base g off n cap:Nat} {l:List Fr} (h:FRow W base (.slice (some ⟨g,off,none⟩) n cap) l) (i:Nat) (hi:i<l.length) (d:ByteArray) :
 W.grownBy (W.setCell ⟨g,off+i*8+7,none⟩ (.string d)) (some g)∧FRow (W.setCell ⟨g,off+i*8+7,none⟩ (.string d)) base (.slice (some ⟨g,off,none⟩) n cap) (l.set i {l.getD i Fr0 with data:=bytes d})∧W.frozen? ⟨g,off+i*8+7,none⟩=false∧∃ u,W.cell? ⟨g,off+i*8+7,none⟩=some u:=by
 rcases h with ⟨_,h⟩ | ⟨g',off',c,cs,hv,h1,h2,h3,h4,h5,h6,h7⟩
 ·rw [h] at hi;exact absurd hi (Nat.not_lt_zero _)
 ·injection hv with e1 e2 e3
  injection e1 with e1
  injection e1 with e4 e5
  subst e2 e3 e4 e5
  refine ⟨grown_setCell _ _ _ _,.inr ⟨g,off,cap,_,by rw [List.length_set],by rw [List.length_set];exact h1,h2,heap_setCell_same _ _ _ _ _ _ h3,by rw [List.length_set];exact h4,h5,by simpa using h6,fun j u hu=>?_⟩,frozen_of_row _ _ _ _ _ h3,?_⟩
  ·have hcv:cv {l.getD i Fr0 with data:=bytes d}=(cv (l.getD i Fr0)).set 7 (.string d):=by
    rw [Cut.cv_data,strOf_bytes]
   rw [← Cut.cvs_set l i 7 _ _ hi (by omega) hcv] at hu
   rw [Array.getElem?_setIfInBounds]
   by_cases he:i*8+7=j
   ·subst he
    have hlt:off+i*8+7<cs.size:=by omega
    rw [if_pos (by omega),if_pos (by omega)]
    rw [List.getElem?_set_self (by rw [cvs_length];omega)] at hu
    exact hu
   ·rw [if_neg (by omega)]
    rw [List.getElem?_set_ne he] at hu
    exact h7 j u hu
  ·obtain ⟨u,hu⟩:=cv_some (l.getD i Fr0) 7 (by omega)
   refine ⟨u,?_⟩
   rw [cell_of_row _ _ _ _ _ _ h3,Nat.add_assoc]
   exact h7 _ _ ((cvs_get l i hi 7 (by omega)).trans hu)
theorem _root_.Go.Proofs.YtlahonjmfecikaaGreatDoor.Msg.Kept.wide {S S2:Nat→Prop} {W W':World} (h:Kept S W W') (hs:∀ k,S k→S2 k):Kept S2 W W':=⟨h.os,h.tape,h.output,h.size,fun k hk hn=>h.block k hk (fun e=>hn (hs k e))⟩
def TailAt (W:World) (base:Nat) (v:Value) (bs:List Nat):Prop :=
 ∃ (a:Option Addr) (cap sb so:Nat),v=.slice a bs.length cap∧bs.length≤cap∧(0<bs.length→a=some ⟨sb,so,none⟩∧base≤sb)∧∀ i,i<bs.length→W.cell? ⟨sb,so+i,none⟩=some (.int .u8 ((bs.getD i 0:Nat):Int))
def tblk:Value→Option Nat
 | .slice (some a) n _=>if n=0 then none else some a.block
 | _=>none
theorem tblk_some (a:Addr) (n c:Nat):tblk (.slice (some a) n c)=if n=0 then none else some a.block:=rfl
theorem tail_nil (W:World) (base:Nat):TailAt W base (.slice none 0 0) []:=⟨none,0,0,0,rfl,Nat.le_refl _,fun h=>absurd h (Nat.lt_irrefl _),fun _ hi=>absurd hi (Nat.not_lt_zero _)⟩
section
variable {W W':World} {base:Nat} {v:Value} {bs:List Nat}
theorem TailAt.blk (h:TailAt W base v bs) {k:Nat} (hk:tblk v=some k):0<bs.length∧base≤k∧k<W.heap.size:=by
 obtain ⟨a,cap,sb,so,rfl,h1,h2,h3⟩:=h
 cases a with
 | none=>cases hk
 | some a =>
   rw [tblk_some] at hk
   by_cases hz:bs.length=0
   ·rw [if_pos hz] at hk;cases hk
   ·rw [if_neg hz] at hk
    injection hk with hk
    obtain ⟨e,hb⟩:=h2 (by omega)
    injection e with e
    rw [e] at hk
    have hk:sb=k:=hk
    subst hk
    exact ⟨by omega,hb,block_lt_of_cell (h3 0 (by omega))⟩
theorem TailAt.kept (h:TailAt W base v bs) (hk:∀ k,tblk v=some k→W'.heap[k]? = W.heap[k]?):TailAt W' base v bs:=by
 obtain ⟨a,cap,sb,so,rfl,h1,h2,h3⟩:=h
 refine ⟨a,cap,sb,so,rfl,h1,h2,fun i hi=>?_⟩
 obtain ⟨e,_⟩:=h2 (by omega)
 have hb:W'.heap[sb]? = W.heap[sb]?:=hk sb (by rw [e,tblk_some,if_neg (by omega)])
 rw [World.cell?_of_block (w:=W) hb]
 exact h3 i hi
theorem TailAt.below (h:TailAt W base v bs) (k:Below W.heap.size W W'):TailAt W' base v bs:=h.kept fun j hj=>k.block j (h.blk hj).2.2
theorem TailAt.slice (h:TailAt W base v bs):∃ a c,v=.slice a bs.length c∧bs.length≤c:=by
 obtain ⟨a,cap,sb,so,rfl,h1,_⟩:=h
 exact ⟨_,_,rfl,h1⟩
theorem TailAt.srcN (h:TailAt W base v bs) {p:Nat} (hp:∀ k,tblk v=some k→k≠p):SrcN W p v bs:=by
 obtain ⟨a,cap,sb,so,rfl,h1,h2,h3⟩:=h
 exact ⟨a,cap,sb,so,rfl,h1,fun h=>(h2 h).1,fun h=>hp sb (by rw [(h2 h).1,tblk_some,if_neg (by omega)]),h3⟩
theorem TailAt.from {a:Option Addr} {L cap:Nat} (h:TailAt W base (.slice a L cap) bs) (r:Nat) (hr:r≤L):TailAt W base (.slice (fromA a r cap) (L-r) (cap-r)) (bs.drop r)∧∀ k,tblk (.slice (fromA a r cap) (L-r) (cap-r))=some k→tblk (.slice a L cap)=some k:=by
 obtain ⟨a',cap',sb,so,hv,h1,h2,h3⟩:=h
 injection hv with e1 e2 e3
 subst e1 e2 e3
 refine ⟨⟨_,_,sb,so+r,by rw [List.length_drop],by rw [List.length_drop];omega,fun hp=>?_,fun i hi=>?_⟩,fun k hk=>?_⟩
 ·rw [List.length_drop] at hp
  obtain ⟨e,hb⟩:=h2 (by omega)
  refine ⟨?_,hb⟩
  unfold fromA
  rw [if_neg (by omega),e,Option.map_some,Addr.add_mid]
 ·rw [List.length_drop] at hi
  rw [Nat.add_assoc,h3 (r+i) (by omega)]
  congr 3
  rw [List.getD_eq_getElem?_getD,List.getD_eq_getElem?_getD,List.getElem?_drop]
 ·by_cases hz:bs.length-r=0
  ·exfalso
   cases hf:fromA a r cap with
   | none=>rw [hf] at hk;cases hk
   | some x=>rw [hf,tblk_some,if_pos hz] at hk;cases hk
  ·unfold fromA at hk
   rw [if_neg (by omega)] at hk
   obtain ⟨e,_⟩:=h2 (by omega)
   rw [e,Option.map_some,Addr.add_mid,tblk_some,if_neg hz] at hk
   rw [e,tblk_some,if_neg (by omega)]
   exact hk
end
def Own (L rb rp:Nat) (tv kv qv:Value) (k:Nat):Prop:=k=L∨k=rb∨k=rp∨tblk tv=some k∨kv.ownBlock=some k∨qv.ownBlock=some k
structure OGoes (W W':World) (L rb rp:Nat) (tv kv qv tv' kv' qv':Value):Prop where
 kept:Kept (Own L rb rp tv kv qv) W W'
 mine:∀ k,Own L rb rp tv' kv' qv' k→Own L rb rp tv kv qv k∨W.heap.size≤k
theorem OGoes.below {W W':World} (L rb rp:Nat) (tv kv qv:Value) (h:Below W.heap.size W W'):OGoes W W' L rb rp tv kv qv tv kv qv:=⟨.below h,fun _ hk=>.inl hk⟩
theorem OGoes.trans {W V U:World} {L rb rp:Nat} {tv kv qv t1 k1 q1 t2 k2 q2:Value} (h:OGoes W V L rb rp tv kv qv t1 k1 q1) (k:OGoes V U L rb rp t1 k1 q1 t2 k2 q2):OGoes W U L rb rp tv kv qv t2 k2 q2 :=
 ⟨h.kept.trans k.kept (fun j hj e=>by
  rcases h.mine j e with h1 | h1
  ·exact h1
  ·omega),fun j e=>by
  rcases k.mine j e with h1 | h1
  ·exact h.mine j h1
  ·exact .inr (Nat.le_trans h.kept.size h1)⟩
structure LegAt (w0 W:World) (L sb mb rb rp:Nat) (tv kv qv:Value) (c:Cf) (l:Lg):Prop where
 X:W.heap[L]? = some (.cells #[.int .i64 (c.msg:Int),.int .i64 (c.frm:Int),.pointer (some ⟨sb,0,none⟩),.pointer (some ⟨mb,0,none⟩),.pointer (some ⟨rb,0,none⟩),tv,kv,qv,.bool (!c.masked),.int .u32 (l.draw:Int),.int .i64 (l.wrong:Int),.bool l.sent] 80 (0,0))
 R:Rng.RingH W rb rp c.out l.ring
 T:TailAt W w0.heap.size tv l.tail
 C:FRow W w0.heap.size kv l.ctl
 D:FRow W w0.heap.size qv l.rest
 B:w0.heap.size≤L∧w0.heap.size≤rb∧w0.heap.size≤rp
 tn:∀ k,tblk tv=some k→k≠L∧k≠rb∧k≠rp∧kv.ownBlock≠some k∧qv.ownBlock≠some k
 cn:∀ k,kv.ownBlock=some k→qv.ownBlock≠some k
 dr:l.draw<4294967296
 low:Below w0.heap.size w0 W
section
variable {w0 W W':World} {L sb mb rb rp:Nat} {tv kv qv:Value} {c:Cf} {l:Lg}
theorem LegAt.kinds (h:LegAt w0 W L sb mb rb rp tv kv qv c l):L≠rb∧L≠rp∧rb≠rp∧kv.ownBlock≠some L∧qv.ownBlock≠some L∧kv.ownBlock≠some rb∧qv.ownBlock≠some rb∧kv.ownBlock≠some rp∧qv.ownBlock≠some rp:=by
 obtain ⟨ls,a,hr,_,_⟩:=h.R
 have e1:=hr.hb
 have e2:=hr.hp
 have hx:=h.X
 have t1:∀ {g:Nat} {x y:Obj},W.heap[g]? = some x→W.heap[g]? = some y→x=y:=fun a b=>by rw [a] at b;injection b
 refine ⟨fun e=>?_,fun e=>?_,fun e=>?_,h.C.kind hx (by decide),h.D.kind hx (by decide),h.C.kind e1 (by decide),h.D.kind e1 (by decide),h.C.kind e2 (by decide),h.D.kind e2 (by decide)⟩
 ·subst e
  have:=t1 hx e1
  injection this with _ this
  exact absurd this (by decide)
 ·subst e
  have:=t1 hx e2
  injection this with _ this
  exact absurd this (by decide)
 ·subst e
  have:=t1 e1 e2
  injection this with _ this
  exact absurd this (by decide)
theorem LegAt.lt (h:LegAt w0 W L sb mb rb rp tv kv qv c l):L<W.heap.size:=(Array.getElem?_eq_some_iff.1 h.X).1
theorem LegAt.own (h:LegAt w0 W L sb mb rb rp tv kv qv c l) {k:Nat} (hk:Own L rb rp tv kv qv k):w0.heap.size≤k∧k<W.heap.size:=by
 rcases hk with rfl | rfl | rfl | hk | hk | hk
 ·exact ⟨h.B.1,h.lt⟩
 ·exact ⟨h.B.2.1,h.R.blt⟩
 ·exact ⟨h.B.2.2,h.R.plt⟩
 ·exact (h.T.blk hk).2
 ·exact ⟨(h.C.heap hk).1,h.C.lt hk⟩
 ·exact ⟨(h.D.heap hk).1,h.D.lt hk⟩
theorem ring_same {b p n:Nat} {hs:List Nat} (h:Rng.RingH W b p n hs) (h1:W'.heap[b]? = W.heap[b]?) (h2:W'.heap[p]? = W.heap[p]?):Rng.RingH W' b p n hs:=by
 obtain ⟨l,a,hr,e1,e2⟩:=h
 exact ⟨l,a,⟨by rw [h1];exact hr.hb,by rw [h2];exact hr.hp,hr.ne,hr.lt,hr.le,hr.top,hr.small⟩,e1,e2⟩
theorem LegAt.stay (h:LegAt w0 W L sb mb rb rp tv kv qv c l) {S:Nat→Prop} (hk:Kept S W W') (hn:∀ k,Own L rb rp tv kv qv k→¬ S k) (hL:Below w0.heap.size w0 W'):LegAt w0 W' L sb mb rb rp tv kv qv c l where
 X:=by rw [hk.block L h.lt (hn L (.inl rfl))];exact h.X
 R:=ring_same h.R (hk.block rb h.R.blt (hn rb (.inr (.inl rfl)))) (hk.block rp h.R.plt (hn rp (.inr (.inr (.inl rfl)))))
 T:=h.T.kept fun k e=>hk.block k (h.T.blk e).2.2 (hn k (.inr (.inr (.inr (.inl e)))))
 C:=h.C.kept hk fun g e=>hn g (.inr (.inr (.inr (.inr (.inl e)))))
 D:=h.D.kept hk fun g e=>hn g (.inr (.inr (.inr (.inr (.inr e)))))
 B:=h.B
 tn:=h.tn
 cn:=h.cn
 dr:=h.dr
 low:=hL
theorem LegAt.below (h:LegAt w0 W L sb mb rb rp tv kv qv c l) (k:Below W.heap.size W W'):LegAt w0 W' L sb mb rb rp tv kv qv c l :=
 h.stay (S:=fun _=>False) (.below k) (fun _ _ e=>e) (h.low.trans (k.mono h.low.size))
theorem LegAt.inner (h:LegAt w0 W L sb mb rb rp tv kv qv c l) {m:Lg} (e1:m.ring=l.ring) (e2:m.tail=l.tail) (e3:m.ctl=l.ctl) (e4:m.rest=l.rest) (e5:m.draw=l.draw) (e6:m.wrong=l.wrong) (e7:m.sent=l.sent):LegAt w0 W L sb mb rb rp tv kv qv c m :=
 ⟨by rw [e5,e6,e7];exact h.X,by rw [e1];exact h.R,by rw [e2];exact h.T,by rw [e3];exact h.C,by rw [e4];exact h.D,h.B,h.tn,h.cn,by rw [e5];exact h.dr,h.low⟩
theorem LegAt.cells (h:LegAt w0 W L sb mb rb rp tv kv qv c l):W.cell? ⟨L,0,none⟩=some (.int .i64 (c.msg:Int))∧W.cell? ⟨L,1,none⟩=some (.int .i64 (c.frm:Int))∧W.cell? ⟨L,2,none⟩=some (.pointer (some ⟨sb,0,none⟩))∧W.cell? ⟨L,3,none⟩=some (.pointer (some ⟨mb,0,none⟩))∧W.cell? ⟨L,4,none⟩=some (.pointer (some ⟨rb,0,none⟩)) ∧
 W.cell? ⟨L,5,none⟩=some tv∧W.cell? ⟨L,6,none⟩=some kv∧W.cell? ⟨L,7,none⟩=some qv∧W.cell? ⟨L,8,none⟩=some (.bool (!c.masked))∧W.cell? ⟨L,9,none⟩=some (.int .u32 (l.draw:Int))∧W.cell? ⟨L,10,none⟩=some (.int .i64 (l.wrong:Int))∧W.cell? ⟨L,11,none⟩=some (.bool l.sent):=by
 refine ⟨?_,?_,?_,?_,?_,?_,?_,?_,?_,?_,?_,?_⟩<;>(rw [cell_of_row _ _ _ _ _ _ h.X];rfl)
theorem LegAt.froz (h:LegAt w0 W L sb mb rb rp tv kv qv c l) (i:Nat):W.frozen? ⟨L,i,none⟩=false:=frozen_of_row _ _ _ _ _ h.X
theorem LegAt.step (h:LegAt w0 W L sb mb rb rp tv kv qv c l) {tv' kv' qv':Value} {m:Lg} (hk:Kept (fun j=>j=L∨kv.ownBlock=some j∨qv.ownBlock=some j) W W')
 (hX:W'.heap[L]? = some (.cells #[.int .i64 (c.msg:Int),.int .i64 (c.frm:Int),.pointer (some ⟨sb,0,none⟩),.pointer (some ⟨mb,0,none⟩),.pointer (some ⟨rb,0,none⟩),tv',kv',qv',.bool (!c.masked),.int .u32 (m.draw:Int),.int .i64 (m.wrong:Int),.bool m.sent] 80 (0,0)))
 (hr:m.ring=l.ring) (hT:TailAt W' w0.heap.size tv' m.tail) (hC:FRow W' w0.heap.size kv' m.ctl) (hD:FRow W' w0.heap.size qv' m.rest) (hd:m.draw<4294967296)
 (t1:∀ k,tblk tv'=some k→tblk tv=some k∨W.heap.size≤k) (k1:∀ k,kv'.ownBlock=some k→kv.ownBlock=some k∨W.heap.size≤k) (q1:∀ k,qv'.ownBlock=some k→qv.ownBlock=some k∨W.heap.size≤k)
 (t2:∀ k,tblk tv'=some k→W.heap.size≤k→kv'.ownBlock≠some k∧qv'.ownBlock≠some k) (t3:∀ k,tblk tv'=some k→k<W.heap.size→kv'.ownBlock=some k→kv.ownBlock=some k) (t4:∀ k,tblk tv'=some k→k<W.heap.size→qv'.ownBlock=some k→qv.ownBlock=some k)
 (c2:∀ k,kv'.ownBlock=some k→W.heap.size≤k→qv'.ownBlock≠some k) :
 LegAt w0 W' L sb mb rb rp tv' kv' qv' c m∧OGoes W W' L rb rp tv kv qv tv' kv' qv':=by
 obtain ⟨n1,n2,n3,n4,n5,n6,n7,n8,n9⟩:=h.kinds
 have hL:Below w0.heap.size w0 W':=hk.up h.low (fun k e=>by
  rcases e with rfl | e | e
  ·exact h.B.1
  ·exact (h.C.heap e).1
  ·exact (h.D.heap e).1) h.low.size
 refine ⟨⟨hX,?_,hT,hC,hD,h.B,fun k e=>?_,fun k e e2=>?_,hd,hL⟩,⟨hk.wide ?_,fun k e=>?_⟩⟩
 ·rw [hr]
  exact ring_same h.R (hk.block rb h.R.blt (fun e=>e.elim (fun e=>n1 e.symm) (fun e=>e.elim n6 n7))) (hk.block rp h.R.plt (fun e=>e.elim (fun e=>n2 e.symm) (fun e=>e.elim n8 n9)))
 ·rcases t1 k e with e1 | e1
  ·obtain ⟨a1,a2,a3,a4,a5⟩:=h.tn k e1
   have hlt:=(h.T.blk e1).2.2
   exact ⟨a1,a2,a3,fun e2=>a4 (t3 k e hlt e2),fun e2=>a5 (t4 k e hlt e2)⟩
  ·have b1:=h.lt
   have b2:=h.R.blt
   have b3:=h.R.plt
   obtain ⟨a4,a5⟩:=t2 k e e1
   exact ⟨by omega,by omega,by omega,a4,a5⟩
 ·rcases k1 k e with e1 | e1
  ·rcases q1 k e2 with e3 | e3
   ·exact h.cn k e1 e3
   ·have:=h.C.lt e1;omega
  ·exact c2 k e e1 e2
 ·rintro k (rfl | e | e)
  ·exact .inl rfl
  ·exact .inr (.inr (.inr (.inr (.inl e))))
  ·exact .inr (.inr (.inr (.inr (.inr e))))
 ·rcases e with rfl | rfl | rfl | e | e | e
  ·exact .inl (.inl rfl)
  ·exact .inl (.inr (.inl rfl))
  ·exact .inl (.inr (.inr (.inl rfl)))
  ·exact (t1 k e).imp (fun e=>.inr (.inr (.inr (.inl e)))) id
  ·exact (k1 k e).imp (fun e=>.inr (.inr (.inr (.inr (.inl e))))) id
  ·exact (q1 k e).imp (fun e=>.inr (.inr (.inr (.inr (.inr e))))) id
theorem LegAt.set (h:LegAt w0 W L sb mb rb rp tv kv qv c l) (i:Nat) (u:Value) {tv' kv' qv':Value} {m:Lg}
 (hX:(#[.int .i64 (c.msg:Int),.int .i64 (c.frm:Int),.pointer (some ⟨sb,0,none⟩),.pointer (some ⟨mb,0,none⟩),.pointer (some ⟨rb,0,none⟩),tv,kv,qv,.bool (!c.masked),.int .u32 (l.draw:Int),.int .i64 (l.wrong:Int),.bool l.sent]:Array Value).setIfInBounds i u=#[.int .i64 (c.msg:Int),.int .i64 (c.frm:Int),.pointer (some ⟨sb,0,none⟩),.pointer (some ⟨mb,0,none⟩),.pointer (some ⟨rb,0,none⟩),tv',kv',qv',.bool (!c.masked),.int .u32 (m.draw:Int),.int .i64 (m.wrong:Int),.bool m.sent])
 (hr:m.ring=l.ring) (hT:TailAt W w0.heap.size tv' m.tail) (hC:FRow W w0.heap.size kv' m.ctl) (hD:FRow W w0.heap.size qv' m.rest) (hd:m.draw<4294967296)
 (t1:∀ k,tblk tv'=some k→k≠L∧k≠rb∧k≠rp∧kv'.ownBlock≠some k∧qv'.ownBlock≠some k) (c1:∀ k,kv'.ownBlock=some k→qv'.ownBlock≠some k) :
 LegAt w0 (W.setCell ⟨L,i,none⟩ u) L sb mb rb rp tv' kv' qv' c m:=by
 obtain ⟨n1,n2,n3,n4,n5,n6,n7,n8,n9⟩:=h.kinds
 have hg:=grown_setCell W L i u
 have hx:(W.setCell ⟨L,i,none⟩ u).heap[L]? = some (.cells #[.int .i64 (c.msg:Int),.int .i64 (c.frm:Int),.pointer (some ⟨sb,0,none⟩),.pointer (some ⟨mb,0,none⟩),.pointer (some ⟨rb,0,none⟩),tv',kv',qv',.bool (!c.masked),.int .u32 (m.draw:Int),.int .i64 (m.wrong:Int),.bool m.sent] 80 (0,0)):=by
  rw [heap_setCell_same _ _ _ _ _ _ h.X,hX]
 refine ⟨hx,?_,hT.kept fun k e=>hg.block k (hT.blk e).2.2 (fun e2=>by injection e2 with e2;exact (t1 k e).1 e2),hC.grown hg (fun g e e2=>by injection e2 with e2;subst e2;exact absurd e (hC.kind h.X (by decide))),hD.grown hg (fun g e e2=>by injection e2 with e2;subst e2;exact absurd e (hD.kind h.X (by decide))),h.B,t1,c1,hd,h.low.grown hg h.low.size (fun k e=>by injection e with e;rw [← e];exact h.B.1)⟩
 rw [hr]
 exact ring_same h.R (hg.block rb h.R.blt (fun e=>by injection e with e;exact n1 e.symm)) (hg.block rp h.R.plt (fun e=>by injection e with e;exact n2 e.symm))
theorem goes_set (W:World) (L rb rp:Nat) (tv kv qv:Value) (i:Nat) (u:Value) {tv' kv' qv':Value} (t:∀ k,tblk tv'=some k→tblk tv=some k∨W.heap.size≤k) (k1:∀ k,kv'.ownBlock=some k→kv.ownBlock=some k∨W.heap.size≤k) (q1:∀ k,qv'.ownBlock=some k→qv.ownBlock=some k∨W.heap.size≤k):OGoes W (W.setCell ⟨L,i,none⟩ u) L rb rp tv kv qv tv' kv' qv' :=
 ⟨Kept.grown (grown_setCell W L i u) (fun k e=>by injection e with e;exact .inl e.symm),fun k e=>by
  rcases e with rfl | rfl | rfl | e | e | e
  ·exact .inl (.inl rfl)
  ·exact .inl (.inr (.inl rfl))
  ·exact .inl (.inr (.inr (.inl rfl)))
  ·exact (t k e).imp (fun e=>.inr (.inr (.inr (.inl e)))) id
  ·exact (k1 k e).imp (fun e=>.inr (.inr (.inr (.inr (.inl e))))) id
  ·exact (q1 k e).imp (fun e=>.inr (.inr (.inr (.inr (.inr e))))) id⟩
theorem LegAt.ring (h:LegAt w0 W L sb mb rb rp tv kv qv c l) (T:Two W W' rb rp) {m:Lg} (hR:Rng.RingH W' rb rp c.out m.ring) (e2:m.tail=l.tail) (e3:m.ctl=l.ctl) (e4:m.rest=l.rest) (e5:m.draw=l.draw) (e6:m.wrong=l.wrong) (e7:m.sent=l.sent) :
 LegAt w0 W' L sb mb rb rp tv kv qv c m∧OGoes W W' L rb rp tv kv qv tv kv qv:=by
 obtain ⟨n1,n2,n3,n4,n5,n6,n7,n8,n9⟩:=h.kinds
 refine ⟨⟨by rw [e5,e6,e7,T.block L h.lt n1 n2];exact h.X,hR,by rw [e2];exact h.T.kept fun k e=>T.block k (h.T.blk e).2.2 (h.tn k e).2.1 (h.tn k e).2.2.1,by rw [e3];exact h.C.block fun g e=>T.block g (h.C.lt e) (fun e2=>n6 (e2 ▸ e)) (fun e2=>n8 (e2 ▸ e)),by rw [e4];exact h.D.block fun g e=>T.block g (h.D.lt e) (fun e2=>n7 (e2 ▸ e)) (fun e2=>n9 (e2 ▸ e)),h.B,h.tn,h.cn,by rw [e5];exact h.dr,T.below h.low h.B.2.1 h.B.2.2⟩,⟨⟨T.os,T.tape,T.output,T.size,fun k hk hn=>T.block k hk (fun e=>hn (.inr (.inl e))) (fun e=>hn (.inr (.inr (.inl e))))⟩,fun k e=>.inl e⟩⟩
end
end Go.Proofs.YtlahonjmfecikaaGreatDoor.Leg
set_option maxRecDepth 100000
namespace Go.Proofs.YtlahonjmfecikaaGreatDoor.Leg
open Go.RowKit Stm
open FramePlain (Fr Fr0)
open LegPlain (Cf Lg)
open Msg (Kept MacS Mine)
section
variable {w0 W W':World} {L sb mb rb rp:Nat} {tv kv qv:Value} {c:Cf} {l:Lg}
theorem open_any (h:LegAt w0 W L sb mb rb rp tv kv qv c l)  : Calls Tryz.prog 57 #[.pointer (some ⟨L,0,none⟩)] W fun e w'=>e=.returned (.bool (!l.sent))∧W=w':=by
 obtain ⟨-,-,-,-,-,-,-,-,-,-,c10,c11⟩:=h.cells
 clear h
 go_enter Tryz.func57,Tryz.ntmps57
 go_wp2
 go_ret
 exact ⟨rfl,rfl⟩
theorem sent_any (h:LegAt w0 W L sb mb rb rp tv kv qv c l)  : Calls Tryz.prog 28 #[.pointer (some ⟨L,0,none⟩)] W fun e w'=>e=.returned (.bool l.sent)∧W=w':=by
 obtain ⟨-,-,-,-,-,-,-,-,-,-,c10,c11⟩:=h.cells
 clear h
 go_enter Tryz.func28,Tryz.ntmps28
 go_wp2
 go_ret
 exact ⟨rfl,rfl⟩
theorem wrong_any (h:LegAt w0 W L sb mb rb rp tv kv qv c l)  : Calls Tryz.prog 30 #[.pointer (some ⟨L,0,none⟩)] W fun e w'=>e=.returned (.int .i64 (l.wrong:Int))∧W=w':=by
 obtain ⟨-,-,-,-,-,-,-,-,-,-,c10,c11⟩:=h.cells
 clear h
 go_enter Tryz.func30,Tryz.ntmps30
 go_wp2
 go_ret
 exact ⟨rfl,rfl⟩
theorem empty_any (h:LegAt w0 W L sb mb rb rp tv kv qv c l) (n:Nat) (hn:l.ring.length=n) (r:Bool) (hr:((n:Int)==0)=r):Calls Tryz.prog 64 #[.pointer (some ⟨L,4,none⟩)] W fun e w'=>e=.returned (.bool r)∧W=w':=by
 obtain ⟨-,-,-,-,c4,-⟩:=h.cells
 have T:=Rng.len_ex W rb rp c.out n l.ring h.R hn
 clear h
 go_enter Tryz.func64,Tryz.ntmps64
 go_wp2_with fail
 refine T.mono ?_
 rintro e w1 ⟨rfl,rfl⟩
 clear T
 go_wp2
 go_ret
 exact ⟨rfl,rfl⟩
theorem quiet_any (h:LegAt w0 W L sb mb rb rp tv kv qv c l) (n:Nat) (hn:l.ring.length=n) (r:Bool) (hr:((n:Int)==0)=r):Calls Tryz.prog 27 #[.pointer (some ⟨L,0,none⟩)] W fun e w'=>e=.returned (.bool r)∧W=w':=by
 have T:=empty_any h n hn r hr
 clear h hn hr
 go_enter Tryz.func27,Tryz.ntmps27
 go_wp2_with fail
 refine T.mono ?_
 rintro e w1 ⟨rfl,rfl⟩
 clear T
 go_wp2
 go_ret
 exact ⟨rfl,rfl⟩
theorem got_any (h:LegAt w0 W L sb mb rb rp tv kv qv c l) {most:Int} {st:MsgPlain.Ms} {mv mp:Value} (hm:MacS w0 W mb most st mv mp):Calls Tryz.prog 31 #[.pointer (some ⟨L,0,none⟩)] W fun e w'=>e=.returned (.bool st.over)∧W=w':=by
 obtain ⟨-,-,-,c3,-⟩:=h.cells
 have T:=Msg.over_any hm.m
 clear h hm
 go_enter Tryz.func31,Tryz.ntmps31
 go_wp2_with fail
 refine T.mono ?_
 rintro e w1 ⟨rfl,rfl⟩
 clear T
 go_wp2
 go_ret
 exact ⟨rfl,rfl⟩
theorem peek_any (h:LegAt w0 W L sb mb rb rp tv kv qv c l) (z:Int) (out:List Nat) (ho:l.ring.take z.toNat=out) (k:Nat) (hk:out.length=k):Calls Tryz.prog 33 #[.pointer (some ⟨L,0,none⟩),.int .i64 z] W fun e w'=>e=.returned (.slice (some ⟨W.heap.size,0,none⟩) k k)∧Sl (RowB w' W.heap.size out)∧Sl (Below W.heap.size W w'):=by
 obtain ⟨-,-,-,-,c4,-⟩:=h.cells
 have T:=Rng.peek_ex w0 W rb rp c.out k l.ring out z h.low h.R ho hk
 clear h ho hk
 go_enter Tryz.func33,Tryz.ntmps33
 go_wp2_with fail
 refine T.mono ?_
 rintro e w1 ⟨rfl,H1,-,H2,-⟩
 clear T
 go_wp2
 go_ret
 exact ⟨rfl,H1,H2⟩
theorem free_any (h:LegAt w0 W L sb mb rb rp tv kv qv c l) (n:Nat) (hn:l.rest.length=n) (r:Bool) (hr:(!l.sent&&((n:Int)==0))=r):Calls Tryz.prog 35 #[.pointer (some ⟨L,0,none⟩)] W fun e w'=>e=.returned (.bool r)∧W=w':=by
 obtain ⟨-,-,-,-,-,-,-,c7,-⟩:=h.cells
 obtain ⟨a,cap,rfl⟩:=h.D.slice
 rw [hn] at c7
 have T:=open_any h
 obtain ⟨b,hb⟩:∃ b,l.sent=b:=⟨_,rfl⟩
 rw [hb] at T hr
 clear h hn hb
 cases b with
 | true =>
   obtain rfl:false=r:=hr
   go_enter Tryz.func35,Tryz.ntmps35
   go_wp2_with fail
   refine T.mono ?_
   rintro e w1 ⟨rfl,rfl⟩
   clear T
   go_wp2
   go_ret
   exact ⟨rfl,rfl⟩
 | false =>
   have hr:((n:Int)==0)=r:=hr
   go_enter Tryz.func35,Tryz.ntmps35
   go_wp2_with fail
   refine T.mono ?_
   rintro e w1 ⟨rfl,rfl⟩
   clear T
   go_wp2
   go_ret
   exact ⟨rfl,rfl⟩
theorem kept_any (h:LegAt w0 W L sb mb rb rp tv kv qv c l) {masked:Bool} {most:Int} {part:List Nat} {err:Nat} {sv:Value} (hs:StrmAt w0 W sb masked most part err sv) {mm:Int} {st:MsgPlain.Ms} {mv mp:Value} (hm:MacS w0 W mb mm st mv mp) (a b n:Nat) (ha:part.length=a) (hb:st.text.length=b) (hn:a+b=n) (hl:n≤10000000) :
 Calls Tryz.prog 34 #[.pointer (some ⟨L,0,none⟩)] W fun e w'=>e=.returned (.int .i64 (n:Int))∧Sl (Below W.heap.size W w'):=by
 obtain ⟨-,-,c2,c3,-⟩:=h.cells
 have hlt:=h.lt
 have T1:Sl (∀ V,Below W.heap.size W V→Calls Tryz.prog 67 #[.pointer (some ⟨sb,0,none⟩)] V fun e w'=>e=.returned (.int .i64 (a:Int))∧V=w'):=⟨fun V k=>Stm.part_ex (hs.below k) a ha⟩
 have T2:Sl (∀ V,Below W.heap.size W V→Calls Tryz.prog 68 #[.pointer (some ⟨mb,0,none⟩)] V fun e w'=>e=.returned (.int .i64 (b:Int))∧V=w'):=⟨fun V k=>Msg.part_any (hm.below k).m b hb⟩
 have hwk:IntKind.i64.wrap ((a:Int)+(b:Int))=(n:Int):=by rw [IntKind.wrap_i64];omega
 have hw:wrap64 ((a:Int)+(b:Int))=(n:Int):=by unfold wrap64;omega
 clear h hs hm ha hb
 go_enter Tryz.func34,Tryz.ntmps34
 go_upto_region 1 with fail
 obtain ⟨Rw,hRw⟩:∃ R,W.drew=R:=⟨_,rfl⟩
 have HBR:Below W.heap.size W Rw:=by rw [← hRw];exact (Below.refl _ _).drew
 refine wp_region_noPanic ?_
 refine wp_region_held (S:=fun V=>V.cell? ⟨L,2,none⟩=some (.pointer (some ⟨sb,0,none⟩))∧V.cell? ⟨L,3,none⟩=some (.pointer (some ⟨mb,0,none⟩))) (by kernel_rfl) ?_
 change wpAnyH _ _ _ _ _ _ _ _ W.drew
 rw [hRw]
 clear hRw
 have HS0:Rw.cell? ⟨L,2,none⟩=some (.pointer (some ⟨sb,0,none⟩))∧Rw.cell? ⟨L,3,none⟩=some (.pointer (some ⟨mb,0,none⟩)):=⟨(HBR.cell (p:=⟨L,2,none⟩) hlt).trans c2,(HBR.cell (p:=⟨L,3,none⟩) hlt).trans c3⟩
 refine heldTake (d:=some 3) (op:=.move (Operand.tmp 0)) (g:=none) 0 ?v0 rfl (by kernel_rfl) (by kernel_rfl) (by kernel_rfl) (by kernel_rfl) ?y0 HS0 ?_
 case y0=>intro o' ho W hS;simp only [execOp,ho];go_simp;try rfl
 simp only [Act.put,List.setIfInBounds_toArray,List.set_cons_zero,List.set_cons_succ]
 refine heldTake (d:=some 4) (op:=.nilCheck (Operand.tmp 3)) (g:=none) 1 ?v1 rfl (by kernel_rfl) (by kernel_rfl) (by kernel_rfl) (by kernel_rfl) ?y1 HS0 ?_
 case y1=>intro o' ho W hS;simp only [execOp,ho];go_simp;try rfl
 simp only [Act.put,List.setIfInBounds_toArray,List.set_cons_zero,List.set_cons_succ]
 refine heldTake (d:=some 5) (op:=.fieldAddr 80 (Operand.tmp 4) 2) (g:=none) 2 ?v2 rfl (by kernel_rfl) (by kernel_rfl) (by kernel_rfl) (by kernel_rfl) ?y2 HS0 ?_
 case y2=>intro o' ho W hS;simp only [execOp,ho];go_simp;try rfl
 simp only [Act.put,List.setIfInBounds_toArray,List.set_cons_zero,List.set_cons_succ]
 refine heldTake (d:=some 6) (op:=.load 77 (Operand.tmp 5)) (g:=none) 3 ?v3 rfl (by kernel_rfl) (by kernel_rfl) (by kernel_rfl) (by kernel_rfl) ?y3 HS0 ?_
 case y3=>intro o' ho W hS;have d0:=hS.1;simp only [execOp,ho];go_simp;try rfl
 simp only [Act.put,List.setIfInBounds_toArray,List.set_cons_zero,List.set_cons_succ]
 refine heldTake (d:=some 8) (op:=.move (Operand.tmp 0)) (g:=none) 5 ?v5 rfl (by kernel_rfl) (by kernel_rfl) (by kernel_rfl) (by kernel_rfl) ?y5 HS0 ?_
 case y5=>intro o' ho W hS;simp only [execOp,ho];go_simp;try rfl
 simp only [Act.put,List.setIfInBounds_toArray,List.set_cons_zero,List.set_cons_succ]
 refine heldTake (d:=some 9) (op:=.nilCheck (Operand.tmp 8)) (g:=none) 6 ?v6 rfl (by kernel_rfl) (by kernel_rfl) (by kernel_rfl) (by kernel_rfl) ?y6 HS0 ?_
 case y6=>intro o' ho W hS;simp only [execOp,ho];go_simp;try rfl
 simp only [Act.put,List.setIfInBounds_toArray,List.set_cons_zero,List.set_cons_succ]
 refine heldTake (d:=some 10) (op:=.fieldAddr 80 (Operand.tmp 9) 3) (g:=none) 7 ?v7 rfl (by kernel_rfl) (by kernel_rfl) (by kernel_rfl) (by kernel_rfl) ?y7 HS0 ?_
 case y7=>intro o' ho W hS;simp only [execOp,ho];go_simp;try rfl
 simp only [Act.put,List.setIfInBounds_toArray,List.set_cons_zero,List.set_cons_succ]
 refine heldTake (d:=some 11) (op:=.load 78 (Operand.tmp 10)) (g:=none) 8 ?v8 rfl (by kernel_rfl) (by kernel_rfl) (by kernel_rfl) (by kernel_rfl) ?y8 HS0 ?_
 case y8=>intro o' ho W hS;have d1:=hS.2;simp only [execOp,ho];go_simp;try rfl
 simp only [Act.put,List.setIfInBounds_toArray,List.set_cons_zero,List.set_cons_succ]
 refine heldCall (d:=some 7) (op:=.call {callee:=Callee.value (Operand.func 67),args:=#[Operand.tmp 6],argTypes:=#[77]}) (g:=none) 4 67 #[.pointer (some ⟨sb,0,none⟩)] rfl (by kernel_rfl) (by kernel_rfl) ?y4k1 ?_
 case y4k1=>intro o' ho;simp only [execOp,ho];go_simp;try rfl
 refine (T1.out _ HBR).mono ?_
 rintro e w2 ⟨rfl,rfl⟩
 refine ⟨_,rfl,HS0,?_⟩
 simp only [Act.put,List.setIfInBounds_toArray,List.set_cons_zero,List.set_cons_succ]
 refine heldCall (d:=some 12) (op:=.call {callee:=Callee.value (Operand.func 68),args:=#[Operand.tmp 11],argTypes:=#[78]}) (g:=none) 9 68 #[.pointer (some ⟨mb,0,none⟩)] rfl (by kernel_rfl) (by kernel_rfl) ?y9k2 ?_
 case y9k2=>intro o' ho;simp only [execOp,ho];go_simp;try rfl
 refine (T2.out _ HBR).mono ?_
 rintro e w2 ⟨rfl,rfl⟩
 refine ⟨_,rfl,HS0,?_⟩
 simp only [Act.put,List.setIfInBounds_toArray,List.set_cons_zero,List.set_cons_succ]
 refine heldTake (d:=some 13) (op:=.binOp BinOp.add 3 (Operand.tmp 7) (Operand.tmp 12) 3) (g:=none) 10 (.int .i64 (n:Int)) rfl (by kernel_rfl) (by kernel_rfl) (by kernel_rfl) (by kernel_rfl) ?y10zz HS0 ?_
 case y10zz=>intro o' ho W hS;exact by simp only [execOp,ho];go_simp;first | done | (rw [hw];done) | (rw [hwk];done) | rfl
 simp only [Act.put,List.setIfInBounds_toArray,List.set_cons_zero,List.set_cons_succ]
 refine heldTake (d:=some 2) (op:=.assign (Operand.tmp 13)) (g:=none) 11 ?v11zz rfl (by kernel_rfl) (by kernel_rfl) (by kernel_rfl) (by kernel_rfl) ?y11zz HS0 ?_
 case y11zz=>intro o' ho W hS;simp only [execOp,ho];go_simp;try rfl
 simp only [Act.put,List.setIfInBounds_toArray,List.set_cons_zero,List.set_cons_succ]
 refine wpAnyH_done (by kernel_rfl) ?_ _
 refine NoPanic.normal ?_
 go_wp2
 go_ret
 exact ⟨rfl,⟨HBR⟩⟩
theorem back_any (n:Int) (w:World):Calls Tryz.prog 86 #[.int .i64 n] w fun e w'=>e=.returned (.int .i64 (if n=1005 then 0 else n))∧w=w':=by
 by_cases hn:n=1005
 ·subst hn
  go_enter Tryz.func86,Tryz.ntmps86
  go_wp2
  go_ret
  exact ⟨rfl,rfl⟩
 ·have hq:(n==1005)=false:=beq_eq_false_iff_ne.2 hn
  rw [if_neg hn]
  clear hn
  go_enter Tryz.func86,Tryz.ntmps86
  go_wp2
  go_ret
  exact ⟨rfl,rfl⟩
theorem waits_any (fin:Bool) (op:Int) (m:Bool) (ka kb kc kd:Nat) (s:ByteArray) (r:Bool) (hr:(op==10)=r) (w:World):Calls Tryz.prog 114 #[(.agg #[.bool fin,.int .i64 op,.bool m,.int .u8 ((ka:Nat):Int),.int .u8 ((kb:Nat):Int),.int .u8 ((kc:Nat):Int),.int .u8 ((kd:Nat):Int),.string s])] w fun e w'=>e=.returned (.bool r)∧Sl (Below w.heap.size w w'):=by
 obtain ⟨V,hV⟩:∃ V,w.alloc (.cells #[.bool fin,.int .i64 op,.bool m,.int .u8 ((ka:Nat):Int),.int .u8 ((kb:Nat):Int),.int .u8 ((kc:Nat):Int),.int .u8 ((kd:Nat):Int),.string s] 61)=V:=⟨_,rfl⟩
 have HB:Sl (Below w.heap.size w V):=⟨by rw [← hV];exact (Below.refl _ _).alloc (Nat.le_refl _) _⟩
 obtain ⟨c0,c1,c2,c3,c4,c5,c6,c7⟩:=Fra.bx_cells (show V.heap[w.heap.size]? = some (.cells #[.bool fin,.int .i64 op,.bool m,.int .u8 ((ka:Nat):Int),.int .u8 ((kb:Nat):Int),.int .u8 ((kc:Nat):Int),.int .u8 ((kd:Nat):Int),.string s] 61 (0,0)) by rw [← hV];exact alloc_new _ _ _ rfl)
 go_enter Tryz.func114,Tryz.ntmps114
 go_upto_region 1 with fail
 (try rw [hV])
 go_wp2
 go_ret
 exact ⟨rfl,HB⟩
end
end Go.Proofs.YtlahonjmfecikaaGreatDoor.Leg
set_option maxRecDepth 100000
namespace Go.Proofs.YtlahonjmfecikaaGreatDoor.Leg
open Go.RowKit Stm
open FramePlain (Fr Fr0)
open LegPlain (Cf Lg)
open Msg (Kept MacS Mine)
open LegPlain (keyB dress draws)
open FramePlain (text size chk form zero4)
open MaskPlain (be)
theorem be_key (n:Nat):be n 4=keyB n:=by
 unfold keyB
 simp only [be,List.nil_append,List.cons_append,Nat.div_div_eq_div_mul]
theorem src_tail {W:World} {base g n cap:Nat} {bs:List Nat} (h:SrcAt W (.slice (some ⟨g,0,none⟩) n cap) bs) (hb:base≤g):TailAt W base (.slice (some ⟨g,0,none⟩) n cap) bs:=by
 obtain ⟨a,cap',sb,so,he,h1,h2,h3⟩:=h
 injection he with e1 e2 e3
 subst e2 e3
 refine ⟨_,_,sb,so,rfl,h1,fun hp=>?_,h3⟩
 rw [← e1] at h2
 have h4:=h2 hp
 refine ⟨h4,?_⟩
 injection h4 with h4
 injection h4 with h4 _
 omega
section
variable {w0 W W':World} {L sb mb rb rp:Nat} {tv kv qv:Value} {c:Cf} {l:Lg}
theorem LegAt.draw (h:LegAt w0 W L sb mb rb rp tv kv qv c l) (d:Nat) (hd:d<4294967296):LegAt w0 (W.setCell ⟨L,9,none⟩ (.int .u32 (d:Int))) L sb mb rb rp tv kv qv c {l with draw:=d}∧OGoes W (W.setCell ⟨L,9,none⟩ (.int .u32 (d:Int))) L rb rp tv kv qv tv kv qv :=
 ⟨h.set 9 _ (m:={l with draw:=d}) rfl rfl h.T h.C h.D hd h.tn h.cn,goes_set W L rb rp tv kv qv 9 _ (fun _ e=>.inl e) (fun _ e=>.inl e) (fun _ e=>.inl e)⟩
theorem OGoes.fresh {W V U:World} {L rb rp:Nat} {tv kv qv t1 k1 q1:Value} (h:OGoes W V L rb rp tv kv qv t1 k1 q1) {S:Nat→Prop} (k:Kept S V U) (hs:∀ j,S j→W.heap.size≤j):OGoes W U L rb rp tv kv qv t1 k1 q1 :=
 ⟨h.kept.trans k (fun j hj e=>by have:=hs j e;omega),h.mine⟩
theorem u32_mul (d:Nat):∃ x,IntKind.u32.wrap ((d:Int)*1664525)=(x:Int)∧IntKind.u32.wrap ((x:Int)+1013904223)=((LegPlain.next d:Nat):Int):=by
 refine ⟨d*1664525 % 4294967296,?_,?_⟩
 ·rw [IntKind.wrap_u32];try omega
 ·rw [IntKind.wrap_u32];unfold LegPlain.next;omega
set_option maxHeartbeats 4000000 in
theorem obytes_any (h:LegAt w0 W L sb mb rb rp tv kv qv c l) (hg:Mas.Globs w0) (fin:Bool) (k:Nat) (m:Bool) (ka kb kc kd:Nat) (s:ByteArray) (hk:Small 256 [ka,kb,kc,kd]) (hc:form (⟨fin,(k:Int),m,[ka,kb,kc,kd],bytes s⟩:Fr)=true) (hs:s.size≤65536) :
 Calls Tryz.prog 120 #[.pointer (some ⟨L,4,none⟩),(.agg #[.bool fin,.int .i64 (k:Int),.bool m,.int .u8 ((ka:Nat):Int),.int .u8 ((kb:Nat):Int),.int .u8 ((kc:Nat):Int),.int .u8 ((kd:Nat):Int),.string s])] W fun e w'=>∃ g n cap,e=.returned (.slice (some ⟨g,0,none⟩) n cap)∧W.heap.size≤g∧Sl (TailAt w' w0.heap.size (.slice (some ⟨g,0,none⟩) n cap) (text (dress c (draws c l.draw) (⟨fin,(k:Int),m,[ka,kb,kc,kd],bytes s⟩:Fr)))) ∧
  Sl (LegAt w0 w' L sb mb rb rp tv kv qv c {l with draw:=draws c l.draw})∧Sl (OGoes W w' L rb rp tv kv qv tv kv qv):=by
 have hx0:chk (⟨fin,(k:Int),m,[ka,kb,kc,kd],bytes s⟩:Fr)=0:=Fra.chk_yes hc (by rw [show ((⟨fin,(k:Int),m,[ka,kb,kc,kd],bytes s⟩:Fr)).data.length=s.size from bytes_length s];omega)
 have hx:∀ a b c' d:Nat,chk (⟨fin,(k:Int),true,[a,b,c',d],bytes s⟩:Fr)=0:=fun a b c' d=>Fra.chk_yes (FramePlain.form_of ⟨(FramePlain.form_cases hc).1,.inl rfl⟩) (by rw [show ((⟨fin,(k:Int),true,[a,b,c',d],bytes s⟩:Fr)).data.length=s.size from bytes_length s];omega)
 obtain ⟨wa,hwa⟩:∃ V,W.alloc (.cells #[.bool fin,.int .i64 (k:Int),.bool m,.int .u8 ((ka:Nat):Int),.int .u8 ((kb:Nat):Int),.int .u8 ((kc:Nat):Int),.int .u8 ((kd:Nat):Int),.string s] 61)=V:=⟨_,rfl⟩
 have HB:Below W.heap.size W wa:=by rw [← hwa];exact (Below.refl _ _).alloc (Nat.le_refl _) _
 have hH:wa.heap[W.heap.size]? = some (.cells #[.bool fin,.int .i64 (k:Int),.bool m,.int .u8 ((ka:Nat):Int),.int .u8 ((kb:Nat):Int),.int .u8 ((kc:Nat):Int),.int .u8 ((kd:Nat):Int),.string s] 61 (0,0)):=by rw [← hwa];exact alloc_new _ _ _ rfl
 have HLA:=Sl.mk (h.below HB)
 have HG0:=Sl.mk (OGoes.below L rb rp tv kv qv HB)
 have HL0:=Sl.mk h.low.size
 have HLT:=Sl.mk h.lt
 have HOW:Sl (∀ j,Own L rb rp tv kv qv j→j<W.heap.size):=⟨fun j e=>(h.own e).2⟩
 have HGW:Sl (∀ V,Below w0.heap.size w0 V→Mas.Globs V):=⟨fun V k=>hg.below k hg.size⟩
 obtain ⟨-,-,-,-,-,-,-,-,c8,c9,-,-⟩:=HLA.out.cells
 obtain ⟨a0,a1,a2,a3,a4,a5,a6,a7⟩:=Fra.bx_cells hH
 have HH:=Sl.mk hH
 have HX0:=Sl.mk hx0
 have HHX:=Sl.mk hx
 have HK0:=Sl.mk hk
 clear h HB hH hc hx hg hx0 hk
 cases hm:c.masked with
 | true =>
   rw [hm] at c8
   have c8:wa.cell? ⟨L,8,none⟩=some (.bool false):=c8
   have T:=Fra.putf_new fin k m ka kb kc kd s _ wa (HGW.out wa HLA.out.low) HK0.out HX0.out rfl
   obtain ⟨n,hn⟩:∃ n,size (⟨fin,(k:Int),m,[ka,kb,kc,kd],bytes s⟩:Fr)=n:=⟨_,rfl⟩
   rw [hn] at T
   have ed:dress c (draws c l.draw) (⟨fin,(k:Int),m,[ka,kb,kc,kd],bytes s⟩:Fr)=(⟨fin,(k:Int),m,[ka,kb,kc,kd],bytes s⟩:Fr):=if_pos hm
   have ed2:draws c l.draw=l.draw:=if_pos hm
   rw [ed,ed2]
   clear ed ed2 hn
   go_enter Tryz.func120,Tryz.ntmps120
   go_upto_region 1 with fail
   (try rw [hwa])
   clear hwa
   go_wp2_with fail
   refine T.mono ?_
   rintro e w2 ⟨g,cap,rfl,HS,HB2,hge⟩
   clear T
   have HLX:=Sl.mk (HLA.out.below HB2.out)
   have HGX:=Sl.mk (HG0.out.trans (OGoes.below L rb rp tv kv qv HB2.out))
   have hge2:W.heap.size≤g:=Nat.le_trans HG0.out.kept.size hge
   have HTX:=Sl.mk (src_tail HS.out (Nat.le_trans HL0.out hge2))
   clear HS HB2 c8 c9 a0 a1 a2 a3 a4 a5 a6 a7
   go_wp2
   go_ret
   exact ⟨g,n,cap,rfl,hge2,HTX,⟨HLX.out.inner rfl rfl rfl rfl rfl rfl rfl⟩,HGX⟩
 | false =>
   rw [hm] at c8
   have c8:wa.cell? ⟨L,8,none⟩=some (.bool true):=c8
   obtain ⟨y,hy⟩:∃ y,LegPlain.next l.draw=y:=⟨_,rfl⟩
   have hy2:y<4294967296:=by rw [← hy];unfold LegPlain.next;omega
   obtain ⟨x,hw1,hw2⟩:=u32_mul l.draw
   rw [hy] at hw2
   have ed2:draws c l.draw=y:=(if_neg (by rw [hm];decide)).trans hy
   obtain ⟨x0,x1,x2,x3,hK⟩:∃ x0 x1 x2 x3,keyB y=[x0,x1,x2,x3]:=⟨_,_,_,_,rfl⟩
   have ed:dress c (draws c l.draw) (⟨fin,(k:Int),m,[ka,kb,kc,kd],bytes s⟩:Fr)=(⟨fin,(k:Int),true,[x0,x1,x2,x3],bytes s⟩:Fr):=by
    rw [ed2]
    unfold dress
    rw [if_neg (by rw [hm];decide),hK]
   rw [ed,ed2]
   have HKS:Sl (Small 256 [x0,x1,x2,x3]):=⟨by rw [← hK];exact LegPlain.keyB_small y⟩
   have hbk:be y 4=[x0,x1,x2,x3]:=(be_key y).trans hK
   obtain ⟨dd,hdd⟩:∃ d,l.draw=d:=⟨_,rfl⟩
   rw [hdd] at c9 hw1
   obtain ⟨HL2,HG2⟩:=HLA.out.draw y hy2
   obtain ⟨wb,hwb⟩:∃ V,wa.setCell ⟨L,9,none⟩ (.int .u32 (y:Int))=V:=⟨_,rfl⟩
   rw [hwb] at HL2 HG2
   have f9:=HLA.out.froz 9
   have hlta:=HLA.out.lt
   have HLB:=Sl.mk HL2
   have HGB:=Sl.mk (HG0.out.trans HG2)
   have HHB:Sl (wb.heap[W.heap.size]? = some (.cells #[.bool fin,.int .i64 (k:Int),.bool m,.int .u8 ((ka:Nat):Int),.int .u8 ((kb:Nat):Int),.int .u8 ((kc:Nat):Int),.int .u8 ((kd:Nat):Int),.string s] 61 (0,0))):=⟨by
    rw [← hwb,heap_setCell_other _ _ _ _ (show W.heap.size≠L from by have:=HLT.out;omega)];exact HH.out⟩
   obtain ⟨-,-,-,-,-,-,-,-,-,d9,-,-⟩:=HLB.out.cells
   have d9:wb.cell? ⟨L,9,none⟩=some (.int .u32 (y:Int)):=d9
   have TK:Calls Tryz.prog 146 #[.int .u32 (y:Int)] wb fun e w'=>e=.returned (.agg #[.int .u8 (x0:Int),.int .u8 (x1:Int),.int .u8 (x2:Int),.int .u8 (x3:Int)])∧Sl (Below wb.heap.size wb w'):=Mas.key_ex y [x0,x1,x2,x3] wb hy2 hbk
   clear hK hdd hbk hy ed ed2 HL2 HG2 hlta
   go_enter Tryz.func120,Tryz.ntmps120
   go_upto_region 1 with fail
   (try rw [hwa])
   clear hwa
   go_upto_region 3 with fail
   (try rw [hwb])
   clear hwb c8 c9 f9 a0 a1 a2 a3 a4 a5 a6 a7 hw1 hw2
   go_wp2_with fail
   refine TK.mono ?_
   rintro e w2 ⟨rfl,HB2⟩
   have HQ2:Sl (w2.heap[W.heap.size]? = some (.cells #[.bool fin,.int .i64 (k:Int),.bool m,.int .u8 ((ka:Nat):Int),.int .u8 ((kb:Nat):Int),.int .u8 ((kc:Nat):Int),.int .u8 ((kd:Nat):Int),.string s] 61 (0,0))):=⟨below_key HHB.out HB2.out⟩
   have HL3:=Sl.mk (HLB.out.below HB2.out)
   have HG3:=Sl.mk (HGB.out.trans (OGoes.below L rb rp tv kv qv HB2.out))
   clear TK HB2 d9 HHB HLB HGB
   obtain ⟨q,hq⟩:∃ q,W.heap.size=q:=⟨_,rfl⟩
   have HQL:Sl (W.heap.size≤q∧L<q):=⟨by have:=HLT.out;omega⟩
   rw [hq] at HQ2 ⊢
   have hqe:=Sl.mk hq
   clear hq
   obtain ⟨a0,a1,a2,a3,a4,a5,a6,a7⟩:=Fra.bx_cells HQ2.out
   have g2:w2.frozen? ⟨q,2,none⟩=false:=frozen_of_row _ _ _ _ _ HQ2.out
   have g3:w2.frozen? ⟨q,3,none⟩=false:=frozen_of_row _ _ _ _ _ HQ2.out
   have g4:w2.frozen? ⟨q,4,none⟩=false:=frozen_of_row _ _ _ _ _ HQ2.out
   have g5:w2.frozen? ⟨q,5,none⟩=false:=frozen_of_row _ _ _ _ _ HQ2.out
   have g6:w2.frozen? ⟨q,6,none⟩=false:=frozen_of_row _ _ _ _ _ HQ2.out
   obtain ⟨hq1E,hgE⟩:=Cut.rekeyed (m':=true) (x0:Int) (x1:Int) (x2:Int) (x3:Int) HQ2.out
   simp only [World.setCells] at hq1E hgE
   obtain ⟨E,hE⟩:∃ V,((((w2.setCell ⟨q,2,none⟩ (.bool true)).setCell ⟨q,3,none⟩ (.int .u8 (x0:Int))).setCell ⟨q,3+1,none⟩ (.int .u8 (x1:Int))).setCell ⟨q,3+1+1,none⟩ (.int .u8 (x2:Int))).setCell ⟨q,3+1+1+1,none⟩ (.int .u8 (x3:Int))=V:=⟨_,rfl⟩
   rw [hE] at hq1E hgE
   have hE2:((((w2.setCell ⟨q,2,none⟩ (.bool true)).setCell ⟨q,3,none⟩ (.int .u8 (x0:Int))).setCell ⟨q,4,none⟩ (.int .u8 (x1:Int))).setCell ⟨q,5,none⟩ (.int .u8 (x2:Int))).setCell ⟨q,6,none⟩ (.int .u8 (x3:Int))=E:=hE
   have HQE:=Sl.mk hq1E
   have HKE:Kept (fun j=>j=q) w2 E:=Kept.grown hgE (fun j e=>by injection e with e;exact e.symm)
   have HLE:=Sl.mk (HL3.out.stay HKE (fun j e=>by have:=HOW.out j e;have:=hqe.out;omega) (HKE.up HL3.out.low (fun j e=>by have:=hqe.out;have:=HL0.out;omega) HL3.out.low.size))
   have HGE:=Sl.mk (HG3.out.fresh HKE (fun j e=>by have:=hqe.out;omega))
   clear hq1E hgE hE HKE
   go_upto_region 4 with fail
   (try rw [hE2])
   clear hE2 a0 a1 a2 a3 a4 a5 a6 a7 g2 g3 g4 g5 g6 HQ2 HL3 HG3
   obtain ⟨a0,a1,a2,a3,a4,a5,a6,a7⟩:=Fra.bx_cells HQE.out
   have T:=Fra.putf_new fin k true x0 x1 x2 x3 s _ E (HGW.out E HLE.out.low) HKS.out (HHX.out _ _ _ _) rfl
   obtain ⟨n,hn⟩:∃ n,size (⟨fin,(k:Int),true,[x0,x1,x2,x3],bytes s⟩:Fr)=n:=⟨_,rfl⟩
   rw [hn] at T
   clear hn
   go_wp2_with fail
   refine T.mono ?_
   rintro e w4 ⟨g,cap,rfl,HS,HB4,hge⟩
   clear T
   have HLX:=Sl.mk (HLE.out.below HB4.out)
   have HGX:=Sl.mk (HGE.out.trans (OGoes.below L rb rp tv kv qv HB4.out))
   have hge2:W.heap.size≤g:=Nat.le_trans HGE.out.kept.size hge
   have HTX:=Sl.mk (src_tail HS.out (Nat.le_trans HL0.out hge2))
   clear HS HB4 a0 a1 a2 a3 a4 a5 a6 a7
   go_wp2
   go_ret
   exact ⟨g,n,cap,rfl,by have:=hqe.out;omega,HTX,HLX,HGX⟩
end
end Go.Proofs.YtlahonjmfecikaaGreatDoor.Leg
set_option maxRecDepth 100000
namespace Go.Proofs.YtlahonjmfecikaaGreatDoor.Leg
open Go.RowKit Stm
open FramePlain (Fr Fr0)
open LegPlain (Cf Lg)
open Msg (Kept MacS Mine)
open FramePlain (text size chk form zero4)
section
variable {w0 W W':World} {L sb mb rb rp:Nat} {tv kv qv:Value} {c:Cf} {l:Lg}
theorem LegAt.rerowC (h:LegAt w0 W L sb mb rb rp tv kv qv c l) {V:World} {u:Value} {g:Nat} {l':List Fr} (hg:W.grownBy V (some g)) (he:kv.ownBlock=some g) (hu:∀ k,u.ownBlock=some k→k=g) (hr:FRow V w0.heap.size u l') :
 LegAt w0 (V.setCell ⟨L,6,none⟩ u) L sb mb rb rp tv u qv c {l with ctl:=l'}∧OGoes W (V.setCell ⟨L,6,none⟩ u) L rb rp tv kv qv tv u qv:=by
 obtain ⟨n1,n2,n3,n4,n5,n6,n7,n8,n9⟩:=h.kinds
 have hgl:g≠L:=fun e=>n4 (e ▸ he)
 have hX:V.heap[L]? = W.heap[L]?:=hg.block L h.lt (fun e=>hgl (by injection e with e;exact e.symm))
 have hk2:=grown_setCell V L 6 u
 have hun:u.ownBlock≠some L:=fun e=>hgl (hu L e).symm
 refine h.step (m:={l with ctl:=l'}) ((Kept.grown (S:=fun j=>j=L∨kv.ownBlock=some j∨qv.ownBlock=some j) hg (fun k e=>by injection e with e;subst e;exact .inr (.inl he))).trans (Kept.grown (S:=fun j=>j=L) hk2 (fun k e=>by injection e with e;exact e.symm)) (fun j _ e=>.inl e)) ?_ rfl ?_ ?_ ?_ h.dr (fun k e=>.inl e) (fun k e=>.inl (by rw [hu k e];exact he)) (fun k e=>.inl e) (fun k e e2=>absurd (h.T.blk e).2.2 (by omega)) (fun k e _ e2=>by rw [hu k e2];exact he) (fun k e _ e2=>e2) (fun k e e2=>by rw [hu k e] at e2;have:=h.C.lt he;omega)
 ·rw [heap_setCell_same _ _ _ _ _ _ (hX.trans h.X)];rfl
 ·exact h.T.kept fun k e=>by
   obtain ⟨a1,a2,a3,a4,a5⟩:=h.tn k e
   rw [heap_setCell_other _ _ _ _ a1]
   exact hg.block k (h.T.blk e).2.2 (fun e2=>by injection e2 with e2;subst e2;exact a4 he)
 ·exact hr.grown hk2 (fun j e e2=>hun (e.trans e2))
 ·refine h.D.block fun j e=>?_
  rw [heap_setCell_other _ _ _ _ (fun (e2:j=L)=>n5 (e2 ▸ e))]
  exact hg.block j (h.D.lt e) (fun e2=>by injection e2 with e2;subst e2;exact h.cn _ he e)
theorem LegAt.rerowR (h:LegAt w0 W L sb mb rb rp tv kv qv c l) {V:World} {u:Value} {g:Nat} {l':List Fr} (hg:W.grownBy V (some g)) (he:qv.ownBlock=some g) (hu:∀ k,u.ownBlock=some k→k=g) (hr:FRow V w0.heap.size u l') :
 LegAt w0 (V.setCell ⟨L,7,none⟩ u) L sb mb rb rp tv kv u c {l with rest:=l'}∧OGoes W (V.setCell ⟨L,7,none⟩ u) L rb rp tv kv qv tv kv u:=by
 obtain ⟨n1,n2,n3,n4,n5,n6,n7,n8,n9⟩:=h.kinds
 have hgl:g≠L:=fun e=>n5 (e ▸ he)
 have hX:V.heap[L]? = W.heap[L]?:=hg.block L h.lt (fun e=>hgl (by injection e with e;exact e.symm))
 have hk2:=grown_setCell V L 7 u
 have hun:u.ownBlock≠some L:=fun e=>hgl (hu L e).symm
 refine h.step (m:={l with rest:=l'}) ((Kept.grown (S:=fun j=>j=L∨kv.ownBlock=some j∨qv.ownBlock=some j) hg (fun k e=>by injection e with e;subst e;exact .inr (.inr he))).trans (Kept.grown (S:=fun j=>j=L) hk2 (fun k e=>by injection e with e;exact e.symm)) (fun j _ e=>.inl e)) ?_ rfl ?_ ?_ ?_ h.dr (fun k e=>.inl e) (fun k e=>.inl e) (fun k e=>.inl (by rw [hu k e];exact he)) (fun k e e2=>absurd (h.T.blk e).2.2 (by omega)) (fun k e _ e2=>e2) (fun k e _ e2=>by rw [hu k e2];exact he) (fun k e e2=>absurd (h.C.lt e) (by omega))
 ·rw [heap_setCell_same _ _ _ _ _ _ (hX.trans h.X)];rfl
 ·exact h.T.kept fun k e=>by
   obtain ⟨a1,a2,a3,a4,a5⟩:=h.tn k e
   rw [heap_setCell_other _ _ _ _ a1]
   exact hg.block k (h.T.blk e).2.2 (fun e2=>by injection e2 with e2;subst e2;exact a5 he)
 ·refine h.C.block fun j e=>?_
  rw [heap_setCell_other _ _ _ _ (fun (e2:j=L)=>n4 (e2 ▸ e))]
  exact hg.block j (h.C.lt e) (fun e2=>by injection e2 with e2;subst e2;exact h.cn _ e he)
 ·exact hr.grown hk2 (fun j e e2=>hun (e.trans e2))
theorem fslice_l (V:World) (a:Option Addr) (n cap:Nat) (hk:1≤n) (X:Int) (hX:X=1):(Instr.slice 34 (.slice a n cap) (some (.int .i64 X)) none none).run Tryz.prog V=.ok (.slice (Cut.fromF a 1 cap) (n-1) (cap-1)) V:=by
 subst hX;exact Cut.fslice_from V a n cap 1 hk
theorem onext_none (h:LegAt w0 W L sb mb rb rp tv kv qv c l) (hc:l.ctl=[]) (hr:l.rest=[]) :
 Calls Tryz.prog 119 #[.pointer (some ⟨L,4,none⟩)] W fun e w'=>e=.returned (.tuple #[.agg #[.bool false,.int .i64 0,.bool false,.int .u8 0,.int .u8 0,.int .u8 0,.int .u8 0,.string {data:=#[]}],.bool false])∧Sl (Below W.heap.size W w'):=by
 obtain ⟨wa,hwa⟩:∃ V,W.alloc (.cells #[.bool false,.int .i64 0,.bool false,.int .u8 0,.int .u8 0,.int .u8 0,.int .u8 0,.string {data:=#[]}] 61)=V:=⟨_,rfl⟩
 have HB:Sl (Below W.heap.size W wa):=⟨by rw [← hwa];exact (Below.refl _ _).alloc (Nat.le_refl _) _⟩
 have hH:wa.heap[W.heap.size]? = some (.cells #[.bool false,.int .i64 0,.bool false,.int .u8 0,.int .u8 0,.int .u8 0,.int .u8 0,.string {data:=#[]}] 61 (0,0)):=by rw [← hwa];exact alloc_new _ _ _ rfl
 have HLA:=h.below HB.out
 have HC:=HLA.C
 have HD:=HLA.D
 rw [hc] at HC
 rw [hr] at HD
 obtain rfl:=HC.nil
 obtain rfl:=HD.nil
 obtain ⟨-,-,-,-,-,-,c6,c7,-⟩:=HLA.cells
 obtain ⟨wb,hwb,HBb,Hb⟩:∃ V,wa.setRow W.heap.size #[.bool false,.int .i64 0,.bool false,.int .u8 0,.int .u8 0,.int .u8 0,.int .u8 0,.string {data:=#[]}]=V∧Sl (Below W.heap.size W V)∧Sl (V.heap[W.heap.size]? = some (.cells #[.bool false,.int .i64 0,.bool false,.int .u8 0,.int .u8 0,.int .u8 0,.int .u8 0,.string {data:=#[]}] 61 (0,0))):=⟨_,rfl,⟨below_setRow HB.out (Nat.le_refl _) _⟩,⟨setRow_heap _ _ _ _ _ _ hH⟩⟩
 have HI:(Tryz.prog.info? 61).map (·.size)=some (#[.bool false,.int .i64 0,.bool false,.int .u8 0,.int .u8 0,.int .u8 0,.int .u8 0,.string {data:=#[]}]:Array Value).size:=by kernel_rfl
 have hall:(#[.bool false,.int .i64 0,.bool false,.int .u8 0,.int .u8 0,.int .u8 0,.int .u8 0,.string {data:=#[]}]:Array Value).all (·.oneCell')=true:=by simp [Value.oneCell']
 clear h HLA HC HD hc hr HB
 go_enter Tryz.func119,Tryz.ntmps119
 go_upto_region 1 with fail
 (try rw [hwa])
 clear hwa
 go_wp2_with (refine wpList_store_row rfl 61 (.tmp 2) (.tmp 23) rfl W.heap.size #[.bool false,.int .i64 0,.bool false,.int .u8 0,.int .u8 0,.int .u8 0,.int .u8 0,.string {data:=#[]}] rfl rfl 61 #[.bool false,.int .i64 0,.bool false,.int .u8 0,.int .u8 0,.int .u8 0,.int .u8 0,.string {data:=#[]}] hH HI rfl hall ?_)
 (try rw [hwb])
 (try simp only [Exit.inBlock,Exit.then])
 refine bodyPost_ret (ret_fr2 rfl _ _ W.heap.size 61 #[.bool false,.int .i64 0,.bool false,.int .u8 0,.int .u8 0,.int .u8 0,.int .u8 0,.string {data:=#[]}] (0,0) rfl Hb.out rfl) rfl ?_
 exact ⟨rfl,HBb⟩
set_option maxHeartbeats 8000000 in
theorem onext_ctl (h:LegAt w0 W L sb mb rb rp tv kv qv c l) (fin:Bool) (op:Int) (m:Bool) (ka kb kc kd:Nat) (s:ByteArray) (cs:List Fr) (hc:l.ctl=(⟨fin,op,m,[ka,kb,kc,kd],bytes s⟩:Fr) :: cs) (hl:cs.length≤1000000) :
 Calls Tryz.prog 119 #[.pointer (some ⟨L,4,none⟩)] W fun e w'=>∃ u,e=.returned (.tuple #[(.agg #[.bool fin,.int .i64 op,.bool m,.int .u8 ((ka:Nat):Int),.int .u8 ((kb:Nat):Int),.int .u8 ((kc:Nat):Int),.int .u8 ((kd:Nat):Int),.string s]),.bool true])∧Sl (LegAt w0 w' L sb mb rb rp tv u qv c {l with ctl:=cs})∧Sl (OGoes W w' L rb rp tv kv qv tv u qv):=by
 obtain ⟨wa,hwa⟩:∃ V,W.alloc (.cells #[.bool false,.int .i64 0,.bool false,.int .u8 0,.int .u8 0,.int .u8 0,.int .u8 0,.string {data:=#[]}] 61)=V:=⟨_,rfl⟩
 have HB:Below W.heap.size W wa:=by rw [← hwa];exact (Below.refl _ _).alloc (Nat.le_refl _) _
 have hH:wa.heap[W.heap.size]? = some (.cells #[.bool false,.int .i64 0,.bool false,.int .u8 0,.int .u8 0,.int .u8 0,.int .u8 0,.string {data:=#[]}] 61 (0,0)):=by rw [← hwa];exact alloc_new _ _ _ rfl
 have HLA:=h.below HB
 have HOW:Sl (∀ j,Own L rb rp tv kv qv j→w0.heap.size≤j∧j<W.heap.size):=⟨fun j e=>h.own e⟩
 have HG0:=Sl.mk (OGoes.below L rb rp tv kv qv HB)
 have HL0:=Sl.mk h.low.size
 have HR:=HLA.C
 rw [hc] at HR
 obtain ⟨g,off,cap,rfl,hcap⟩:=HR.one
 obtain ⟨n,hn⟩:∃ n,cs.length=n:=⟨_,rfl⟩
 rw [hn] at HR hcap HLA hl HG0 HOW ⊢
 have HN:=Sl.mk hn
 obtain ⟨hra,-⟩:=HR.range
 obtain ⟨-,-,-,-,-,-,c6,c7,-⟩:=HLA.cells
 have hgw:g<wa.heap.size:=HR.lt rfl
 have hgl:g≠L:=fun e=>HLA.kinds.2.2.2.1 (by rw [← e];rfl)
 have q:∀ j u,(cv (⟨fin,op,m,[ka,kb,kc,kd],bytes s⟩:Fr))[j]? = some u→wa.cell? ⟨g,off+j,none⟩=some u:=hra
 have q0:wa.cell? ⟨g,off,none⟩=some (.bool fin):=q 0 _ rfl
 have q1:wa.cell? ⟨g,off+1,none⟩=some (.int .i64 op):=q 1 _ rfl
 have q2:wa.cell? ⟨g,off+2,none⟩=some (.bool m):=q 2 _ rfl
 have q3:wa.cell? ⟨g,off+3,none⟩=some (.int .u8 ((ka:Nat):Int)):=q 3 _ rfl
 have q4:wa.cell? ⟨g,off+4,none⟩=some (.int .u8 ((kb:Nat):Int)):=q 4 _ rfl
 have q5:wa.cell? ⟨g,off+5,none⟩=some (.int .u8 ((kc:Nat):Int)):=q 5 _ rfl
 have q6:wa.cell? ⟨g,off+6,none⟩=some (.int .u8 ((kd:Nat):Int)):=q 6 _ rfl
 have q7:wa.cell? ⟨g,off+7,none⟩=some (.string s):=by
  have:=q 7 (.string (strOf (bytes s))) rfl
  rw [strOf_bytes] at this;exact this
 obtain ⟨wb,hwb,HBb0,HFb⟩:=Cut.laid_fv wa #[.bool fin,.int .i64 op,.bool m,.int .u8 ((ka:Nat):Int),.int .u8 ((kb:Nat):Int),.int .u8 ((kc:Nat):Int),.int .u8 ((kd:Nat):Int),.string s]
 have HI:(Tryz.prog.info? 61).map (·.size)=some (#[.bool fin,.int .i64 op,.bool m,.int .u8 ((ka:Nat):Int),.int .u8 ((kb:Nat):Int),.int .u8 ((kc:Nat):Int),.int .u8 ((kd:Nat):Int),.string s]:Array Value).size:=Fra.box_size _ _ _ _ _ _ _ _
 have HIZ:(Tryz.prog.info? 61).map (·.size)=some (#[.bool false,.int .i64 0,.bool false,.int .u8 0,.int .u8 0,.int .u8 0,.int .u8 0,.string {data:=#[]}]:Array Value).size:=by kernel_rfl
 have hallZ:(#[.bool false,.int .i64 0,.bool false,.int .u8 0,.int .u8 0,.int .u8 0,.int .u8 0,.string {data:=#[]}]:Array Value).all (·.oneCell')=true:=by simp [Value.oneCell']
 have HL2:=HLA.below HBb0.out
 have HR2:=HR.below HBb0.out
 have HGb:=Sl.mk (HG0.out.trans (OGoes.below L rb rp tv (.slice (some ⟨g,off,none⟩) (n+1) cap) qv HBb0.out))
 have hHb:wb.heap[W.heap.size]? = some (.cells #[.bool false,.int .i64 0,.bool false,.int .u8 0,.int .u8 0,.int .u8 0,.int .u8 0,.string {data:=#[]}] 61 (0,0)):=below_key hH HBb0.out
 obtain ⟨hgz,hrz⟩:=HR2.wipe
 obtain ⟨-,hthb⟩:=HR2.range
 have HTHB:=Sl.mk hthb
 obtain ⟨-,-,-,-,-,-,d6,d7,-⟩:=HL2.cells
 obtain ⟨wc,hwc⟩:∃ V,wb.setCells g off zero8=V:=⟨_,rfl⟩
 rw [hwc] at hgz hrz
 have hwc':wb.setCells g off [.bool false,.int .i64 0,.bool false,.int .u8 0,.int .u8 0,.int .u8 0,.int .u8 0,.string {data:=#[]}]=wc:=hwc
 clear hwc hra q HR HLA
 have hXc:wc.heap[L]? = wb.heap[L]?:=hgz.block L HL2.lt (fun e=>hgl (by injection e with e;exact e.symm))
 have e6:wc.cell? ⟨L,6,none⟩=some (.slice (some ⟨g,off,none⟩) (n+1) cap):=by rw [World.cell?_of_block (w:=wb) hXc];exact d6
 have f6:wc.frozen? ⟨L,6,none⟩=false:=by rw [World.frozen?_of_block (w:=wb) hXc];exact HL2.froz 6
 have hgb:g<wb.heap.size:=HR2.lt rfl
 have hLb:=HL2.lt
 have hFc:wc.heap[wa.heap.size]? = some (.cells #[.bool fin,.int .i64 op,.bool m,.int .u8 ((ka:Nat):Int),.int .u8 ((kb:Nat):Int),.int .u8 ((kc:Nat):Int),.int .u8 ((kd:Nat):Int),.string s] 61 (0,0)):=by
  rw [hgz.block _ (Array.getElem?_eq_some_iff.1 HFb.out).1 (fun e=>by injection e with e;omega)];exact HFb.out
 have hgW:g<W.heap.size:=(HOW.out g (.inr (.inr (.inr (.inr (.inl rfl)))))).2
 have hLW:L<W.heap.size:=(HOW.out L (.inl rfl)).2
 have hHc:wc.heap[W.heap.size]? = some (.cells #[.bool false,.int .i64 0,.bool false,.int .u8 0,.int .u8 0,.int .u8 0,.int .u8 0,.string {data:=#[]}] 61 (0,0)):=by
  rw [hgz.block _ (Array.getElem?_eq_some_iff.1 hHb).1 (fun e=>by injection e with e;omega)];exact hHb
 have hwaW:W.heap.size≤wa.heap.size:=HB.size
 have hgt:((n:Int)+1>0)=True:=eq_true (by omega)
 have hne:((n:Int)+1==0)=false:=beq_eq_false_iff_ne.2 (by omega)
 have hs2:∀ V,(Instr.slice 34 (.slice (some ⟨g,off,none⟩) (n+1) cap) (some (.int .i64 1)) none none).run Tryz.prog V=.ok (.slice (Cut.fromF (some ⟨g,off,none⟩) 1 cap) n (cap-1)) V:=fun V=>fslice_l V (some ⟨g,off,none⟩) (n+1) cap (by omega) 1 rfl
 have HLW:=Sl.mk HL2
 have HRZ:=Sl.mk hrz
 have HGZ0:=Sl.mk hgz
 have HXC:=Sl.mk hXc
 have HFC:=Sl.mk hFc
 have HHC:=Sl.mk hHc
 clear hgz hrz hXc hFc hHc HR2 hHb hthb HBb0 HFb HB
 clear h HL2 hc hH
 by_cases hz:n=0
 ·subst hz
  obtain rfl:cs=[]:=List.eq_nil_of_length_eq_zero HN.out
  obtain ⟨a2,ha2⟩:∃ a2,Cut.fromF (some ⟨g,off,none⟩) 1 cap=a2:=⟨_,rfl⟩
  rw [ha2] at hs2
  have hX2:(wc.setCell ⟨L,6,none⟩ (.slice a2 0 (cap-1))).heap[L]? = some (.cells #[.int .i64 (c.msg:Int),.int .i64 (c.frm:Int),.pointer (some ⟨sb,0,none⟩),.pointer (some ⟨mb,0,none⟩),.pointer (some ⟨rb,0,none⟩),tv,(.slice a2 0 (cap-1)),qv,.bool (!c.masked),.int .u32 (l.draw:Int),.int .i64 (l.wrong:Int),.bool l.sent] 80 (0,0)):=by rw [heap_setCell_same _ _ _ _ _ _ (HXC.out.trans HLW.out.X)];rfl
  obtain ⟨wd,hwd⟩:∃ V,wc.setCell ⟨L,6,none⟩ (.slice a2 0 (cap-1))=V:=⟨_,rfl⟩
  have hgd:wc.grownBy wd (some L):=by rw [← hwd];exact grown_setCell _ _ _ _
  rw [hwd] at hX2
  have i6:wd.cell? ⟨L,6,none⟩=some (.slice a2 0 (cap-1)):=by rw [cell_of_row _ _ _ _ _ _ hX2];rfl
  have j6:wd.frozen? ⟨L,6,none⟩=false:=frozen_of_row _ _ _ _ _ hX2
  have hX3:(wd.setCell ⟨L,6,none⟩ (.slice none 0 0)).heap[L]? = some (.cells #[.int .i64 (c.msg:Int),.int .i64 (c.frm:Int),.pointer (some ⟨sb,0,none⟩),.pointer (some ⟨mb,0,none⟩),.pointer (some ⟨rb,0,none⟩),tv,(.slice none 0 0),qv,.bool (!c.masked),.int .u32 (l.draw:Int),.int .i64 (l.wrong:Int),.bool l.sent] 80 (0,0)):=by rw [heap_setCell_same _ _ _ _ _ _ hX2];rfl
  obtain ⟨we,hwe⟩:∃ V,wd.setCell ⟨L,6,none⟩ (.slice none 0 0)=V:=⟨_,rfl⟩
  have hge:wd.grownBy we (some L):=by rw [← hwe];exact grown_setCell _ _ _ _
  rw [hwe] at hX3
  have hblk:∀ k,k<wb.heap.size→k≠g→k≠L→we.heap[k]? = wb.heap[k]?:=fun k hk h1 h2=>by
   have s1:=HGZ0.out.size
   have s2:=hgd.size
   rw [hge.block k (by omega) (fun e=>h2 (by injection e with e)),hgd.block k (by omega) (fun e=>h2 (by injection e with e)),HGZ0.out.block k hk (fun e=>h1 (by injection e with e))]
  have hkc:Kept (fun j=>j=L∨(Value.slice (some ⟨g,off,none⟩) (0+1) cap).ownBlock=some j∨qv.ownBlock=some j) wb we :=
   ((Kept.grown (S:=fun j=>j=L∨(Value.slice (some ⟨g,off,none⟩) (0+1) cap).ownBlock=some j∨qv.ownBlock=some j) HGZ0.out (fun k e=>by injection e with e;subst e;exact .inr (.inl rfl))).trans (Kept.grown (S:=fun j=>j=L) hgd (fun k e=>by injection e with e;exact e.symm)) (fun j _ e=>.inl e)).trans (Kept.grown (S:=fun j=>j=L) hge (fun k e=>by injection e with e;exact e.symm)) (fun j _ e=>.inl e)
  obtain ⟨hle,hgoe⟩:=HLW.out.step (m:={l with ctl:=[]}) (kv':=.slice none 0 0)  hkc hX3 rfl (HLW.out.T.kept fun k e=>by
   obtain ⟨a1,a2,a3,a4,a5⟩:=HLW.out.tn k e
   exact hblk k (HLW.out.T.blk e).2.2 (fun e2=>a4 (by rw [e2];rfl)) a1) (frow_nil _ _) (HLW.out.D.block fun k e=>hblk k (HLW.out.D.lt e) (fun e2=>HLW.out.cn g rfl (e2 ▸ e)) (fun e2=>HLW.out.kinds.2.2.2.2.1 (e2 ▸ e))) HLW.out.dr (fun k e=>.inl e) (fun k e=>by cases e) (fun k e=>.inl e) (fun k e e2=>absurd (HLW.out.T.blk e).2.2 (by omega)) (fun k e _ e2=>by cases e2) (fun k e _ e2=>e2) (fun k e e2=>by cases e)
  have HLE:=Sl.mk hle
  have HGE:=Sl.mk (HGb.out.trans hgoe)
  have HFE:Sl (we.heap[wa.heap.size]? = some (.cells #[.bool fin,.int .i64 op,.bool m,.int .u8 ((ka:Nat):Int),.int .u8 ((kb:Nat):Int),.int .u8 ((kc:Nat):Int),.int .u8 ((kd:Nat):Int),.string s] 61 (0,0))):=⟨by
   have s1:=(Array.getElem?_eq_some_iff.1 HFC.out).1
   rw [hge.block _ (by have:=hgd.size;omega) (fun e=>by injection e with e;omega),hgd.block _ s1 (fun e=>by injection e with e;omega)];exact HFC.out⟩
  have HHE:Sl (we.heap[W.heap.size]? = some (.cells #[.bool false,.int .i64 0,.bool false,.int .u8 0,.int .u8 0,.int .u8 0,.int .u8 0,.string {data:=#[]}] 61 (0,0))):=⟨by
   have s1:=(Array.getElem?_eq_some_iff.1 HHC.out).1
   rw [hge.block _ (by have:=hgd.size;omega) (fun e=>by injection e with e;omega),hgd.block _ s1 (fun e=>by injection e with e;omega)];exact HHC.out⟩
  have HOU:Sl (∀ j,Own L rb rp tv (.slice none 0 0) qv j→j<W.heap.size):=⟨fun j e=>(HOW.out j (by
   rcases e with e | e | e | e | e | e
   ·exact .inl e
   ·exact .inr (.inl e)
   ·exact .inr (.inr (.inl e))
   ·exact .inr (.inr (.inr (.inl e)))
   ·cases e
   ·exact .inr (.inr (.inr (.inr (.inr e)))))).2⟩
  clear hle hgoe hkc hblk hX2 hX3 hgd hge HLW HRZ HGZ0 HXC HFC HHC HGb
  go_enter Tryz.func119,Tryz.ntmps119
  go_upto_region 1 with fail
  (try rw [hwa])
  clear hwa
  go_upto_region 7 with (refine wpList_store_row rfl 61 (.tmp 5) (.tmp 28) rfl wa.heap.size #[.bool fin,.int .i64 op,.bool m,.int .u8 ((ka:Nat):Int),.int .u8 ((kb:Nat):Int),.int .u8 ((kc:Nat):Int),.int .u8 ((kd:Nat):Int),.string s] rfl rfl 61 #[.bool false,.int .i64 0,.bool false,.int .u8 0,.int .u8 0,.int .u8 0,.int .u8 0,.string {data:=#[]}] (Fra.bx_new wa _) HI rfl (Fra.fr_all _ _ _ _ _ _ _ _) ?_)
  (try rw [hwb])
  clear hwb c6 c7 q0 q1 q2 q3 q4 q5 q6 q7
  go_upto_region 8 with (refine wpList_store_mid rfl 61 (.tmp 33) (.tmp 32) rfl g off #[.bool false,.int .i64 0,.bool false,.int .u8 0,.int .u8 0,.int .u8 0,.int .u8 0,.string {data:=#[]}] rfl rfl HTHB.out HIZ hallZ ?_)
  (try rw [hwc'])
  clear hwc' d6 d7
  go_upto_region 9 with fail
  (try rw [hwd])
  clear hwd e6 f6
  go_upto_region 11 with fail
  (try rw [hwe])
  clear hwe i6 j6
  obtain ⟨b0,b1,b2,b3,b4,b5,b6,b7⟩:=Fra.bx_cells HFE.out
  obtain ⟨wz,hwz⟩:∃ V,we.setRow W.heap.size #[.bool fin,.int .i64 op,.bool m,.int .u8 ((ka:Nat):Int),.int .u8 ((kb:Nat):Int),.int .u8 ((kc:Nat):Int),.int .u8 ((kd:Nat):Int),.string s]=V:=⟨_,rfl⟩
  have hgz:we.grownBy wz (some W.heap.size):=by rw [← hwz];exact grown_setRow _ _ _
  have hHz:wz.heap[W.heap.size]? = some (.cells #[.bool fin,.int .i64 op,.bool m,.int .u8 ((ka:Nat):Int),.int .u8 ((kb:Nat):Int),.int .u8 ((kc:Nat):Int),.int .u8 ((kd:Nat):Int),.string s] 61 (0,0)):=by rw [← hwz];exact setRow_heap _ _ _ _ _ _ HHE.out
  have HKZ:Kept (fun j=>j=W.heap.size) we wz:=Kept.grown hgz (fun j e=>by injection e with e;exact e.symm)
  have HLZ:=Sl.mk (HLE.out.stay HKZ (fun j e=>by
   have h1:=HOU.out j e
   omega) (HKZ.up HLE.out.low (fun j e=>by have:=HL0.out;omega) HLE.out.low.size))
  have HGZ:=Sl.mk (HGE.out.fresh HKZ (fun j e=>by omega))
  have HHZ:=Sl.mk hHz
  clear hgz hHz HKZ HLE HGE HFE
  go_wp2_with (refine wpList_store_row rfl 61 (.tmp 2) (.tmp 47) rfl W.heap.size #[.bool fin,.int .i64 op,.bool m,.int .u8 ((ka:Nat):Int),.int .u8 ((kb:Nat):Int),.int .u8 ((kc:Nat):Int),.int .u8 ((kd:Nat):Int),.string s] rfl rfl 61 #[.bool false,.int .i64 0,.bool false,.int .u8 0,.int .u8 0,.int .u8 0,.int .u8 0,.string {data:=#[]}] HHE.out HI rfl (Fra.fr_all _ _ _ _ _ _ _ _) ?_)
  (try rw [hwz])
  (try simp only [Exit.inBlock,Exit.then])
  refine bodyPost_ret (ret_fr2 rfl _ _ W.heap.size 61 #[.bool fin,.int .i64 op,.bool m,.int .u8 ((ka:Nat):Int),.int .u8 ((kb:Nat):Int),.int .u8 ((kc:Nat):Int),.int .u8 ((kd:Nat):Int),.string s] (0,0) rfl HHZ.out rfl) rfl ?_
  exact ⟨_,rfl,HLZ,HGZ⟩
 ·have hn1:0<cs.length:=by have:=HN.out;omega
  have hfr:Cut.fromF (some ⟨g,off,none⟩) 1 cap=some ⟨g,off+8,none⟩:=by
   unfold Cut.fromF
   rw [if_neg (by omega)]
   simp [Addr.add_mid]
  rw [hfr] at hs2
  have hr2:=HRZ.out hn1
  rw [HN.out] at hr2
  obtain ⟨hle,hgoe⟩:=HLW.out.rerowC (u:=.slice (some ⟨g,off+8,none⟩) n (cap-1)) HGZ0.out rfl (fun k e=>by
   have e:some g=some k:=e
   injection e with e;exact e.symm) hr2
  obtain ⟨wd,hwd⟩:∃ V,wc.setCell ⟨L,6,none⟩ (.slice (some ⟨g,off+8,none⟩) n (cap-1))=V:=⟨_,rfl⟩
  have hgd:wc.grownBy wd (some L):=by rw [← hwd];exact grown_setCell _ _ _ _
  rw [hwd] at hle hgoe
  have hq:((n:Int)==0)=false:=beq_eq_false_iff_ne.2 (by omega)
  obtain ⟨-,-,-,-,-,-,i6,i7,-⟩:=hle.cells
  have HLE:=Sl.mk hle
  have HGE:=Sl.mk (HGb.out.trans hgoe)
  have HFE:Sl (wd.heap[wa.heap.size]? = some (.cells #[.bool fin,.int .i64 op,.bool m,.int .u8 ((ka:Nat):Int),.int .u8 ((kb:Nat):Int),.int .u8 ((kc:Nat):Int),.int .u8 ((kd:Nat):Int),.string s] 61 (0,0))):=⟨by
   rw [hgd.block _ (Array.getElem?_eq_some_iff.1 HFC.out).1 (fun e=>by injection e with e;omega)];exact HFC.out⟩
  have HHE:Sl (wd.heap[W.heap.size]? = some (.cells #[.bool false,.int .i64 0,.bool false,.int .u8 0,.int .u8 0,.int .u8 0,.int .u8 0,.string {data:=#[]}] 61 (0,0))):=⟨by
   rw [hgd.block _ (Array.getElem?_eq_some_iff.1 HHC.out).1 (fun e=>by injection e with e;omega)];exact HHC.out⟩
  have HOU:Sl (∀ j,Own L rb rp tv (.slice (some ⟨g,off+8,none⟩) n (cap-1)) qv j→j<W.heap.size):=⟨fun j e=>(HOW.out j e).2⟩
  clear hle hgoe hr2 hgd HLW HRZ HGZ0 HXC HFC HHC HGb
  go_enter Tryz.func119,Tryz.ntmps119
  go_upto_region 1 with fail
  (try rw [hwa])
  clear hwa
  go_upto_region 7 with (refine wpList_store_row rfl 61 (.tmp 5) (.tmp 28) rfl wa.heap.size #[.bool fin,.int .i64 op,.bool m,.int .u8 ((ka:Nat):Int),.int .u8 ((kb:Nat):Int),.int .u8 ((kc:Nat):Int),.int .u8 ((kd:Nat):Int),.string s] rfl rfl 61 #[.bool false,.int .i64 0,.bool false,.int .u8 0,.int .u8 0,.int .u8 0,.int .u8 0,.string {data:=#[]}] (Fra.bx_new wa _) HI rfl (Fra.fr_all _ _ _ _ _ _ _ _) ?_)
  (try rw [hwb])
  clear hwb c6 c7 q0 q1 q2 q3 q4 q5 q6 q7
  go_upto_region 8 with (refine wpList_store_mid rfl 61 (.tmp 33) (.tmp 32) rfl g off #[.bool false,.int .i64 0,.bool false,.int .u8 0,.int .u8 0,.int .u8 0,.int .u8 0,.string {data:=#[]}] rfl rfl HTHB.out HIZ hallZ ?_)
  (try rw [hwc'])
  clear hwc' d6 d7
  go_upto_region 9 with fail
  (try rw [hwd])
  clear hwd e6 f6
  go_upto_region 11 with fail
  clear i6 i7 hq
  obtain ⟨b0,b1,b2,b3,b4,b5,b6,b7⟩:=Fra.bx_cells HFE.out
  obtain ⟨wz,hwz⟩:∃ V,wd.setRow W.heap.size #[.bool fin,.int .i64 op,.bool m,.int .u8 ((ka:Nat):Int),.int .u8 ((kb:Nat):Int),.int .u8 ((kc:Nat):Int),.int .u8 ((kd:Nat):Int),.string s]=V:=⟨_,rfl⟩
  have hgz:wd.grownBy wz (some W.heap.size):=by rw [← hwz];exact grown_setRow _ _ _
  have hHz:wz.heap[W.heap.size]? = some (.cells #[.bool fin,.int .i64 op,.bool m,.int .u8 ((ka:Nat):Int),.int .u8 ((kb:Nat):Int),.int .u8 ((kc:Nat):Int),.int .u8 ((kd:Nat):Int),.string s] 61 (0,0)):=by rw [← hwz];exact setRow_heap _ _ _ _ _ _ HHE.out
  have HKZ:Kept (fun j=>j=W.heap.size) wd wz:=Kept.grown hgz (fun j e=>by injection e with e;exact e.symm)
  have HLZ:=Sl.mk (HLE.out.stay HKZ (fun j e=>by
   have h1:=HOU.out j e
   omega) (HKZ.up HLE.out.low (fun j e=>by have:=HL0.out;omega) HLE.out.low.size))
  have HGZ:=Sl.mk (HGE.out.fresh HKZ (fun j e=>by omega))
  have HHZ:=Sl.mk hHz
  clear hgz hHz HKZ HLE HGE HFE
  go_wp2_with (refine wpList_store_row rfl 61 (.tmp 2) (.tmp 47) rfl W.heap.size #[.bool fin,.int .i64 op,.bool m,.int .u8 ((ka:Nat):Int),.int .u8 ((kb:Nat):Int),.int .u8 ((kc:Nat):Int),.int .u8 ((kd:Nat):Int),.string s] rfl rfl 61 #[.bool false,.int .i64 0,.bool false,.int .u8 0,.int .u8 0,.int .u8 0,.int .u8 0,.string {data:=#[]}] HHE.out HI rfl (Fra.fr_all _ _ _ _ _ _ _ _) ?_)
  (try rw [hwz])
  (try simp only [Exit.inBlock,Exit.then])
  refine bodyPost_ret (ret_fr2 rfl _ _ W.heap.size 61 #[.bool fin,.int .i64 op,.bool m,.int .u8 ((ka:Nat):Int),.int .u8 ((kb:Nat):Int),.int .u8 ((kc:Nat):Int),.int .u8 ((kd:Nat):Int),.string s] (0,0) rfl HHZ.out rfl) rfl ?_
  exact ⟨_,rfl,HLZ,HGZ⟩
set_option maxHeartbeats 8000000 in
theorem onext_rest (h:LegAt w0 W L sb mb rb rp tv kv qv c l) (fin:Bool) (op:Int) (m:Bool) (ka kb kc kd:Nat) (s:ByteArray) (cs:List Fr) (hc0:l.ctl=[]) (hc:l.rest=(⟨fin,op,m,[ka,kb,kc,kd],bytes s⟩:Fr) :: cs) (hl:cs.length≤1000000) :
 Calls Tryz.prog 119 #[.pointer (some ⟨L,4,none⟩)] W fun e w'=>∃ u,e=.returned (.tuple #[(.agg #[.bool fin,.int .i64 op,.bool m,.int .u8 ((ka:Nat):Int),.int .u8 ((kb:Nat):Int),.int .u8 ((kc:Nat):Int),.int .u8 ((kd:Nat):Int),.string s]),.bool true])∧Sl (LegAt w0 w' L sb mb rb rp tv kv u c {l with rest:=cs})∧Sl (OGoes W w' L rb rp tv kv qv tv kv u):=by
 obtain ⟨wa,hwa⟩:∃ V,W.alloc (.cells #[.bool false,.int .i64 0,.bool false,.int .u8 0,.int .u8 0,.int .u8 0,.int .u8 0,.string {data:=#[]}] 61)=V:=⟨_,rfl⟩
 have HB:Below W.heap.size W wa:=by rw [← hwa];exact (Below.refl _ _).alloc (Nat.le_refl _) _
 have hH:wa.heap[W.heap.size]? = some (.cells #[.bool false,.int .i64 0,.bool false,.int .u8 0,.int .u8 0,.int .u8 0,.int .u8 0,.string {data:=#[]}] 61 (0,0)):=by rw [← hwa];exact alloc_new _ _ _ rfl
 have HLA:=h.below HB
 have HOW:Sl (∀ j,Own L rb rp tv kv qv j→w0.heap.size≤j∧j<W.heap.size):=⟨fun j e=>h.own e⟩
 have HG0:=Sl.mk (OGoes.below L rb rp tv kv qv HB)
 have HL0:=Sl.mk h.low.size
 have HR:=HLA.D
 rw [hc] at HR
 have HC:=HLA.C
 rw [hc0] at HC
 obtain rfl:=HC.nil
 clear HC
 obtain ⟨g,off,cap,rfl,hcap⟩:=HR.one
 obtain ⟨n,hn⟩:∃ n,cs.length=n:=⟨_,rfl⟩
 rw [hn] at HR hcap HLA hl HG0 HOW ⊢
 have HN:=Sl.mk hn
 obtain ⟨hra,-⟩:=HR.range
 obtain ⟨-,-,-,-,-,-,c6,c7,-⟩:=HLA.cells
 have hgw:g<wa.heap.size:=HR.lt rfl
 have hgl:g≠L:=fun e=>HLA.kinds.2.2.2.2.1 (by rw [← e];rfl)
 have q:∀ j u,(cv (⟨fin,op,m,[ka,kb,kc,kd],bytes s⟩:Fr))[j]? = some u→wa.cell? ⟨g,off+j,none⟩=some u:=hra
 have q0:wa.cell? ⟨g,off,none⟩=some (.bool fin):=q 0 _ rfl
 have q1:wa.cell? ⟨g,off+1,none⟩=some (.int .i64 op):=q 1 _ rfl
 have q2:wa.cell? ⟨g,off+2,none⟩=some (.bool m):=q 2 _ rfl
 have q3:wa.cell? ⟨g,off+3,none⟩=some (.int .u8 ((ka:Nat):Int)):=q 3 _ rfl
 have q4:wa.cell? ⟨g,off+4,none⟩=some (.int .u8 ((kb:Nat):Int)):=q 4 _ rfl
 have q5:wa.cell? ⟨g,off+5,none⟩=some (.int .u8 ((kc:Nat):Int)):=q 5 _ rfl
 have q6:wa.cell? ⟨g,off+6,none⟩=some (.int .u8 ((kd:Nat):Int)):=q 6 _ rfl
 have q7:wa.cell? ⟨g,off+7,none⟩=some (.string s):=by
  have:=q 7 (.string (strOf (bytes s))) rfl
  rw [strOf_bytes] at this;exact this
 obtain ⟨wb,hwb,HBb0,HFb⟩:=Cut.laid_fv wa #[.bool fin,.int .i64 op,.bool m,.int .u8 ((ka:Nat):Int),.int .u8 ((kb:Nat):Int),.int .u8 ((kc:Nat):Int),.int .u8 ((kd:Nat):Int),.string s]
 have HI:(Tryz.prog.info? 61).map (·.size)=some (#[.bool fin,.int .i64 op,.bool m,.int .u8 ((ka:Nat):Int),.int .u8 ((kb:Nat):Int),.int .u8 ((kc:Nat):Int),.int .u8 ((kd:Nat):Int),.string s]:Array Value).size:=Fra.box_size _ _ _ _ _ _ _ _
 have HIZ:(Tryz.prog.info? 61).map (·.size)=some (#[.bool false,.int .i64 0,.bool false,.int .u8 0,.int .u8 0,.int .u8 0,.int .u8 0,.string {data:=#[]}]:Array Value).size:=by kernel_rfl
 have hallZ:(#[.bool false,.int .i64 0,.bool false,.int .u8 0,.int .u8 0,.int .u8 0,.int .u8 0,.string {data:=#[]}]:Array Value).all (·.oneCell')=true:=by simp [Value.oneCell']
 have HL2:=HLA.below HBb0.out
 have HR2:=HR.below HBb0.out
 have HGb:=Sl.mk (HG0.out.trans (OGoes.below L rb rp tv (.slice none 0 0) (.slice (some ⟨g,off,none⟩) (n+1) cap) HBb0.out))
 have hHb:wb.heap[W.heap.size]? = some (.cells #[.bool false,.int .i64 0,.bool false,.int .u8 0,.int .u8 0,.int .u8 0,.int .u8 0,.string {data:=#[]}] 61 (0,0)):=below_key hH HBb0.out
 obtain ⟨hgz,hrz⟩:=HR2.wipe
 obtain ⟨-,hthb⟩:=HR2.range
 have HTHB:=Sl.mk hthb
 obtain ⟨-,-,-,-,-,-,d6,d7,-⟩:=HL2.cells
 obtain ⟨wc,hwc⟩:∃ V,wb.setCells g off zero8=V:=⟨_,rfl⟩
 rw [hwc] at hgz hrz
 have hwc':wb.setCells g off [.bool false,.int .i64 0,.bool false,.int .u8 0,.int .u8 0,.int .u8 0,.int .u8 0,.string {data:=#[]}]=wc:=hwc
 clear hwc hra q HR HLA
 have hXc:wc.heap[L]? = wb.heap[L]?:=hgz.block L HL2.lt (fun e=>hgl (by injection e with e;exact e.symm))
 have e7:wc.cell? ⟨L,7,none⟩=some (.slice (some ⟨g,off,none⟩) (n+1) cap):=by rw [World.cell?_of_block (w:=wb) hXc];exact d7
 have f7:wc.frozen? ⟨L,7,none⟩=false:=by rw [World.frozen?_of_block (w:=wb) hXc];exact HL2.froz 7
 have hgb:g<wb.heap.size:=HR2.lt rfl
 have hLb:=HL2.lt
 have hFc:wc.heap[wa.heap.size]? = some (.cells #[.bool fin,.int .i64 op,.bool m,.int .u8 ((ka:Nat):Int),.int .u8 ((kb:Nat):Int),.int .u8 ((kc:Nat):Int),.int .u8 ((kd:Nat):Int),.string s] 61 (0,0)):=by
  rw [hgz.block _ (Array.getElem?_eq_some_iff.1 HFb.out).1 (fun e=>by injection e with e;omega)];exact HFb.out
 have hgW:g<W.heap.size:=(HOW.out g (.inr (.inr (.inr (.inr (.inr rfl)))))).2
 have hLW:L<W.heap.size:=(HOW.out L (.inl rfl)).2
 have hHc:wc.heap[W.heap.size]? = some (.cells #[.bool false,.int .i64 0,.bool false,.int .u8 0,.int .u8 0,.int .u8 0,.int .u8 0,.string {data:=#[]}] 61 (0,0)):=by
  rw [hgz.block _ (Array.getElem?_eq_some_iff.1 hHb).1 (fun e=>by injection e with e;omega)];exact hHb
 have hwaW:W.heap.size≤wa.heap.size:=HB.size
 have hgt:((n:Int)+1>0)=True:=eq_true (by omega)
 have hne:((n:Int)+1==0)=false:=beq_eq_false_iff_ne.2 (by omega)
 have hs2:∀ V,(Instr.slice 34 (.slice (some ⟨g,off,none⟩) (n+1) cap) (some (.int .i64 1)) none none).run Tryz.prog V=.ok (.slice (Cut.fromF (some ⟨g,off,none⟩) 1 cap) n (cap-1)) V:=fun V=>fslice_l V (some ⟨g,off,none⟩) (n+1) cap (by omega) 1 rfl
 have HLW:=Sl.mk HL2
 have HRZ:=Sl.mk hrz
 have HGZ0:=Sl.mk hgz
 have HXC:=Sl.mk hXc
 have HFC:=Sl.mk hFc
 have HHC:=Sl.mk hHc
 clear hgz hrz hXc hFc hHc HR2 hHb hthb HBb0 HFb HB
 clear h HL2 hc hH hc0
 by_cases hz:n=0
 ·subst hz
  obtain rfl:cs=[]:=List.eq_nil_of_length_eq_zero HN.out
  obtain ⟨a2,ha2⟩:∃ a2,Cut.fromF (some ⟨g,off,none⟩) 1 cap=a2:=⟨_,rfl⟩
  rw [ha2] at hs2
  have hX2:(wc.setCell ⟨L,7,none⟩ (.slice a2 0 (cap-1))).heap[L]? = some (.cells #[.int .i64 (c.msg:Int),.int .i64 (c.frm:Int),.pointer (some ⟨sb,0,none⟩),.pointer (some ⟨mb,0,none⟩),.pointer (some ⟨rb,0,none⟩),tv,(.slice none 0 0),(.slice a2 0 (cap-1)),.bool (!c.masked),.int .u32 (l.draw:Int),.int .i64 (l.wrong:Int),.bool l.sent] 80 (0,0)):=by rw [heap_setCell_same _ _ _ _ _ _ (HXC.out.trans HLW.out.X)];rfl
  obtain ⟨wd,hwd⟩:∃ V,wc.setCell ⟨L,7,none⟩ (.slice a2 0 (cap-1))=V:=⟨_,rfl⟩
  have hgd:wc.grownBy wd (some L):=by rw [← hwd];exact grown_setCell _ _ _ _
  rw [hwd] at hX2
  have i7:wd.cell? ⟨L,7,none⟩=some (.slice a2 0 (cap-1)):=by rw [cell_of_row _ _ _ _ _ _ hX2];rfl
  have j7:wd.frozen? ⟨L,7,none⟩=false:=frozen_of_row _ _ _ _ _ hX2
  have hX3:(wd.setCell ⟨L,7,none⟩ (.slice none 0 0)).heap[L]? = some (.cells #[.int .i64 (c.msg:Int),.int .i64 (c.frm:Int),.pointer (some ⟨sb,0,none⟩),.pointer (some ⟨mb,0,none⟩),.pointer (some ⟨rb,0,none⟩),tv,(.slice none 0 0),(.slice none 0 0),.bool (!c.masked),.int .u32 (l.draw:Int),.int .i64 (l.wrong:Int),.bool l.sent] 80 (0,0)):=by rw [heap_setCell_same _ _ _ _ _ _ hX2];rfl
  obtain ⟨we,hwe⟩:∃ V,wd.setCell ⟨L,7,none⟩ (.slice none 0 0)=V:=⟨_,rfl⟩
  have hge:wd.grownBy we (some L):=by rw [← hwe];exact grown_setCell _ _ _ _
  rw [hwe] at hX3
  have hblk:∀ k,k<wb.heap.size→k≠g→k≠L→we.heap[k]? = wb.heap[k]?:=fun k hk h1 h2=>by
   have s1:=HGZ0.out.size
   have s2:=hgd.size
   rw [hge.block k (by omega) (fun e=>h2 (by injection e with e)),hgd.block k (by omega) (fun e=>h2 (by injection e with e)),HGZ0.out.block k hk (fun e=>h1 (by injection e with e))]
  have hkc:Kept (fun j=>j=L∨(Value.slice none 0 0).ownBlock=some j∨(Value.slice (some ⟨g,off,none⟩) (0+1) cap).ownBlock=some j) wb we :=
   ((Kept.grown (S:=fun j=>j=L∨(Value.slice none 0 0).ownBlock=some j∨(Value.slice (some ⟨g,off,none⟩) (0+1) cap).ownBlock=some j) HGZ0.out (fun k e=>by injection e with e;subst e;exact .inr (.inr rfl))).trans (Kept.grown (S:=fun j=>j=L) hgd (fun k e=>by injection e with e;exact e.symm)) (fun j _ e=>.inl e)).trans (Kept.grown (S:=fun j=>j=L) hge (fun k e=>by injection e with e;exact e.symm)) (fun j _ e=>.inl e)
  obtain ⟨hle,hgoe⟩:=HLW.out.step (m:={l with rest:=[]}) (kv':=.slice none 0 0) (qv':=.slice none 0 0) hkc hX3 rfl (HLW.out.T.kept fun k e=>by
   obtain ⟨a1,a2,a3,a4,a5⟩:=HLW.out.tn k e
   exact hblk k (HLW.out.T.blk e).2.2 (fun e2=>a5 (by rw [e2];rfl)) a1) (HLW.out.C.block fun k e=>by cases e) (frow_nil _ _) HLW.out.dr (fun k e=>.inl e) (fun k e=>.inl e) (fun k e=>by cases e) (fun k e e2=>absurd (HLW.out.T.blk e).2.2 (by omega)) (fun k e _ e2=>e2) (fun k e _ e2=>by cases e2) (fun k e e2=>by cases e)
  have HLE:=Sl.mk hle
  have HGE:=Sl.mk (HGb.out.trans hgoe)
  have HFE:Sl (we.heap[wa.heap.size]? = some (.cells #[.bool fin,.int .i64 op,.bool m,.int .u8 ((ka:Nat):Int),.int .u8 ((kb:Nat):Int),.int .u8 ((kc:Nat):Int),.int .u8 ((kd:Nat):Int),.string s] 61 (0,0))):=⟨by
   have s1:=(Array.getElem?_eq_some_iff.1 HFC.out).1
   rw [hge.block _ (by have:=hgd.size;omega) (fun e=>by injection e with e;omega),hgd.block _ s1 (fun e=>by injection e with e;omega)];exact HFC.out⟩
  have HHE:Sl (we.heap[W.heap.size]? = some (.cells #[.bool false,.int .i64 0,.bool false,.int .u8 0,.int .u8 0,.int .u8 0,.int .u8 0,.string {data:=#[]}] 61 (0,0))):=⟨by
   have s1:=(Array.getElem?_eq_some_iff.1 HHC.out).1
   rw [hge.block _ (by have:=hgd.size;omega) (fun e=>by injection e with e;omega),hgd.block _ s1 (fun e=>by injection e with e;omega)];exact HHC.out⟩
  have HOU:Sl (∀ j,Own L rb rp tv (.slice none 0 0) (.slice none 0 0) j→j<W.heap.size):=⟨fun j e=>(HOW.out j (by
   rcases e with e | e | e | e | e | e
   ·exact .inl e
   ·exact .inr (.inl e)
   ·exact .inr (.inr (.inl e))
   ·exact .inr (.inr (.inr (.inl e)))
   ·cases e
   ·cases e)).2⟩
  clear hle hgoe hkc hblk hX2 hX3 hgd hge HLW HRZ HGZ0 HXC HFC HHC HGb
  go_enter Tryz.func119,Tryz.ntmps119
  go_upto_region 1 with fail
  (try rw [hwa])
  clear hwa
  go_upto_region 7 with (refine wpList_store_row rfl 61 (.tmp 5) (.tmp 28) rfl wa.heap.size #[.bool fin,.int .i64 op,.bool m,.int .u8 ((ka:Nat):Int),.int .u8 ((kb:Nat):Int),.int .u8 ((kc:Nat):Int),.int .u8 ((kd:Nat):Int),.string s] rfl rfl 61 #[.bool false,.int .i64 0,.bool false,.int .u8 0,.int .u8 0,.int .u8 0,.int .u8 0,.string {data:=#[]}] (Fra.bx_new wa _) HI rfl (Fra.fr_all _ _ _ _ _ _ _ _) ?_)
  (try rw [hwb])
  clear hwb c6 c7 q0 q1 q2 q3 q4 q5 q6 q7
  go_upto_region 8 with (refine wpList_store_mid rfl 61 (.tmp 33) (.tmp 32) rfl g off #[.bool false,.int .i64 0,.bool false,.int .u8 0,.int .u8 0,.int .u8 0,.int .u8 0,.string {data:=#[]}] rfl rfl HTHB.out HIZ hallZ ?_)
  (try rw [hwc'])
  clear hwc' d6 d7
  go_upto_region 9 with fail
  (try rw [hwd])
  clear hwd e7 f7
  go_upto_region 11 with fail
  (try rw [hwe])
  clear hwe i7 j7
  obtain ⟨b0,b1,b2,b3,b4,b5,b6,b7⟩:=Fra.bx_cells HFE.out
  obtain ⟨wz,hwz⟩:∃ V,we.setRow W.heap.size #[.bool fin,.int .i64 op,.bool m,.int .u8 ((ka:Nat):Int),.int .u8 ((kb:Nat):Int),.int .u8 ((kc:Nat):Int),.int .u8 ((kd:Nat):Int),.string s]=V:=⟨_,rfl⟩
  have hgz:we.grownBy wz (some W.heap.size):=by rw [← hwz];exact grown_setRow _ _ _
  have hHz:wz.heap[W.heap.size]? = some (.cells #[.bool fin,.int .i64 op,.bool m,.int .u8 ((ka:Nat):Int),.int .u8 ((kb:Nat):Int),.int .u8 ((kc:Nat):Int),.int .u8 ((kd:Nat):Int),.string s] 61 (0,0)):=by rw [← hwz];exact setRow_heap _ _ _ _ _ _ HHE.out
  have HKZ:Kept (fun j=>j=W.heap.size) we wz:=Kept.grown hgz (fun j e=>by injection e with e;exact e.symm)
  have HLZ:=Sl.mk (HLE.out.stay HKZ (fun j e=>by
   have h1:=HOU.out j e
   omega) (HKZ.up HLE.out.low (fun j e=>by have:=HL0.out;omega) HLE.out.low.size))
  have HGZ:=Sl.mk (HGE.out.fresh HKZ (fun j e=>by omega))
  have HHZ:=Sl.mk hHz
  clear hgz hHz HKZ HLE HGE HFE
  go_wp2_with (refine wpList_store_row rfl 61 (.tmp 2) (.tmp 47) rfl W.heap.size #[.bool fin,.int .i64 op,.bool m,.int .u8 ((ka:Nat):Int),.int .u8 ((kb:Nat):Int),.int .u8 ((kc:Nat):Int),.int .u8 ((kd:Nat):Int),.string s] rfl rfl 61 #[.bool false,.int .i64 0,.bool false,.int .u8 0,.int .u8 0,.int .u8 0,.int .u8 0,.string {data:=#[]}] HHE.out HI rfl (Fra.fr_all _ _ _ _ _ _ _ _) ?_)
  (try rw [hwz])
  (try simp only [Exit.inBlock,Exit.then])
  refine bodyPost_ret (ret_fr2 rfl _ _ W.heap.size 61 #[.bool fin,.int .i64 op,.bool m,.int .u8 ((ka:Nat):Int),.int .u8 ((kb:Nat):Int),.int .u8 ((kc:Nat):Int),.int .u8 ((kd:Nat):Int),.string s] (0,0) rfl HHZ.out rfl) rfl ?_
  exact ⟨_,rfl,HLZ,HGZ⟩
 ·have hn1:0<cs.length:=by have:=HN.out;omega
  have hfr:Cut.fromF (some ⟨g,off,none⟩) 1 cap=some ⟨g,off+8,none⟩:=by
   unfold Cut.fromF
   rw [if_neg (by omega)]
   simp [Addr.add_mid]
  rw [hfr] at hs2
  have hr2:=HRZ.out hn1
  rw [HN.out] at hr2
  obtain ⟨hle,hgoe⟩:=HLW.out.rerowR (u:=.slice (some ⟨g,off+8,none⟩) n (cap-1)) HGZ0.out rfl (fun k e=>by
   have e:some g=some k:=e
   injection e with e;exact e.symm) hr2
  obtain ⟨wd,hwd⟩:∃ V,wc.setCell ⟨L,7,none⟩ (.slice (some ⟨g,off+8,none⟩) n (cap-1))=V:=⟨_,rfl⟩
  have hgd:wc.grownBy wd (some L):=by rw [← hwd];exact grown_setCell _ _ _ _
  rw [hwd] at hle hgoe
  have hq:((n:Int)==0)=false:=beq_eq_false_iff_ne.2 (by omega)
  obtain ⟨-,-,-,-,-,-,i6,i7,-⟩:=hle.cells
  have HLE:=Sl.mk hle
  have HGE:=Sl.mk (HGb.out.trans hgoe)
  have HFE:Sl (wd.heap[wa.heap.size]? = some (.cells #[.bool fin,.int .i64 op,.bool m,.int .u8 ((ka:Nat):Int),.int .u8 ((kb:Nat):Int),.int .u8 ((kc:Nat):Int),.int .u8 ((kd:Nat):Int),.string s] 61 (0,0))):=⟨by
   rw [hgd.block _ (Array.getElem?_eq_some_iff.1 HFC.out).1 (fun e=>by injection e with e;omega)];exact HFC.out⟩
  have HHE:Sl (wd.heap[W.heap.size]? = some (.cells #[.bool false,.int .i64 0,.bool false,.int .u8 0,.int .u8 0,.int .u8 0,.int .u8 0,.string {data:=#[]}] 61 (0,0))):=⟨by
   rw [hgd.block _ (Array.getElem?_eq_some_iff.1 HHC.out).1 (fun e=>by injection e with e;omega)];exact HHC.out⟩
  have HOU:Sl (∀ j,Own L rb rp tv (.slice none 0 0) (.slice (some ⟨g,off+8,none⟩) n (cap-1)) j→j<W.heap.size):=⟨fun j e=>(HOW.out j e).2⟩
  clear hle hgoe hr2 hgd HLW HRZ HGZ0 HXC HFC HHC HGb
  go_enter Tryz.func119,Tryz.ntmps119
  go_upto_region 1 with fail
  (try rw [hwa])
  clear hwa
  go_upto_region 7 with (refine wpList_store_row rfl 61 (.tmp 5) (.tmp 28) rfl wa.heap.size #[.bool fin,.int .i64 op,.bool m,.int .u8 ((ka:Nat):Int),.int .u8 ((kb:Nat):Int),.int .u8 ((kc:Nat):Int),.int .u8 ((kd:Nat):Int),.string s] rfl rfl 61 #[.bool false,.int .i64 0,.bool false,.int .u8 0,.int .u8 0,.int .u8 0,.int .u8 0,.string {data:=#[]}] (Fra.bx_new wa _) HI rfl (Fra.fr_all _ _ _ _ _ _ _ _) ?_)
  (try rw [hwb])
  clear hwb c6 c7 q0 q1 q2 q3 q4 q5 q6 q7
  go_upto_region 8 with (refine wpList_store_mid rfl 61 (.tmp 33) (.tmp 32) rfl g off #[.bool false,.int .i64 0,.bool false,.int .u8 0,.int .u8 0,.int .u8 0,.int .u8 0,.string {data:=#[]}] rfl rfl HTHB.out HIZ hallZ ?_)
  (try rw [hwc'])
  clear hwc' d6 d7
  go_upto_region 9 with fail
  (try rw [hwd])
  clear hwd e7 f7
  go_upto_region 11 with fail
  clear i6 i7 hq
  obtain ⟨b0,b1,b2,b3,b4,b5,b6,b7⟩:=Fra.bx_cells HFE.out
  obtain ⟨wz,hwz⟩:∃ V,wd.setRow W.heap.size #[.bool fin,.int .i64 op,.bool m,.int .u8 ((ka:Nat):Int),.int .u8 ((kb:Nat):Int),.int .u8 ((kc:Nat):Int),.int .u8 ((kd:Nat):Int),.string s]=V:=⟨_,rfl⟩
  have hgz:wd.grownBy wz (some W.heap.size):=by rw [← hwz];exact grown_setRow _ _ _
  have hHz:wz.heap[W.heap.size]? = some (.cells #[.bool fin,.int .i64 op,.bool m,.int .u8 ((ka:Nat):Int),.int .u8 ((kb:Nat):Int),.int .u8 ((kc:Nat):Int),.int .u8 ((kd:Nat):Int),.string s] 61 (0,0)):=by rw [← hwz];exact setRow_heap _ _ _ _ _ _ HHE.out
  have HKZ:Kept (fun j=>j=W.heap.size) wd wz:=Kept.grown hgz (fun j e=>by injection e with e;exact e.symm)
  have HLZ:=Sl.mk (HLE.out.stay HKZ (fun j e=>by
   have h1:=HOU.out j e
   omega) (HKZ.up HLE.out.low (fun j e=>by have:=HL0.out;omega) HLE.out.low.size))
  have HGZ:=Sl.mk (HGE.out.fresh HKZ (fun j e=>by omega))
  have HHZ:=Sl.mk hHz
  clear hgz hHz HKZ HLE HGE HFE
  go_wp2_with (refine wpList_store_row rfl 61 (.tmp 2) (.tmp 47) rfl W.heap.size #[.bool fin,.int .i64 op,.bool m,.int .u8 ((ka:Nat):Int),.int .u8 ((kb:Nat):Int),.int .u8 ((kc:Nat):Int),.int .u8 ((kd:Nat):Int),.string s] rfl rfl 61 #[.bool false,.int .i64 0,.bool false,.int .u8 0,.int .u8 0,.int .u8 0,.int .u8 0,.string {data:=#[]}] HHE.out HI rfl (Fra.fr_all _ _ _ _ _ _ _ _) ?_)
  (try rw [hwz])
  (try simp only [Exit.inBlock,Exit.then])
  refine bodyPost_ret (ret_fr2 rfl _ _ W.heap.size 61 #[.bool fin,.int .i64 op,.bool m,.int .u8 ((ka:Nat):Int),.int .u8 ((kb:Nat):Int),.int .u8 ((kc:Nat):Int),.int .u8 ((kd:Nat):Int),.string s] (0,0) rfl HHZ.out rfl) rfl ?_
  exact ⟨_,rfl,HLZ,HGZ⟩
end
end Go.Proofs.YtlahonjmfecikaaGreatDoor.Leg
set_option maxRecDepth 100000
namespace Go.Proofs.YtlahonjmfecikaaGreatDoor.Leg
open Go.RowKit Stm
open FramePlain (Fr Fr0)
open LegPlain (Cf Lg)
open Msg (Kept MacS Mine)
open LegPlain (dress draws mv fill put IsC IsR Inv)
open FramePlain (text size chk form zero4)
section
variable {w0 W W':World} {L sb mb rb rp:Nat} {tv kv qv:Value} {c:Cf} {l:Lg}
theorem LegAt.tail (h:LegAt w0 W L sb mb rb rp tv kv qv c l) (u:Value) (bs:List Nat) (hT:TailAt W w0.heap.size u bs) (hu:∀ k,tblk u=some k→k≠L∧k≠rb∧k≠rp∧kv.ownBlock≠some k∧qv.ownBlock≠some k):LegAt w0 (W.setCell ⟨L,5,none⟩ u) L sb mb rb rp u kv qv c {l with tail:=bs} :=
 h.set 5 u (m:={l with tail:=bs}) rfl rfl hT h.C h.D h.dr hu h.cn
def lenAt (W:World) (L i:Nat):Nat:=match W.cell? ⟨L,i,none⟩ with
 | some (.slice _ n _)=>n
 | _=>0
def meas (L:Nat) (W:World):Nat:=lenAt W L 6+lenAt W L 7
theorem LegAt.meas (h:LegAt w0 W L sb mb rb rp tv kv qv c l):meas L W=l.ctl.length+l.rest.length:=by
 obtain ⟨-,-,-,-,-,-,c6,c7,-⟩:=h.cells
 obtain ⟨a,x,e1⟩:=h.C.slice
 obtain ⟨b,y,e2⟩:=h.D.slice
 unfold Leg.meas lenAt
 rw [c6,c7,e1,e2]
theorem mv_ctl {c:Cf} {l:Lg} {f:Fr} {cs:List Fr} {n:Nat} (ht:(fill c l).tail=[]) (hc:l.ctl=f :: cs):mv c (n+1) l=mv c n (put c {fill c l with ctl:=cs} f):=by
 rw [mv,if_neg (fun e=>e ht)]
 have:∀ x:List Fr,x=f :: cs→(match x,l.rest with
  | f :: cs,_=>mv c n (put c {fill c l with ctl:=cs} f)
  | [],f :: r=>mv c n (put c {fill c l with rest:=r} f)
  | [],[]=>fill c l)=mv c n (put c {fill c l with ctl:=cs} f):=fun x e=>by subst e;rfl
 exact this _ hc
theorem mv_rest {c:Cf} {l:Lg} {f:Fr} {cs:List Fr} {n:Nat} (ht:(fill c l).tail=[]) (hc:l.ctl=[]) (hr:l.rest=f :: cs):mv c (n+1) l=mv c n (put c {fill c l with rest:=cs} f):=by
 rw [mv,if_neg (fun e=>e ht)]
 have:∀ x y:List Fr,x=[]→y=f :: cs→(match x,y with
  | f :: cs,_=>mv c n (put c {fill c l with ctl:=cs} f)
  | [],f :: r=>mv c n (put c {fill c l with rest:=r} f)
  | [],[]=>fill c l)=mv c n (put c {fill c l with rest:=cs} f):=fun x y e e2=>by subst e e2;rfl
 exact this _ _ hc hr
theorem mv_full {c:Cf} {l:Lg} {n:Nat} (ht:(fill c l).tail≠[]):mv c n l=fill c l:=by
 cases n with
 | zero=>rfl
 | succ n=>rw [mv,if_pos ht]
theorem wait_parts {f:Fr} (h:IsC f∨∃ most,most≤65536∧IsR most f):∃ fin,∃ k:Nat,∃ m,∃ ka kb kc kd:Nat,∃ s,f=(⟨fin,(k:Int),m,[ka,kb,kc,kd],bytes s⟩:Fr)∧Small 256 [ka,kb,kc,kd]∧form f=true∧s.size≤65536:=by
 have hz:f.masked=false∧f.key=zero4∧(∀ y∈f.data,y<256)∧form f=true∧f.data.length≤65536∧0≤f.op:=by
  rcases h with h | ⟨most,hm,h⟩
  ·have ho:8≤f.op∧f.op≤10:=by rcases h.op with e | e | e<;>omega
   exact ⟨h.masked,h.key,h.small,FramePlain.form_of ⟨.inr ⟨ho.1,ho.2,h.fin,h.len⟩,.inr h.key⟩,by have:=h.len;omega,by omega⟩
  ·have ho:0≤f.op∧f.op≤2:=by rcases h.op with e | e | e<;>omega
   exact ⟨h.masked,h.key,h.small,FramePlain.form_of ⟨.inl ho,.inr h.key⟩,by have:=h.len;omega,ho.1⟩
 obtain ⟨h1,h2,h3,h4,h5,h6⟩:=hz
 refine ⟨f.fin,f.op.toNat,f.masked,0,0,0,0,strOf f.data,?_,fun x hx=>by simp at hx;omega,h4,by rw [strOf_size];exact h5⟩
 obtain ⟨fin,op,m,key,data⟩:=f
 simp only at h1 h2 h3 h6
 rw [bytes_strOf data h3,h2,show ((op.toNat:Nat):Int)=op by omega];rfl
theorem OGoes.retail {V:World} {t1 k1 q1:Value} (h:OGoes W V L rb rp tv kv qv t1 k1 q1) (i:Nat) (u:Value) {t2:Value} (ht:∀ k,tblk t2=some k→W.heap.size≤k):OGoes W (V.setCell ⟨L,i,none⟩ u) L rb rp tv kv qv t2 k1 q1 :=
 ⟨h.kept.trans (Kept.grown (S:=fun k=>k=L) (grown_setCell V L i u) (fun k e=>by injection e with e;exact e.symm)) (fun j _ e=>.inl e),fun k e=>by
  rcases e with e | e | e | e | e | e
  ·exact .inl (.inl e)
  ·exact .inl (.inr (.inl e))
  ·exact .inl (.inr (.inr (.inl e)))
  ·exact .inr (ht k e)
  ·exact h.mine k (.inr (.inr (.inr (.inr (.inl e)))))
  ·exact h.mine k (.inr (.inr (.inr (.inr (.inr e)))))⟩
structure MV (w0 W W1:World) (L sb mb rb rp:Nat) (tv kv qv:Value) (c:Cf) (l:Lg) (n:Nat) (l1:Lg) (t1 k1 q1:Value):Prop where
 at_:LegAt w0 W1 L sb mb rb rp t1 k1 q1 c l1
 goes:OGoes W W1 L rb rp tv kv qv t1 k1 q1
 num:n=l1.ctl.length+l1.rest.length
 eq:mv c n l1=mv c (l.ctl.length+l.rest.length) l
 ctl:∀ f∈l1.ctl,IsC f
 rest:∀ f∈l1.rest,IsR c.frm f
 small:Small 256 l1.tail
 len:l1.tail.length≤100000
 few:n≤1000000
theorem take_min' (l:List Nat) (n m:Nat) (h:min l.length n=m):l.take n=l.take m∧l.drop n=l.drop m:=by
 subst h
 by_cases hl:l.length≤n
 ·rw [Nat.min_eq_left hl,List.take_of_length_le hl,List.drop_of_length_le hl,List.take_length,List.drop_length];exact ⟨rfl,rfl⟩
 ·rw [Nat.min_eq_right (by omega)];exact ⟨rfl,rfl⟩
theorem last_callS {P:Program} {md:Region.Mode} {ops:Array Oper} {Q:Exit→Act→World→Prop} {S:World→Prop} {D:Nat→Bool} {fuel:Nat} {listed:Array Bool} {a:Act} {w:World} {d:Option Tmp} {op:Op} {g:Option (Nat×Bool)} (i:Nat) (f:FuncId) (args:Array Value) (hi:opIsG ops i d op g) (hw:lets ops a g=true)
 (hr:Region.ready md ops listed=[i]) (hy:∀ o:Oper,o.op=op→(execOp a.eval o).run P w=.ok (.enter f args) w)
 (h:Calls P f args w fun e w'=>∃ v,e=.returned v∧S w'∧wpAnyL P md ops Q S D fuel (listed.setIfInBounds i true) (a.put d v) w'):wpAnyL P md ops Q S D (fuel+1) listed a w:=by
 obtain ⟨o,ho,hd,hop,hg⟩:=op_ofG hi
 refine last_all hr (by simp) (fun k hk=>?_)
 rw [List.mem_singleton] at hk
 subst hk
 refine wpOp_step ho (fun K hK=>?_)
 rw [if_pos (wanted_of hg hw)]
 unfold Oper.wp
 rw [hy o hop,Oper.upon_enter]
 refine h.mono ?_
 rintro e w' ⟨v,rfl,hS',h'⟩
 rw [hd]
 exact hK _ _ ⟨fun _=>hS',h'⟩
set_option maxHeartbeats 16000000 in
theorem omove_any (h:LegAt w0 W L sb mb rb rp tv kv qv c l) (hg:Mas.Globs w0) (hi:Inv c l) (ht:l.tail.length≤100000) (hsm:Small 256 l.tail) (hf:c.frm≤65536) (hn:l.ctl.length+l.rest.length≤1000000) :
 Calls Tryz.prog 90 #[.pointer (some ⟨L,4,none⟩)] W fun e w'=>∃ tv' kv' qv',e=.returned (.tuple #[])∧Sl (LegAt w0 w' L sb mb rb rp tv' kv' qv' c (LegPlain.move c l))∧Sl (OGoes W w' L rb rp tv kv qv tv' kv' qv'):=by
 have HM0:Sl (MV w0 W W L sb mb rb rp tv kv qv c l (l.ctl.length+l.rest.length) l tv kv qv):=⟨⟨h,OGoes.below L rb rp tv kv qv (Below.refl _ _),rfl,rfl,hi.ctl,hi.rest,hsm,ht,hn⟩⟩
 have HF:=Sl.mk hf
 have HGL:=Sl.mk hg
 show Calls Tryz.prog 90 #[.pointer (some ⟨L,4,none⟩)] W fun e w'=>∃ tv' kv' qv',e=.returned (.tuple #[])∧Sl (LegAt w0 w' L sb mb rb rp tv' kv' qv' c (mv c (l.ctl.length+l.rest.length) l))∧Sl (OGoes W w' L rb rp tv kv qv tv' kv' qv')
 clear h hi ht hsm hf hn hg
 go_enter Tryz.func90,Tryz.ntmps90
 go_wp2
 go_loopw [] (fun wr=>∃ (n:Nat) (l1:Lg) (t1 k1 q1:Value),Sl (MV w0 W wr L sb mb rb rp tv kv qv c l n l1 t1 k1 q1)) (fun wr=>meas L wr)
 case atStart=>exact ⟨_,_,_,_,_,HM0⟩
 case round =>
  obtain ⟨n,l1,t1,k1,q1,HM⟩:=hrel
  clear HM0
  obtain ⟨atl,ct,rfl,hct⟩:=HM.out.at_.T.slice
  have HMS:=Sl.mk HM.out.at_.meas
  obtain ⟨tl,htl⟩:∃ k,l1.tail.length=k:=⟨_,rfl⟩
  rw [htl] at HM hct
  have HTL:=Sl.mk htl
  have htl5:tl≤100000:=by have:=HM.out.len;omega
  obtain ⟨mm,hmm⟩:∃ k,min tl (c.out-l1.ring.length)=k:=⟨_,rfl⟩
  obtain ⟨htk,hdp⟩:=take_min' l1.tail (c.out-l1.ring.length) mm (by rw [htl];exact hmm)
  have HTK:=Sl.mk htk
  have HDP:=Sl.mk hdp
  have hmt:mm≤tl:=by omega
  have PT:Sl (∀ V,Below wr.heap.size wr V→Calls Tryz.prog 118 #[.pointer (some ⟨rb,0,none⟩),.slice atl tl ct] V fun e w'=>e=.returned (.int .i64 (mm:Int))∧Sl (Rng.RingH w' rb rp c.out (l1.ring++l1.tail.take mm))∧Sl (Two V w' rb rp)):=⟨fun V k =>
   (Rng.put_ex w0 V rb rp c.out mm l1.ring l1.tail _ (HM.out.at_.low.trans (k.mono HM.out.at_.low.size)) HM.out.at_.B.2.1 HM.out.at_.B.2.2 (HM.out.at_.below k).R ((HM.out.at_.below k).T.srcN fun j e=>(HM.out.at_.tn j e).2.2.1) HM.out.small HM.out.len (by rw [HTL.out];exact hmm)).mono fun _ _ ⟨e1,e2,e3,_⟩=>⟨e1,e2,e3⟩⟩
  obtain ⟨-,-,-,-,c4,c5,-⟩:=HM.out.at_.cells
  have hlr:=HM.out.at_.lt
  obtain ⟨kn1,kn2,-⟩:=HM.out.at_.kinds
  clear htl htk hdp hmm
  go_upto_region 0 with fail
  obtain ⟨Rw,hRw⟩:∃ R,wr.drew=R:=⟨_,rfl⟩
  have HBR:Below wr.heap.size wr Rw:=by rw [← hRw];exact (Below.refl _ _).drew
  refine wp_region_noPanic ?_
  refine last_begin (S:=fun V=>V.cell? ⟨L,4,none⟩=some (.pointer (some ⟨rb,0,none⟩))∧V.cell? ⟨L,5,none⟩=some (.slice atl tl ct)) (D:=fun k=>k==17) (by kernel_rfl) ?_
  change wpAnyL _ _ _ _ _ _ _ _ _ wr.drew
  rw [hRw]
  clear hRw
  have HS0:Rw.cell? ⟨L,4,none⟩=some (.pointer (some ⟨rb,0,none⟩))∧Rw.cell? ⟨L,5,none⟩=some (.slice atl tl ct):=⟨(HBR.cell (p:=⟨L,4,none⟩) hlr).trans c4,(HBR.cell (p:=⟨L,5,none⟩) hlr).trans c5⟩
  refine last_pure (d:=some 4) (op:=.move (Operand.tmp 0)) (g:=none) 0 ?v0 rfl (by kernel_rfl) (by kernel_rfl) (by kernel_rfl) (by kernel_rfl) rfl ?y0 HS0 ?_
  case y0=>intro o' ho W;simp only [execOp,ho];go_simp;try rfl
  simp only [Act.put,List.setIfInBounds_toArray,List.set_cons_zero,List.set_cons_succ]
  refine last_pure (d:=some 5) (op:=.move (Operand.tmp 0)) (g:=none) 1 ?v1 rfl (by kernel_rfl) (by kernel_rfl) (by kernel_rfl) (by kernel_rfl) rfl ?y1 HS0 ?_
  case y1=>intro o' ho W;simp only [execOp,ho];go_simp;try rfl
  simp only [Act.put,List.setIfInBounds_toArray,List.set_cons_zero,List.set_cons_succ]
  refine last_pure (d:=some 6) (op:=.nilCheck (Operand.tmp 5)) (g:=none) 2 ?v2 rfl (by kernel_rfl) (by kernel_rfl) (by kernel_rfl) (by kernel_rfl) rfl ?y2 HS0 ?_
  case y2=>intro o' ho W;simp only [execOp,ho];go_simp;try rfl
  simp only [Act.put,List.setIfInBounds_toArray,List.set_cons_zero,List.set_cons_succ]
  refine last_pure (d:=some 7) (op:=.fieldAddr 76 (Operand.tmp 6) 1) (g:=none) 3 ?v3 rfl (by kernel_rfl) (by kernel_rfl) (by kernel_rfl) (by kernel_rfl) rfl ?y3 HS0 ?_
  case y3=>intro o' ho W;simp only [execOp,ho];go_simp;try rfl
  simp only [Act.put,List.setIfInBounds_toArray,List.set_cons_zero,List.set_cons_succ]
  refine last_take (d:=some 8) (op:=.load 49 (Operand.tmp 7)) (g:=none) 4 ?v4 rfl (by kernel_rfl) (by kernel_rfl) (by kernel_rfl) (by kernel_rfl) (by kernel_rfl) ?y4 HS0 ?_
  case y4=>intro o' ho W hS;have d5:=hS.2;simp only [execOp,ho];go_simp;try rfl
  simp only [Act.put,List.setIfInBounds_toArray,List.set_cons_zero,List.set_cons_succ]
  refine last_pure (d:=some 9) (op:=.move (Operand.tmp 0)) (g:=none) 5 ?v5 rfl (by kernel_rfl) (by kernel_rfl) (by kernel_rfl) (by kernel_rfl) rfl ?y5 HS0 ?_
  case y5=>intro o' ho W;simp only [execOp,ho];go_simp;try rfl
  simp only [Act.put,List.setIfInBounds_toArray,List.set_cons_zero,List.set_cons_succ]
  refine last_pure (d:=some 10) (op:=.nilCheck (Operand.tmp 9)) (g:=none) 6 ?v6 rfl (by kernel_rfl) (by kernel_rfl) (by kernel_rfl) (by kernel_rfl) rfl ?y6 HS0 ?_
  case y6=>intro o' ho W;simp only [execOp,ho];go_simp;try rfl
  simp only [Act.put,List.setIfInBounds_toArray,List.set_cons_zero,List.set_cons_succ]
  refine last_pure (d:=some 11) (op:=.fieldAddr 76 (Operand.tmp 10) 0) (g:=none) 7 ?v7 rfl (by kernel_rfl) (by kernel_rfl) (by kernel_rfl) (by kernel_rfl) rfl ?y7 HS0 ?_
  case y7=>intro o' ho W;simp only [execOp,ho];go_simp;try rfl
  simp only [Act.put,List.setIfInBounds_toArray,List.set_cons_zero,List.set_cons_succ]
  refine last_take (d:=some 12) (op:=.load 74 (Operand.tmp 11)) (g:=none) 8 ?v8 rfl (by kernel_rfl) (by kernel_rfl) (by kernel_rfl) (by kernel_rfl) (by kernel_rfl) ?y8 HS0 ?_
  case y8=>intro o' ho W hS;have d4:=hS.1;simp only [execOp,ho];go_simp;try rfl
  simp only [Act.put,List.setIfInBounds_toArray,List.set_cons_zero,List.set_cons_succ]
  refine last_pure (d:=some 13) (op:=.move (Operand.tmp 0)) (g:=none) 9 ?v9 rfl (by kernel_rfl) (by kernel_rfl) (by kernel_rfl) (by kernel_rfl) rfl ?y9 HS0 ?_
  case y9=>intro o' ho W;simp only [execOp,ho];go_simp;try rfl
  simp only [Act.put,List.setIfInBounds_toArray,List.set_cons_zero,List.set_cons_succ]
  refine last_pure (d:=some 14) (op:=.nilCheck (Operand.tmp 13)) (g:=none) 10 ?v10 rfl (by kernel_rfl) (by kernel_rfl) (by kernel_rfl) (by kernel_rfl) rfl ?y10 HS0 ?_
  case y10=>intro o' ho W;simp only [execOp,ho];go_simp;try rfl
  simp only [Act.put,List.setIfInBounds_toArray,List.set_cons_zero,List.set_cons_succ]
  refine last_pure (d:=some 15) (op:=.fieldAddr 76 (Operand.tmp 14) 1) (g:=none) 11 ?v11 rfl (by kernel_rfl) (by kernel_rfl) (by kernel_rfl) (by kernel_rfl) rfl ?y11 HS0 ?_
  case y11=>intro o' ho W;simp only [execOp,ho];go_simp;try rfl
  simp only [Act.put,List.setIfInBounds_toArray,List.set_cons_zero,List.set_cons_succ]
  refine last_take (d:=some 16) (op:=.load 49 (Operand.tmp 15)) (g:=none) 12 ?v12 rfl (by kernel_rfl) (by kernel_rfl) (by kernel_rfl) (by kernel_rfl) (by kernel_rfl) ?y12 HS0 ?_
  case y12=>intro o' ho W hS;have d5:=hS.2;simp only [execOp,ho];go_simp;try rfl
  simp only [Act.put,List.setIfInBounds_toArray,List.set_cons_zero,List.set_cons_succ]
  refine last_callS (d:=some 17) (op:=.call {callee:=Callee.value (Operand.func 118),args:=#[Operand.tmp 12,Operand.tmp 16],argTypes:=#[74,49]}) (g:=none) 13 118 #[.pointer (some ⟨rb,0,none⟩),.slice atl tl ct] rfl (by kernel_rfl) (by kernel_rfl) ?y13 ?_
  case y13=>intro o' ho;simp only [execOp,ho];go_simp;try rfl
  refine (PT.out Rw HBR).mono ?_
  rintro e w2 ⟨rfl,HR2,HT2⟩
  have HX2:w2.heap[L]? = Rw.heap[L]?:=HT2.out.block L (Nat.lt_of_lt_of_le hlr HBR.size) kn1 kn2
  have HS1:w2.cell? ⟨L,4,none⟩=some (.pointer (some ⟨rb,0,none⟩))∧w2.cell? ⟨L,5,none⟩=some (.slice atl tl ct):=⟨by rw [World.cell?_of_block (w:=Rw) HX2];exact HS0.1,by rw [World.cell?_of_block (w:=Rw) HX2];exact HS0.2⟩
  refine ⟨_,rfl,HS1,?_⟩
  simp only [Act.put,List.setIfInBounds_toArray,List.set_cons_zero,List.set_cons_succ]
  refine last_pure (d:=some 18) (op:=.slice 49 (Operand.tmp 8) (some (Operand.tmp 17)) none none) (g:=none) 14 (.slice (fromA atl mm ct) (tl-mm) (ct-mm)) rfl (by kernel_rfl) (by kernel_rfl) (by kernel_rfl) (by kernel_rfl) rfl ?y14 HS1 ?_
  case y14=>intro o' ho W;exact Stm.slice_from ho rfl rfl hmt
  simp only [Act.put,List.setIfInBounds_toArray,List.set_cons_zero,List.set_cons_succ]
  refine last_pure (d:=some 19) (op:=.nilCheck (Operand.tmp 4)) (g:=none) 15 ?v15 rfl (by kernel_rfl) (by kernel_rfl) (by kernel_rfl) (by kernel_rfl) rfl ?y15 HS1 ?_
  case y15=>intro o' ho W;simp only [execOp,ho];go_simp;try rfl
  simp only [Act.put,List.setIfInBounds_toArray,List.set_cons_zero,List.set_cons_succ]
  refine last_pure (d:=some 20) (op:=.fieldAddr 76 (Operand.tmp 19) 1) (g:=none) 16 ?v16 rfl (by kernel_rfl) (by kernel_rfl) (by kernel_rfl) (by kernel_rfl) rfl ?y16 HS1 ?_
  case y16=>intro o' ho W;simp only [execOp,ho];go_simp;try rfl
  simp only [Act.put,List.setIfInBounds_toArray,List.set_cons_zero,List.set_cons_succ]
  obtain ⟨HL2,HG2⟩:=(HM.out.at_.below HBR).ring (m:={l1 with ring:=l1.ring++l1.tail.take mm}) HT2.out HR2.out rfl rfl rfl rfl rfl rfl
  obtain ⟨hT3,hb3⟩:=HL2.T.from mm hmt
  have HL3:=HL2.tail _ _ hT3 (fun k e=>HL2.tn k (hb3 k e))
  have f5:w2.frozen? ⟨L,5,none⟩=false:=HL2.froz 5
  have s5:w2.cell? ⟨L,5,none⟩=some (.slice atl tl ct):=HS1.2
  have HG3:=Sl.mk (((HM.out.goes.trans (OGoes.below L rb rp _ _ _ HBR)).trans HG2).trans (goes_set w2 L rb rp _ _ _ 5 (.slice (fromA atl mm ct) (tl-mm) (ct-mm)) (tv':=.slice (fromA atl mm ct) (tl-mm) (ct-mm)) (fun k e=>.inl (hb3 k e)) (fun k e=>.inl e) (fun k e=>.inl e)))
  obtain ⟨rr,hrr⟩:∃ k,tl-mm=k:=⟨_,rfl⟩
  rw [hrr] at HL3 HG3
  rw [hrr]
  obtain ⟨w3,hw3⟩:∃ V,w2.setCell ⟨L,5,none⟩ (.slice (fromA atl mm ct) rr (ct-mm))=V:=⟨_,rfl⟩
  refine last_store (d:=none) (op:=.store 49 (Operand.tmp 20) (Operand.tmp 18)) (g:=none) (t:=0) 17 (w2.setCell ⟨L,5,none⟩ (.slice (fromA atl mm ct) rr (ct-mm))) rfl (by kernel_rfl) (by kernel_rfl) ?y17 (by kernel_rfl) ?_
  case y17=>intro o' ho ht;simp only [execOp,ho];go_simp;try rfl
  simp only [Act.put]
  rw [hw3]
  rw [hw3] at HL3 HG3
  refine last_done (by kernel_rfl) ?_ _
  refine NoPanic.normal ?_
  have HLF:Sl (LegAt w0 w3 L sb mb rb rp (.slice (fromA atl mm ct) rr (ct-mm)) k1 q1 c (fill c l1)):=⟨by
   unfold LegPlain.fill
   rw [HTK.out,HDP.out]
   exact HL3⟩
  have HRR:Sl ((fill c l1).tail.length=rr):=⟨by
   show (l1.tail.drop (c.out-l1.ring.length)).length=rr
   rw [HDP.out,List.length_drop,HTL.out];exact hrr⟩
  clear HL3 HT2 HR2 HX2 HS1 HS0 HBR PT HL2 HG2 hT3 hb3 f5 s5 c4 c5 hrr HTK HDP hw3 hmt htl5 HTL
  obtain ⟨-,-,-,-,-,d5,-⟩:=HLF.out.cells
  by_cases hr0:0<rr
  ·have hq:((rr:Int)>0)=True:=eq_true (by omega)
   have hqn:(0<rr)=True:=eq_true hr0
   have HEQ:Sl (mv c (l.ctl.length+l.rest.length) l=fill c l1):=⟨by
    rw [← HM.out.eq]
    exact mv_full (fun e=>by have:=HRR.out;rw [e,List.length_nil] at this;omega)⟩
   clear HM hr0
   go_wp2
   (try simp only [Exit.inBlock,Exit.then])
   refine bodyPost_ret (results_none rfl _ _ _) rfl ?_
   rw [HEQ.out]
   exact ⟨_,_,_,rfl,HLF,HG3⟩
  ·obtain rfl:rr=0:=by omega
   have hq:(((0:Nat):Int)>0)=False:=eq_false (by omega)
   have HT0:Sl ((fill c l1).tail=[]):=⟨List.eq_nil_of_length_eq_zero HRR.out⟩
   have hcs:l1.ctl.length≤1000000∧l1.rest.length≤1000000:=by have:=HM.out.few;have:=HM.out.num;omega
   cases hc:l1.ctl with
   | cons f cs =>
     have HFI:=HM.out.ctl f (by rw [hc];exact List.mem_cons_self)
     obtain ⟨fin,k,m,ka,kb,kc,kd,s,rfl,hk4,hfm,hsz⟩:=wait_parts (f:=f) (.inl HFI)
     have HFS:=Sl.mk HFI
     have NX:=onext_ctl HLF.out fin (k:Int) m ka kb kc kd s cs hc (by rw [hc] at hcs;rw [List.length_cons] at hcs;omega)
     clear HFI
     go_upto_region 2 with fail
     go_wp2_with fail
     refine NX.mono ?_
     rintro e w4 ⟨u,rfl,HL4,HG4⟩
     clear NX d5
     obtain ⟨w5,hw5,HB5,HF5⟩:=Cut.laid_fv w4 #[.bool fin,.int .i64 (k:Int),.bool m,.int .u8 ((ka:Nat):Int),.int .u8 ((kb:Nat):Int),.int .u8 ((kc:Nat):Int),.int .u8 ((kd:Nat):Int),.string s]
     have HIB:(Tryz.prog.info? 61).map (·.size)=some (#[.bool fin,.int .i64 (k:Int),.bool m,.int .u8 ((ka:Nat):Int),.int .u8 ((kb:Nat):Int),.int .u8 ((kc:Nat):Int),.int .u8 ((kd:Nat):Int),.string s]:Array Value).size:=Fra.box_size _ _ _ _ _ _ _ _
     go_upto_region 3 with (refine wpList_store_row rfl 61 (.tmp 2) (.tmp 30) rfl w4.heap.size #[.bool fin,.int .i64 (k:Int),.bool m,.int .u8 ((ka:Nat):Int),.int .u8 ((kb:Nat):Int),.int .u8 ((kc:Nat):Int),.int .u8 ((kd:Nat):Int),.string s] rfl rfl 61 #[.bool false,.int .i64 0,.bool false,.int .u8 0,.int .u8 0,.int .u8 0,.int .u8 0,.string {data:=#[]}] (Fra.bx_new w4 _) HIB rfl (Fra.fr_all _ _ _ _ _ _ _ _) ?_)
     (try rw [hw5])
     clear hw5 HIB
     have HL5:=Sl.mk (HL4.out.below HB5.out)
     have HG5:=Sl.mk ((HG3.out.trans HG4.out).trans (OGoes.below L rb rp _ _ _ HB5.out))
     obtain ⟨b0,b1,b2,b3,b4,b5,b6,b7⟩:=Fra.bx_cells HF5.out
     have OB:=obytes_any HL5.out HGL.out fin k m ka kb kc kd s hk4 hfm hsz
     clear HL4 HG4 HB5 HF5 HG3 hk4 hfm hsz
     go_wp2_with fail
     refine OB.mono ?_
     rintro e w6 ⟨g,n6,cap6,rfl,hge,HT6,HL6,HG6⟩
     clear OB b0 b1 b2 b3 b4 b5 b6 b7
     have HU6:∀ j,tblk (.slice (some ⟨g,0,none⟩) n6 cap6)=some j→j=g:=fun j e=>by
      rw [tblk_some] at e
      split at e
      ·cases e
      ·injection e with e;exact e.symm
     have HOW5:∀ j,Own L rb rp (.slice (fromA atl mm ct) 0 (ct-mm)) u q1 j→j<w5.heap.size:=fun j e=>(HL5.out.own e).2
     have HL7:=HL6.out.tail _ _ HT6.out (fun j e=>by
      have hj:=HU6 j e
      have a1:=HOW5 L (.inl rfl)
      have a2:=HOW5 rb (.inr (.inl rfl))
      have a3:=HOW5 rp (.inr (.inr (.inl rfl)))
      refine ⟨by omega,by omega,by omega,fun e2=>?_,fun e2=>?_⟩
      ·have:=HOW5 j (.inr (.inr (.inr (.inr (.inl e2)))));omega
      ·have:=HOW5 j (.inr (.inr (.inr (.inr (.inr e2)))));omega)
     have f5:=HL6.out.froz 5
     obtain ⟨-,-,-,-,-,s5,-⟩:=HL6.out.cells
     have HG7:=Sl.mk (HG5.out.trans (HG6.out.retail 5 (.slice (some ⟨g,0,none⟩) n6 cap6) (t2:=.slice (some ⟨g,0,none⟩) n6 cap6) (fun j e=>by have:=HU6 j e;omega)))
     obtain ⟨w7,hw7⟩:∃ V,w6.setCell ⟨L,5,none⟩ (.slice (some ⟨g,0,none⟩) n6 cap6)=V:=⟨_,rfl⟩
     rw [hw7] at HL7 HG7
     obtain ⟨np,hnp⟩:∃ np,n=np+1:=⟨n-1,by have:=HM.out.num;rw [hc,List.length_cons] at this;omega⟩
     subst hnp
     have HNUM:=HM.out.num
     have HFEW:=HM.out.few
     rw [hc,List.length_cons] at HNUM
     have HIO:=LegPlain.IsC.out (c:=c) HFS.out (draws c (fill c l1).draw)
     have hme:=HL7.meas
     have HMN:Sl (MV w0 W w7 L sb mb rb rp tv kv qv c l np (put c {fill c l1 with ctl:=cs} (⟨fin,(k:Int),m,[ka,kb,kc,kd],bytes s⟩:Fr)) (.slice (some ⟨g,0,none⟩) n6 cap6) u q1):=⟨{
      at_:=HL7.inner rfl rfl rfl rfl rfl rfl rfl
      goes:=HG7.out
      num:=by show np=cs.length+l1.rest.length;omega
      eq:=by rw [← HM.out.eq];exact (mv_ctl HT0.out hc).symm
      ctl:=fun x hx=>HM.out.ctl x (by rw [hc];exact List.mem_cons_of_mem _ hx)
      rest:=HM.out.rest
      small:=HIO.small' HF.out
      len:=by
       have h1:=LegPlain.out_len HIO HF.out
       have h2:=HIO.len
       have h3:=HF.out
       show (text (dress c (draws c (fill c l1).draw) (⟨fin,(k:Int),m,[ka,kb,kc,kd],bytes s⟩:Fr))).length≤100000
       omega
      few:=by omega}⟩
     have hms2:meas L w7<meas L wr:=by
      rw [hme,HMS.out]
      show cs.length+l1.rest.length<_;rw [hc,List.length_cons];omega
     clear HL6 HT6 HG6 HG5 HOW5 hme HIO HL7
     go_wp2
     (try rw [hw7])
     exact ⟨⟨np,_,_,_,_,HMN⟩,hms2⟩
   | nil =>
     cases hcr:l1.rest with
     | cons f cs =>
       have HFI:=HM.out.rest f (by rw [hcr];exact List.mem_cons_self)
       obtain ⟨fin,k,m,ka,kb,kc,kd,s,rfl,hk4,hfm,hsz⟩:=wait_parts (f:=f) (.inr ⟨c.frm,HF.out,HFI⟩)
       have HFS:=Sl.mk HFI
       have NX:=onext_rest HLF.out fin (k:Int) m ka kb kc kd s cs hc hcr (by rw [hcr] at hcs;rw [List.length_cons] at hcs;omega)
       clear HFI
       go_upto_region 2 with fail
       go_wp2_with fail
       refine NX.mono ?_
       rintro e w4 ⟨u,rfl,HL4,HG4⟩
       clear NX d5
       obtain ⟨w5,hw5,HB5,HF5⟩:=Cut.laid_fv w4 #[.bool fin,.int .i64 (k:Int),.bool m,.int .u8 ((ka:Nat):Int),.int .u8 ((kb:Nat):Int),.int .u8 ((kc:Nat):Int),.int .u8 ((kd:Nat):Int),.string s]
       have HIB:(Tryz.prog.info? 61).map (·.size)=some (#[.bool fin,.int .i64 (k:Int),.bool m,.int .u8 ((ka:Nat):Int),.int .u8 ((kb:Nat):Int),.int .u8 ((kc:Nat):Int),.int .u8 ((kd:Nat):Int),.string s]:Array Value).size:=Fra.box_size _ _ _ _ _ _ _ _
       go_upto_region 3 with (refine wpList_store_row rfl 61 (.tmp 2) (.tmp 30) rfl w4.heap.size #[.bool fin,.int .i64 (k:Int),.bool m,.int .u8 ((ka:Nat):Int),.int .u8 ((kb:Nat):Int),.int .u8 ((kc:Nat):Int),.int .u8 ((kd:Nat):Int),.string s] rfl rfl 61 #[.bool false,.int .i64 0,.bool false,.int .u8 0,.int .u8 0,.int .u8 0,.int .u8 0,.string {data:=#[]}] (Fra.bx_new w4 _) HIB rfl (Fra.fr_all _ _ _ _ _ _ _ _) ?_)
       (try rw [hw5])
       clear hw5 HIB
       have HL5:=Sl.mk (HL4.out.below HB5.out)
       have HG5:=Sl.mk ((HG3.out.trans HG4.out).trans (OGoes.below L rb rp _ _ _ HB5.out))
       obtain ⟨b0,b1,b2,b3,b4,b5,b6,b7⟩:=Fra.bx_cells HF5.out
       have OB:=obytes_any HL5.out HGL.out fin k m ka kb kc kd s hk4 hfm hsz
       clear HL4 HG4 HB5 HF5 HG3 hk4 hfm hsz
       go_wp2_with fail
       refine OB.mono ?_
       rintro e w6 ⟨g,n6,cap6,rfl,hge,HT6,HL6,HG6⟩
       clear OB b0 b1 b2 b3 b4 b5 b6 b7
       have HU6:∀ j,tblk (.slice (some ⟨g,0,none⟩) n6 cap6)=some j→j=g:=fun j e=>by
        rw [tblk_some] at e
        split at e
        ·cases e
        ·injection e with e;exact e.symm
       have HOW5:∀ j,Own L rb rp (.slice (fromA atl mm ct) 0 (ct-mm)) k1 u j→j<w5.heap.size:=fun j e=>(HL5.out.own e).2
       have HL7:=HL6.out.tail _ _ HT6.out (fun j e=>by
        have hj:=HU6 j e
        have a1:=HOW5 L (.inl rfl)
        have a2:=HOW5 rb (.inr (.inl rfl))
        have a3:=HOW5 rp (.inr (.inr (.inl rfl)))
        refine ⟨by omega,by omega,by omega,fun e2=>?_,fun e2=>?_⟩
        ·have:=HOW5 j (.inr (.inr (.inr (.inr (.inl e2)))));omega
        ·have:=HOW5 j (.inr (.inr (.inr (.inr (.inr e2)))));omega)
       have f5:=HL6.out.froz 5
       obtain ⟨-,-,-,-,-,s5,-⟩:=HL6.out.cells
       have HG7:=Sl.mk (HG5.out.trans (HG6.out.retail 5 (.slice (some ⟨g,0,none⟩) n6 cap6) (t2:=.slice (some ⟨g,0,none⟩) n6 cap6) (fun j e=>by have:=HU6 j e;omega)))
       obtain ⟨w7,hw7⟩:∃ V,w6.setCell ⟨L,5,none⟩ (.slice (some ⟨g,0,none⟩) n6 cap6)=V:=⟨_,rfl⟩
       rw [hw7] at HL7 HG7
       obtain ⟨np,hnp⟩:∃ np,n=np+1:=⟨n-1,by have:=HM.out.num;rw [hcr,List.length_cons] at this;omega⟩
       subst hnp
       have HNUM:=HM.out.num
       have HFEW:=HM.out.few
       rw [hc,hcr,List.length_cons,List.length_nil] at HNUM
       have HIO:=LegPlain.IsR.out (c:=c) HFS.out (draws c (fill c l1).draw)
       have hme:=HL7.meas
       have HMN:Sl (MV w0 W w7 L sb mb rb rp tv kv qv c l np (put c {fill c l1 with rest:=cs} (⟨fin,(k:Int),m,[ka,kb,kc,kd],bytes s⟩:Fr)) (.slice (some ⟨g,0,none⟩) n6 cap6) k1 u):=⟨{
        at_:=HL7.inner rfl rfl rfl rfl rfl rfl rfl
        goes:=HG7.out
        num:=by show np=l1.ctl.length+cs.length;rw [hc,List.length_nil];omega
        eq:=by rw [← HM.out.eq];exact (mv_rest HT0.out hc hcr).symm
        ctl:=HM.out.ctl
        rest:=fun x hx=>HM.out.rest x (by rw [hcr];exact List.mem_cons_of_mem _ hx)
        small:=HIO.small' HF.out
        len:=by
         have h1:=LegPlain.out_len HIO HF.out
         have h2:=HIO.len
         have h3:=HF.out
         show (text (dress c (draws c (fill c l1).draw) (⟨fin,(k:Int),m,[ka,kb,kc,kd],bytes s⟩:Fr))).length≤100000
         omega
        few:=by omega}⟩
       have hms2:meas L w7<meas L wr:=by
        rw [hme,HMS.out]
        show l1.ctl.length+cs.length<_;rw [hcr,List.length_cons];omega
       clear HL6 HT6 HG6 HG5 HOW5 hme HIO HL7
       go_wp2
       (try rw [hw7])
       exact ⟨⟨np,_,_,_,_,HMN⟩,hms2⟩
     | nil =>
       have NX:=onext_none HLF.out hc hcr
       have HEQ:Sl (mv c (l.ctl.length+l.rest.length) l=fill c l1):=⟨by
        rw [← HM.out.eq,HM.out.num,hc,hcr];rfl⟩
       clear HM
       go_upto_region 2 with fail
       go_wp2_with fail
       refine NX.mono ?_
       rintro e w4 ⟨rfl,HB4⟩
       clear NX d5
       obtain ⟨w5,hw5,HB5,HF5⟩:=Cut.laid_fv w4 #[.bool false,.int .i64 0,.bool false,.int .u8 0,.int .u8 0,.int .u8 0,.int .u8 0,.string {data:=#[]}]
       have HIB:(Tryz.prog.info? 61).map (·.size)=some (#[.bool false,.int .i64 0,.bool false,.int .u8 0,.int .u8 0,.int .u8 0,.int .u8 0,.string {data:=#[]}]:Array Value).size:=by kernel_rfl
       have hallZ:(#[.bool false,.int .i64 0,.bool false,.int .u8 0,.int .u8 0,.int .u8 0,.int .u8 0,.string {data:=#[]}]:Array Value).all (·.oneCell')=true:=by simp [Value.oneCell']
       go_upto_region 3 with (refine wpList_store_row rfl 61 (.tmp 2) (.tmp 30) rfl w4.heap.size #[.bool false,.int .i64 0,.bool false,.int .u8 0,.int .u8 0,.int .u8 0,.int .u8 0,.string {data:=#[]}] rfl rfl 61 #[.bool false,.int .i64 0,.bool false,.int .u8 0,.int .u8 0,.int .u8 0,.int .u8 0,.string {data:=#[]}] (Fra.bx_new w4 _) HIB rfl hallZ ?_)
       (try rw [hw5])
       clear hw5 HIB hallZ
       have HL5:=(HLF.out.below HB4.out).below HB5.out
       have f5:=HL5.froz 5
       obtain ⟨-,-,-,-,-,s5,-⟩:=HL5.cells
       have HL6:=Sl.mk ((HL5.tail (.slice none 0 0) [] (tail_nil _ _) (fun k e=>by cases e)).inner (m:=fill c l1) rfl HT0.out rfl rfl rfl rfl rfl)
       have HG6:=Sl.mk (((HG3.out.trans (OGoes.below L rb rp _ _ _ HB4.out)).trans (OGoes.below L rb rp _ _ _ HB5.out)).retail 5 (.slice none 0 0) (t2:=.slice none 0 0) (fun k e=>by cases e))
       obtain ⟨w6,hw6⟩:∃ V,w5.setCell ⟨L,5,none⟩ (.slice none 0 0)=V:=⟨_,rfl⟩
       rw [hw6] at HL6 HG6
       clear HL5 HB4 HB5 HG3 HLF HF5
       go_wp2
       (try rw [hw6])
       (try simp only [Exit.inBlock,Exit.then])
       refine bodyPost_ret (results_none rfl _ _ _) rfl ?_
       rw [HEQ.out]
       exact ⟨_,_,_,rfl,HL6,HG6⟩
end
end Go.Proofs.YtlahonjmfecikaaGreatDoor.Leg
set_option maxRecDepth 100000
namespace Go.Proofs.YtlahonjmfecikaaGreatDoor.Leg
open Go.RowKit Stm
open FramePlain (Fr Fr0)
open LegPlain (Cf Lg)
open Msg (Kept MacS Mine)
open LegPlain (dress draws mv fill put IsC IsR Inv ctlF repl Settled)
open FramePlain (text size chk form zero4)
section
variable {w0 W W':World} {L sb mb rb rp:Nat} {tv kv qv:Value} {c:Cf} {l:Lg}
theorem osend_any {Wa:World} (ha:LegAt w0 Wa L sb mb rb rp tv kv qv c l) (hb:Below Wa.heap.size Wa W) (hg:Mas.Globs w0) {v:Value} {m:Lg} (hv:FRow W w0.heap.size v m.rest) (hfr:∀ k,v.ownBlock=some k→Wa.heap.size≤k) (e1:m.ring=l.ring) (e2:m.tail=l.tail) (e3:m.ctl=l.ctl) (e5:m.draw=l.draw) (e6:m.wrong=l.wrong) (e7:m.sent=l.sent) (hi:Inv c m) (ht:m.tail.length≤100000) (hsm:Small 256 m.tail) (hf:c.frm≤65536) (hn:m.ctl.length+m.rest.length≤1000000) :
 Calls Tryz.prog 56 #[.pointer (some ⟨L,4,none⟩),v] W fun e w'=>∃ tv' kv' qv',e=.returned (.tuple #[])∧Sl (LegAt w0 w' L sb mb rb rp tv' kv' qv' c (LegPlain.move c m))∧Sl (OGoes Wa w' L rb rp tv kv qv tv' kv' qv'):=by
 have h:=ha.below hb
 have HO:∀ j,Own L rb rp tv kv qv j→j<Wa.heap.size:=fun j e=>(ha.own e).2
 have hset:=h.set 7 v (m:=m) (tv':=tv) (kv':=kv) (qv':=v) (by rw [e5,e6,e7];rfl) e1 (by rw [e2];exact h.T) (by rw [e3];exact h.C) hv (by rw [e5];exact h.dr) (fun k e=>by
  obtain ⟨a1,a2,a3,a4,a5⟩:=h.tn k e
  exact ⟨a1,a2,a3,a4,fun e2=>by have:=HO k (.inr (.inr (.inr (.inl e))));have:=hfr k e2;omega⟩) (fun k e e2=>by have:=HO k (.inr (.inr (.inr (.inr (.inl e)))));have:=hfr k e2;omega)
 have hgo:OGoes Wa (W.setCell ⟨L,7,none⟩ v) L rb rp tv kv qv tv kv v:=by
  have k0:=OGoes.below L rb rp tv kv qv hb
  exact ⟨k0.kept.trans (Kept.grown (S:=fun k=>k=L) (grown_setCell W L 7 v) (fun k e=>by injection e with e;exact e.symm)) (fun j _ e=>.inl e),fun k e=>by
   rcases e with e | e | e | e | e | e
   ·exact .inl (.inl e)
   ·exact .inl (.inr (.inl e))
   ·exact .inl (.inr (.inr (.inl e)))
   ·exact .inl (.inr (.inr (.inr (.inl e))))
   ·exact .inl (.inr (.inr (.inr (.inr (.inl e)))))
   ·exact .inr (hfr k e)⟩
 obtain ⟨a,x,rfl⟩:=hv.slice
 obtain ⟨V,hV⟩:∃ V,W.setCell ⟨L,7,none⟩ (.slice a m.rest.length x)=V:=⟨_,rfl⟩
 rw [hV] at hset hgo
 obtain ⟨-,-,-,-,-,-,-,c7,-⟩:=h.cells
 have f7:=h.froz 7
 have T:=omove_any hset hg hi ht hsm hf hn
 have HG:=Sl.mk hgo
 obtain ⟨n,hn2⟩:∃ n,m.rest.length=n:=⟨_,rfl⟩
 rw [hn2] at hV T HG ⊢
 clear ha hb hg h HO hset hgo hv hfr hi ht hsm hf hn hn2
 go_enter Tryz.func56,Tryz.ntmps56
 go_upto_region 1 with fail
 (try rw [hV])
 go_wp2_with fail
 refine T.mono ?_
 rintro e w2 ⟨t2,k2,q2,rfl,HL,HG2⟩
 clear T
 go_wp2
 go_end0
 exact ⟨_,_,_,rfl,HL,⟨HG.out.trans HG2.out⟩⟩
theorem LegAt.addC (h:LegAt w0 W L sb mb rb rp tv kv qv c l) {V:World} {u:Value} {m:Lg} (hg:W.grownBy V kv.ownBlock) (hu:u.ownBlock=kv.ownBlock∨u.ownBlock=some W.heap.size) (hr:FRow V w0.heap.size u m.ctl) (e1:m.ring=l.ring) (e2:m.tail=l.tail) (e4:m.rest=l.rest) (e5:m.draw=l.draw) (e6:m.wrong=l.wrong) (e7:m.sent=l.sent) :
 LegAt w0 (V.setCell ⟨L,6,none⟩ u) L sb mb rb rp tv u qv c m∧OGoes W (V.setCell ⟨L,6,none⟩ u) L rb rp tv kv qv tv u qv:=by
 obtain ⟨n1,n2,n3,n4,n5,n6,n7,n8,n9⟩:=h.kinds
 have hlt:=h.lt
 have hX:V.heap[L]? = W.heap[L]?:=hg.block L hlt (fun e=>n4 e.symm)
 have hk2:=grown_setCell V L 6 u
 have hul:u.ownBlock≠some L:=fun e=>by
  rcases hu with h1 | h1
  ·exact n4 (h1.symm.trans e)
  ·rw [h1] at e;injection e with e;omega
 refine h.step (m:=m) ((Kept.grown (S:=fun j=>j=L∨kv.ownBlock=some j∨qv.ownBlock=some j) hg (fun k e=>.inr (.inl e))).trans (Kept.grown (S:=fun j=>j=L) hk2 (fun k e=>by injection e with e;exact e.symm)) (fun j _ e=>.inl e)) ?_ e1 ?_ ?_ ?_ (by rw [e5];exact h.dr) (fun k e=>.inl e) (fun k e=>?_) (fun k e=>.inl e) (fun k e e2=>absurd (h.T.blk e).2.2 (by omega)) (fun k e hl e2=>?_) (fun k e _ e2=>e2) (fun k e e2=>fun e3=>by have:=h.D.lt e3;omega)
 ·rw [heap_setCell_same _ _ _ _ _ _ (hX.trans h.X),e5,e6,e7];rfl
 ·rw [e2]
  exact h.T.kept fun k e=>by
   obtain ⟨a1,a2,a3,a4,a5⟩:=h.tn k e
   rw [heap_setCell_other _ _ _ _ a1]
   exact hg.block k (h.T.blk e).2.2 (fun e2=>a4 e2.symm)
 ·exact hr.grown hk2 (fun j e e2=>hul (e.trans e2))
 ·rw [e4]
  refine h.D.block fun j e=>?_
  rw [heap_setCell_other _ _ _ _ (fun (e2:j=L)=>n5 (e2 ▸ e))]
  exact hg.block j (h.D.lt e) (fun e2=>h.cn _ e2.symm e)
 ·rcases hu with h1 | h1
  ·exact .inl (h1.symm.trans e)
  ·rw [h1] at e;injection e with e;exact .inr (by omega)
 ·rcases hu with h1 | h1
  ·exact h1.symm.trans e2
  ·rw [h1] at e2;injection e2 with e2;omega
theorem ocontrol_any (h:LegAt w0 W L sb mb rb rp tv kv qv c l) (hg:Mas.Globs w0) (op:Int) (d:ByteArray) {m:Lg} (e1:m.ring=l.ring) (e2:m.tail=l.tail) (e3:m.ctl=l.ctl++[ctlF op (bytes d)]) (e4:m.rest=l.rest) (e5:m.draw=l.draw) (e6:m.wrong=l.wrong) (e7:m.sent=l.sent) (hi:Inv c m) (ht:m.tail.length≤100000) (hsm:Small 256 m.tail) (hf:c.frm≤65536) (hn:m.ctl.length+m.rest.length≤1000000) :
 Calls Tryz.prog 58 #[.pointer (some ⟨L,4,none⟩),.int .i64 op,.string d] W fun e w'=>∃ tv' kv' qv',e=.returned (.tuple #[])∧Sl (LegAt w0 w' L sb mb rb rp tv' kv' qv' c (LegPlain.move c m))∧Sl (OGoes W w' L rb rp tv kv qv tv' kv' qv'):=by
 obtain ⟨-,-,-,-,-,-,c6,-⟩:=h.cells
 obtain ⟨X,hX⟩:∃ V,W.alloc (.cells #[.bool true,.int .i64 op,.bool false,.int .u8 0,.int .u8 0,.int .u8 0,.int .u8 0,.string d] 61)=V:=⟨_,rfl⟩
 have HX:Below W.heap.size W X:=by rw [← hX];exact (Below.refl _ _).alloc (Nat.le_refl _) _
 have hXn:X.heap[W.heap.size]? = some (.cells #[.bool true,.int .i64 op,.bool false,.int .u8 0,.int .u8 0,.int .u8 0,.int .u8 0,.string d] 61 (0,0)):=by rw [← hX];exact alloc_new _ _ _ rfl
 have hL:=h.below HX
 have hlen:l.ctl.length+1≤1000000:=by rw [e3,List.length_append,List.length_singleton] at hn;omega
 obtain ⟨v1,w1,hap,hr1,hg1,hb1⟩:=hL.C.add (frs_one (f:=ctlF op (bytes d)) hXn (by simp [cv,ctlF,strOf_bytes,zero4])) hlen hL.low.size
 rw [← e3] at hr1
 obtain ⟨hL2,hG2⟩:=hL.addC hg1 hb1 hr1 e1 e2 e4 e5 e6 e7
 have f6:w1.frozen? ⟨L,6,none⟩=false:=by rw [World.frozen?_of_block (w:=X) (hg1.block L hL.lt (fun e=>hL.kinds.2.2.2.1 e.symm))];exact hL.froz 6
 have s6:w1.cell? ⟨L,6,none⟩=some kv:=by rw [World.cell?_of_block (w:=X) (hg1.block L hL.lt (fun e=>hL.kinds.2.2.2.1 e.symm))];exact hL.cells.2.2.2.2.2.2.1
 obtain ⟨av,nv,cw,rfl⟩:∃ a n c,v1=.slice a n c:=by obtain ⟨a,c,h⟩:=hr1.slice;exact ⟨a,_,c,h⟩
 obtain ⟨V,hV⟩:∃ V,w1.setCell ⟨L,6,none⟩ (.slice av nv cw)=V:=⟨_,rfl⟩
 rw [hV] at hL2 hG2
 have T:=omove_any hL2 hg hi ht hsm hf hn
 have HG:=Sl.mk ((OGoes.below L rb rp tv kv qv HX).trans hG2)
 obtain ⟨ak,nk,ck,rfl⟩:∃ a n c,kv=.slice a n c:=by obtain ⟨a,c,h⟩:=h.C.slice;exact ⟨a,_,c,h⟩
 clear h hg HX hXn hL hlen hr1 hg1 hb1 hL2 hG2 hi ht hsm hf hn
 go_enter Tryz.func58,Tryz.ntmps58
 go_upto_region 1 with (at_builtin;refine Cut.wpList_appV rfl (.tmp 10) (.tmp 14) 34 34 rfl rfl _ _ (.slice av nv cw) w1 rfl rfl (by first | exact hap | (rw [hX];exact hap)) ?_)
 (try rw [hV])
 go_wp2_with fail
 refine T.mono ?_
 rintro e w2 ⟨t2,k2,q2,rfl,HL,HG2⟩
 clear T
 go_wp2
 go_end0
 exact ⟨_,_,_,rfl,HL,⟨HG.out.trans HG2.out⟩⟩
theorem LegAt.norest (h:LegAt w0 W L sb mb rb rp tv kv qv c l):LegAt w0 (W.setCell ⟨L,7,none⟩ (.slice none 0 0)) L sb mb rb rp tv kv (.slice none 0 0) c {l with rest:=[]}∧OGoes W (W.setCell ⟨L,7,none⟩ (.slice none 0 0)) L rb rp tv kv qv tv kv (.slice none 0 0) :=
 ⟨h.set 7 _ (m:={l with rest:=[]}) rfl rfl h.T h.C (frow_nil _ _) h.dr (fun k e=>by obtain ⟨a1,a2,a3,a4,a5⟩:=h.tn k e;exact ⟨a1,a2,a3,a4,fun e=>by cases e⟩) (fun k _ e=>by cases e),goes_set W L rb rp tv kv qv 7 _ (fun _ e=>.inl e) (fun _ e=>.inl e) (fun _ e=>by cases e)⟩
theorem oend_any (h:LegAt w0 W L sb mb rb rp tv kv qv c l) (hg:Mas.Globs w0) (d:ByteArray) {m:Lg} (e1:m.ring=l.ring) (e2:m.tail=l.tail) (e3:m.ctl=l.ctl++[ctlF 8 (bytes d)]) (e4:m.rest=[]) (e5:m.draw=l.draw) (e6:m.wrong=l.wrong) (e7:m.sent=l.sent) (hi:Inv c m) (ht:m.tail.length≤100000) (hsm:Small 256 m.tail) (hf:c.frm≤65536) (hn:m.ctl.length+m.rest.length≤1000000) :
 Calls Tryz.prog 61 #[.pointer (some ⟨L,4,none⟩),.string d] W fun e w'=>∃ tv' kv' qv',e=.returned (.tuple #[])∧Sl (LegAt w0 w' L sb mb rb rp tv' kv' qv' c (LegPlain.move c m))∧Sl (OGoes W w' L rb rp tv kv qv tv' kv' qv'):=by
 obtain ⟨-,-,-,-,-,-,-,c7,-⟩:=h.cells
 have f7:=h.froz 7
 obtain ⟨hL,hG⟩:=h.norest
 obtain ⟨V,hV⟩:∃ V,W.setCell ⟨L,7,none⟩ (.slice none 0 0)=V:=⟨_,rfl⟩
 rw [hV] at hL hG
 have T:=ocontrol_any hL hg 8 d (m:=m) e1 e2 e3 e4 e5 e6 e7 hi ht hsm hf hn
 have HG:=Sl.mk hG
 obtain ⟨ak,nk,ck,rfl⟩:∃ a n c,qv=.slice a n c:=by obtain ⟨a,c,h⟩:=h.D.slice;exact ⟨a,_,c,h⟩
 clear h hg hL hG hi ht hsm hf hn
 go_enter Tryz.func61,Tryz.ntmps61
 go_upto_region 1 with fail
 (try rw [hV])
 go_wp2_with fail
 refine T.mono ?_
 rintro e w2 ⟨t2,k2,q2,rfl,HL,HG2⟩
 clear T
 go_wp2
 go_end0
 exact ⟨_,_,_,rfl,HL,⟨HG.out.trans HG2.out⟩⟩
theorem otake_any (h:LegAt w0 W L sb mb rb rp tv kv qv c l) (hg:Mas.Globs w0) (z:Int) (out:List Nat) (ho:l.ring.take z.toNat=out) (k:Nat) (hk:out.length=k) {m:Lg} (e1:m.ring=l.ring.drop z.toNat) (e2:m.tail=l.tail) (e3:m.ctl=l.ctl) (e4:m.rest=l.rest) (e5:m.draw=l.draw) (e6:m.wrong=l.wrong) (e7:m.sent=l.sent) (hi:Inv c m) (ht:m.tail.length≤100000) (hsm:Small 256 m.tail) (hf:c.frm≤65536) (hn:m.ctl.length+m.rest.length≤1000000) :
 Calls Tryz.prog 62 #[.pointer (some ⟨L,4,none⟩),.int .i64 z] W fun e w'=>∃ tv' kv' qv',e=.returned (.slice (some ⟨W.heap.size,0,none⟩) k k)∧Sl (RowB w' W.heap.size out)∧Sl (LegAt w0 w' L sb mb rb rp tv' kv' qv' c (LegPlain.move c m))∧Sl (OGoes W w' L rb rp tv kv qv tv' kv' qv'):=by
 obtain ⟨-,-,-,-,c4,-⟩:=h.cells
 have T1:=Rng.take_ex w0 W rb rp c.out k l.ring out (l.ring.drop z.toNat) z h.low h.B.2.1 h.B.2.2 h.R ho hk rfl
 have HO:Sl (∀ j,Own L rb rp tv kv qv j→j<W.heap.size):=⟨fun j e=>(h.own e).2⟩
 have H:=Sl.mk h
 have HGL:=Sl.mk hg
 have HPM:Sl (Inv c m∧m.tail.length≤100000∧Small 256 m.tail∧c.frm≤65536∧m.ctl.length+m.rest.length≤1000000):=⟨hi,ht,hsm,hf,hn⟩
 have HE:Sl (m.ring=l.ring.drop z.toNat∧m.tail=l.tail∧m.ctl=l.ctl∧m.rest=l.rest∧m.draw=l.draw∧m.wrong=l.wrong∧m.sent=l.sent):=⟨e1,e2,e3,e4,e5,e6,e7⟩
 clear h hg hi ht hsm hf hn e1 e2 e3 e4 e5 e6 e7 ho hk
 go_enter Tryz.func62,Tryz.ntmps62
 go_wp2_with fail
 refine T1.mono ?_
 rintro e w2 ⟨rfl,HR,HQ,HT,-⟩
 obtain ⟨hL,hG⟩:=H.out.ring (m:=m) HT.out (by rw [HE.out.1];exact HQ.out) HE.out.2.1 HE.out.2.2.1 HE.out.2.2.2.1 HE.out.2.2.2.2.1 HE.out.2.2.2.2.2.1 HE.out.2.2.2.2.2.2
 have T2:=omove_any hL HGL.out HPM.out.1 HPM.out.2.1 HPM.out.2.2.1 HPM.out.2.2.2.1 HPM.out.2.2.2.2
 have HG:=Sl.mk hG
 clear T1 hL hG HT HQ c4
 go_wp2_with fail
 refine T2.mono ?_
 rintro e w3 ⟨t2,k2,q2,rfl,HL,HG2⟩
 have HR3:Sl (RowB w3 W.heap.size out):=⟨by
  unfold RowB
  rw [HG2.out.kept.block _ HR.out.lt (fun e=>Nat.lt_irrefl _ (HO.out _ e))]
  exact HR.out⟩
 clear T2 HR
 go_wp2
 go_ret
 exact ⟨_,_,_,rfl,HR3,HL,⟨HG.out.trans HG2.out⟩⟩
end
end Go.Proofs.YtlahonjmfecikaaGreatDoor.Leg
