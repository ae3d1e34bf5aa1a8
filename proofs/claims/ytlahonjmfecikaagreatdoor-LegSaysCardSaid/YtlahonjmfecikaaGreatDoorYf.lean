/- The texts below, joined. -/
import Derived.Test.YtlahonjmfecikaaGreatDoorYe
import Derived.Lib.AppendStr
set_option maxRecDepth 100000
set_option linter.unusedVariables false
set_option linter.unusedSimpArgs false
set_option maxRecDepth 100000
namespace Go.Proofs.YtlahonjmfecikaaGreatDoor.Msg
open Go.RowKit UtfPlain MsgPlain Fra Utf Cls
open FramePlain (Fr form chk ctl zero4)
open ClosePlain (getC)
def Mine (b:Nat) (v p:Value) (k:Nat):Prop:=k=b∨v.ownBlock=some k∨p=.pointer (some ⟨k,0,none⟩)
theorem mine_zero {b k:Nat} (h:Mine b (.slice none 0 0) (.pointer none) k):k=b:=by
 rcases h with h | h | h
 ·exact h
 ·cases h
 ·cases h
structure Kept (S:Nat→Prop) (W W':World):Prop where
 os:W'.os=W.os
 tape:W'.tape=W.tape
 output:W'.output=W.output
 size:W.heap.size≤W'.heap.size
 block:∀ k,k<W.heap.size→¬ S k→W'.heap[k]? = W.heap[k]?
theorem Kept.below {S:Nat→Prop} {W W':World} (h:Below W.heap.size W W'):Kept S W W':=⟨h.os,h.tape,h.output,h.size,fun k hk _=>h.block k hk⟩
theorem Kept.grown {S:Nat→Prop} {W W':World} {r:Option Nat} (h:W.grownBy W' r) (hr:∀ k,r=some k→S k):Kept S W W' :=
 ⟨h.os,h.tape,h.output,h.size,fun k hk hn=>h.block k hk (fun e=>hn (hr k e.symm))⟩
theorem Kept.trans {S S2:Nat→Prop} {W V U:World} (h:Kept S W V) (k:Kept S2 V U) (hs:∀ j,j<W.heap.size→S2 j→S j):Kept S W U :=
 ⟨k.os.trans h.os,k.tape.trans h.tape,k.output.trans h.output,Nat.le_trans h.size k.size,fun j hj hn=>(k.block j (Nat.lt_of_lt_of_le hj h.size) (fun e=>hn (hs j hj e))).trans (h.block j hj hn)⟩
theorem Kept.up {S:Nat→Prop} {w0 W V:World} {B:Nat} (h:Kept S W V) (hB:Below B w0 W) (hS:∀ k,S k→B≤k) (hs:B≤W.heap.size):Below B w0 V :=
 ⟨h.os.trans hB.os,h.tape.trans hB.tape,h.output.trans hB.output,Nat.le_trans hB.size h.size,fun k hk=>(h.block k (by omega) (fun e=>by have:=hS k e;omega)).trans (hB.block k hk)⟩
structure Goes (W W':World) (b:Nat) (v p v' p':Value):Prop where
 kept:Kept (Mine b v p) W W'
 mine:∀ k,Mine b v' p' k→Mine b v p k∨W.heap.size≤k
theorem Goes.below {W W':World} (b:Nat) (v p:Value) (h:Below W.heap.size W W'):Goes W W' b v p v p:=⟨.below h,fun _ hk=>.inl hk⟩
theorem Goes.trans {W V U:World} {b:Nat} {v p v1 p1 v2 p2:Value} (h:Goes W V b v p v1 p1) (k:Goes V U b v1 p1 v2 p2):Goes W U b v p v2 p2 :=
 ⟨h.kept.trans k.kept (fun j hj e=>by
  rcases h.mine j e with h1 | h1
  ·exact h1
  ·omega),fun j e=>by
  rcases k.mine j e with h1 | h1
  ·exact h.mine j h1
  ·exact .inr (Nat.le_trans h.kept.size h1)⟩
theorem Goes.own {W W':World} {b:Nat} (v p:Value) {v' p':Value} (h:W.grownBy W' (some b)) (hm:∀ k,Mine b v' p' k→Mine b v p k∨W.heap.size≤k):Goes W W' b v p v' p' :=
 ⟨.grown h (fun k e=>by injection e with e;exact .inl e.symm),hm⟩
structure Mac (w0 W:World) (b:Nat) (most op:Int) (text:List Nat) (o:Option St) (err:Nat) (over:Bool) (v p:Value):Prop where
 X:W.heap[b]? = some (.cells #[.int .i64 most,.int .i64 op,v,p,.int .i64 (err:Int),.bool over] 124 (0,0))
 O:W.ownsRow w0.heap.size 5 1 v text.length (u8s text)
 C:op≠0→∃ c,p=.pointer (some ⟨c,0,none⟩)∧w0.heap.size≤c∧ChkO W c o
 N:op=0→p=.pointer none
 K:OkO o
 B:w0.heap.size≤b
 L:Below w0.heap.size w0 W
section
variable {w0 W:World} {b:Nat} {most op:Int} {text:List Nat} {o:Option St} {err:Nat} {over:Bool} {v p:Value}
theorem Mac.lt (h:Mac w0 W b most op text o err over v p):b<W.heap.size:=(Array.getElem?_eq_some_iff.1 h.X).1
theorem Mac.own (h:Mac w0 W b most op text o err over v p) {k:Nat} (hk:Mine b v p k):w0.heap.size≤k∧k<W.heap.size:=by
 rcases hk with rfl | hk | hk
 ·exact ⟨h.B,h.lt⟩
 ·exact h.O.lt k hk
 ·by_cases h0:op=0
  ·rw [h.N h0] at hk;cases hk
  ·obtain ⟨c,hc,hb,hx⟩:=h.C h0
   rw [hc] at hk
   injection hk with hk
   injection hk with hk
   injection hk with hk
   subst hk
   exact ⟨hb,chk_lt hx⟩
theorem Mac.stay {W':World} (h:Mac w0 W b most op text o err over v p) {S:Nat→Prop} (hk:Kept S W W') (hn:∀ k,Mine b v p k→¬ S k) (hL:Below w0.heap.size w0 W'):Mac w0 W' b most op text o err over v p where
 X:=by rw [hk.block b h.lt (hn b (.inl rfl))];exact h.X
 O:=by
  obtain ⟨h1,h2⟩:=h.O
  refine ⟨h1,?_⟩
  rcases h2 with h2 | ⟨g,cap,cur,rfl,hb,hg,r⟩
  ·exact .inl h2
  ·exact .inr ⟨g,cap,cur,rfl,hb,by rw [hk.block g (Array.getElem?_eq_some_iff.1 hg).1 (hn g (.inr (.inl rfl)))];exact hg,r⟩
 C:=fun h0=>by
  obtain ⟨c,hc,hb,hx⟩:=h.C h0
  have e:=hk.block c (chk_lt hx) (hn c (.inr (.inr hc)))
  refine ⟨c,hc,hb,?_⟩
  cases o with
  | none=>obtain ⟨n0,n1,l,hx⟩:=hx;exact ⟨n0,n1,l,by show _=_;rw [e];exact hx⟩
  | some s=>obtain ⟨n0,n1,hx,hy⟩:=hx;exact ⟨n0,n1,by show _=_;rw [e];exact hx,hy⟩
 N:=h.N
 K:=h.K
 B:=h.B
 L:=hL
theorem Mac.below {W':World} (h:Mac w0 W b most op text o err over v p) (hb:Below W.heap.size W W'):Mac w0 W' b most op text o err over v p :=
 h.stay (S:=fun _=>False) (.below hb) (fun _ _=>id) (h.L.trans (hb.mono h.L.size))
theorem Mac.cells (h:Mac w0 W b most op text o err over v p):W.cell? ⟨b,0,none⟩=some (.int .i64 most)∧W.cell? ⟨b,1,none⟩=some (.int .i64 op)∧W.cell? ⟨b,2,none⟩=some v∧W.cell? ⟨b,3,none⟩=some p∧W.cell? ⟨b,4,none⟩=some (.int .i64 (err:Int))∧W.cell? ⟨b,5,none⟩=some (.bool over):=by
 refine ⟨?_,?_,?_,?_,?_,?_⟩<;>(rw [cell_of_row _ _ _ _ _ _ h.X];rfl)
theorem Mac.froz (h:Mac w0 W b most op text o err over v p) (i:Nat):W.frozen? ⟨b,i,none⟩=false:=frozen_of_row _ _ _ _ _ h.X
theorem Mac.slice (h:Mac w0 W b most op text o err over v p):∃ a c,v=.slice a text.length c:=by
 rcases h.O.2 with ⟨rfl,hz⟩ | ⟨g,cap,cur,rfl,_⟩
 ·rw [hz];exact ⟨_,_,rfl⟩
 ·exact ⟨_,_,rfl⟩
theorem own_kind {W:World} {base g n:Nat} {v:Value} {xs:List Value} {cs:Array Value} {t:TypeId} (ho:W.ownsRow base 5 1 v n xs) (h:W.heap[g]? = some (.cells cs t (0,0))) (ht:t≠5):v.ownBlock≠some g:=fun e=>by
 obtain ⟨_,h2⟩:=ho
 rcases h2 with ⟨rfl,_⟩ | ⟨k,cap,cur,rfl,_,hh,_⟩
 ·cases e
 ·obtain rfl:k=g:=by simpa [Value.ownBlock] using e
  rw [h] at hh
  injection hh with hh
  injection hh with _ h4
  exact ht h4
theorem chk_kind {W:World} {c:Nat} {o:Option St} (h:ChkO W c o):∃ cs,W.heap[c]? = some (.cells cs 210 (0,0)):=by
 cases o with
 | none=>obtain ⟨n0,n1,l,h⟩:=h;exact ⟨_,h⟩
 | some s=>obtain ⟨n0,n1,h,_⟩:=h;exact ⟨_,h⟩
theorem Mac.write {W':World} (h:Mac w0 W b most op text o err over v p) (hg:W.grownBy W' (some b)) {op':Int} {text':List Nat} {o':Option St} {err':Nat} {over':Bool} {v' p':Value}
 (hX:W'.heap[b]? = some (.cells #[.int .i64 most,.int .i64 op',v',p',.int .i64 (err':Int),.bool over'] 124 (0,0)))
 (hz:(v'=v∧p'=p∧op'=op∧text'=text∧o'=o)∨(v'=.slice none 0 0∧p'=.pointer none∧op'=0∧text'=[]∧OkO o')) :
 Mac w0 W' b most op' text' o' err' over' v' p'∧Goes W W' b v p v' p':=by
 have hL:Below w0.heap.size w0 W':=h.L.grown hg h.L.size (fun k hk=>by injection hk with hk;rw [← hk];exact h.B)
 rcases hz with ⟨rfl,rfl,rfl,rfl,rfl⟩ | ⟨rfl,rfl,rfl,rfl,hok⟩
 ·refine ⟨⟨hX,h.O.kept hg (.inr (own_kind h.O h.X (by decide))),fun h0=>?_,h.N,h.K,h.B,hL⟩,.own _ _ hg (fun k hk=>.inl hk)⟩
  obtain ⟨c,hc,hb,hx⟩:=h.C h0
  refine ⟨c,hc,hb,chk_grown hx hg (fun e=>?_)⟩
  obtain ⟨cs,hcs⟩:=chk_kind hx
  rw [e,h.X] at hcs
  injection hcs with hcs
  injection hcs with _ hcs
  exact absurd hcs (by decide)
 ·exact ⟨⟨hX,World.ownsRow_nil _ _ _ _,fun h0=>absurd rfl h0,fun _=>rfl,hok,h.B,hL⟩,.own _ _ hg (fun k hk=>.inl (.inl (mine_zero hk)))⟩
end
def chkS (op:Int) (text:List Nat):Option St:=if op=1 then uend s0 text else some s0
structure MacS (w0 W:World) (b:Nat) (most:Int) (st:Ms) (v p:Value):Prop where
 m:Mac w0 W b most st.op st.text (chkS st.op st.text) st.err st.over v p
 f:Fit most st
 lo:1≤most
 hi:most≤1048576
theorem MacS.below {w0 W W':World} {b:Nat} {most:Int} {st:Ms} {v p:Value} (h:MacS w0 W b most st v p) (hb:Below W.heap.size W W'):MacS w0 W' b most st v p:=⟨h.m.below hb,h.f,h.lo,h.hi⟩
theorem MacS.len {w0 W:World} {b:Nat} {most:Int} {st:Ms} {v p:Value} (h:MacS w0 W b most st v p):st.text.length≤1048576:=by have:=h.f.most;have:=h.hi;omega
theorem MacS.apart {w0 W W':World} {b:Nat} {most:Int} {st:Ms} {v p:Value} (h:MacS w0 W b most st v p) {S:Nat→Prop} (hk:Kept S W W') (hn:∀ k,Mine b v p k→¬ S k) (hL:Below w0.heap.size w0 W'):MacS w0 W' b most st v p:=⟨h.m.stay hk hn hL,h.f,h.lo,h.hi⟩
theorem info5s:∃ i,Tryz.prog.info? 5=some i∧i.zero=some (.int .u8 0)∧i.size=1∧i.bytes=1:=info5'
theorem strCells_eq (s:ByteArray):Lib.strCells s=u8s (bytes s):=by
 unfold Lib.strCells u8s bytes
 rw [List.map_map];rfl
theorem add_str {Z:World} {base:Nat} {v:Value} {m:List Nat} (hown:Z.ownsRow base 5 1 v m.length (u8s m)) (s:ByteArray) (hl:m.length+s.size≤4000000) (hbase:base≤Z.heap.size) :
 ∃ v1 w1,(Builtin.append_ #[49,9] 49 #[v,.string s]).run Tryz.prog Z=.ok v1 w1∧w1.ownsRow base 5 1 v1 (m++bytes s).length (u8s (m++bytes s))∧Z.grownBy w1 v.ownBlock∧(∀ k,v1.ownBlock=some k→v.ownBlock=some k∨Z.heap.size≤k):=by
 obtain ⟨i0,hi0,hz0,hz1,hz2⟩:=info5s
 have hml:m.length+s.size≤maxLen:=by unfold maxLen;omega
 obtain ⟨v',w',hr,h2,h3,_⟩:=Lib.run_append_own_string (P:=Tryz.prog) Z base 49 9 49 5 i0 Tryz.underlying49 Tryz.underlying9 hi0 hz0 hz1 hz2 v m.length (u8s m) hown s hml (by omega) hbase
 rw [strCells_eq,← u8s_append] at h2
 refine ⟨v',w',hr,by rw [List.length_append,bytes_length];exact h2,h3,fun k hk=>?_⟩
 rcases hown.2 with ⟨rfl,h0⟩ | ⟨g,cap,cur,rfl,hbg,hg,hnc,hcm,hcs,htake⟩
 ·have hm0:m=[]:=List.eq_nil_of_length_eq_zero h0
  subst hm0
  obtain ⟨v2,w2,hr2,h4,_⟩:=Lib.run_append_own_string (P:=Tryz.prog) Z Z.heap.size 49 9 49 5 i0 Tryz.underlying49 Tryz.underlying9 hi0 hz0 hz1 hz2 _ 0 [] (World.ownsRow_nil Z Z.heap.size 5 1) s (by simpa using hml) (by simp at hl;omega) (Nat.le_refl _)
  have hr':(Builtin.append_ #[49,9] 49 #[.slice none 0 0,.string s]).run Tryz.prog Z=.ok v' w':=hr
  rw [hr'] at hr2
  injection hr2 with e1 e2
  subst e1 e2
  exact .inr (h4.lt k hk).1
 ·by_cases hroom:m.length+s.size≤cap
  ·have hr2:=Lib.run_append_room_string (P:=Tryz.prog) Z 49 9 49 5 i0 Tryz.underlying49 Tryz.underlying9 hi0 hz1 g m.length cap cur hg s hroom (by omega)
   rw [hr] at hr2
   injection hr2 with e1 e2
   rw [e1] at hk
   exact .inl hk
  ·have holds:∀ j u,(u8s m)[j]? = some u→Z.cell? ((⟨g,0,none⟩:Addr).add j)=some u:=hown.cells (g:=g) rfl
   have hr2:=Lib.run_append_grow_string (P:=Tryz.prog) Z 49 9 49 5 i0 (.int .u8 0) Tryz.underlying49 Tryz.underlying9 hi0 hz0 ⟨g,0,none⟩ m.length cap (u8s m) (by rw [hz1];simp) holds s (by omega) (by omega) (by rw [hz2];exact growslice_fits (by omega) (by omega))
   rw [hr] at hr2
   injection hr2 with e1 e2
   rw [e1] at hk
   simp only [Value.ownBlock] at hk
   injection hk with hk
   exact .inr (by omega)
theorem own_conv {W:World} {base:Nat} {v:Value} {bs:List Nat} (h:W.ownsRow base 5 1 v bs.length (u8s bs)):(convert 49 9 v).run Tryz.prog W=.ok (.string (strOf bs)) W:=by
 by_cases hp:0<bs.length
 ·obtain ⟨g,cap,rfl,_,hs⟩:=own_src h hp
  exact hs.conv
 ·have h0:bs=[]:=List.eq_nil_of_length_eq_zero (by omega)
  subst h0
  rcases h.2 with ⟨rfl,_⟩ | ⟨g,cap,cur,rfl,_⟩
  ·exact run_convert_bytes_nil (P:=Tryz.prog) W 49 5 Tryz.underlying49 Tryz.underlying5 0 0 9 Tryz.underlying9
  ·exact run_convert_bytes_arg (P:=Tryz.prog) W 49 5 Tryz.underlying49 Tryz.underlying5 g 0 0 cap [] rfl (fun i hi=>absurd hi (Nat.not_lt_zero _)) 9 Tryz.underlying9
theorem new_yes (most:Int) (w0 W:World) (hB:Below w0.heap.size w0 W) (hm:1≤most∧most≤1048576) :
 Calls Tryz.prog 39 #[.int .i64 most] W fun e w'=>e=.returned (.tuple #[.pointer (some ⟨W.heap.size,0,none⟩),.int .i64 0])∧Sl (MacS w0 w' W.heap.size most M0 (.slice none 0 0) (.pointer none))∧Sl (Below W.heap.size W w'):=by
 have q1:(most<1)=False:=eq_false (by omega)
 have q2:(most>1048576)=False:=eq_false (by omega)
 have HS:=Sl.mk hB.size
 have HB:=Sl.mk hB
 have HM:=Sl.mk hm
 clear hB hm
 go_enter Tryz.func39,Tryz.ntmps39
 go_wp2
 go_ret2
 exact ⟨rfl,⟨⟨⟨alloc_new _ _ _ rfl,World.ownsRow_nil _ _ _ _,fun h=>absurd rfl h,fun _=>rfl,okO0,HS.out,HB.out.alloc HS.out _⟩,fit0 (by have:=HM.out.1;omega),HM.out.1,HM.out.2⟩⟩,⟨(Below.refl _ _).alloc (Nat.le_refl _) _⟩⟩
section
variable {w0 W:World} {b:Nat} {most op:Int} {text:List Nat} {o:Option St} {err:Nat} {over:Bool} {v p:Value}
theorem over_any (h:Mac w0 W b most op text o err over v p):Calls Tryz.prog 65 #[.pointer (some ⟨b,0,none⟩)] W fun e w'=>e=.returned (.bool over)∧W=w':=by
 obtain ⟨_,_,_,_,_,e5⟩:=h.cells
 clear h
 go_enter Tryz.func65,Tryz.ntmps65
 go_wp2
 go_ret
 exact ⟨rfl,rfl⟩
theorem part_any (h:Mac w0 W b most op text o err over v p) (n:Nat) (hn:text.length=n):Calls Tryz.prog 68 #[.pointer (some ⟨b,0,none⟩)] W fun e w'=>e=.returned (.int .i64 (n:Int))∧W=w':=by
 obtain ⟨_,_,e2,_,_,_⟩:=h.cells
 obtain ⟨a,c,rfl⟩:=h.slice
 subst hn
 clear h
 go_enter Tryz.func68,Tryz.ntmps68
 go_wp2
 go_ret
 exact ⟨rfl,rfl⟩
end
end Go.Proofs.YtlahonjmfecikaaGreatDoor.Msg
set_option maxRecDepth 100000
namespace Go.Proofs.YtlahonjmfecikaaGreatDoor.Msg
open Go.RowKit UtfPlain MsgPlain Fra Utf Cls
open FramePlain (Fr form chk ctl zero4)
open ClosePlain (getC)
def addO (op:Int) (o:Option St) (bs:List Nat):Option St:=if op=1 then en o bs else o
def addR (op:Int) (o:Option St) (last:Bool) (bs:List Nat):Bool:=if op=1 then (if last then decide (en o bs=some s0) else (en o bs).isSome) else true
theorem app_str {w w1:World} {ops:Array Oper} {rest:List Oper} {o:Oper} {a:Act} {Q:Exit→Act→World→Prop} (hgd:o.guard=none) (sl x:Operand)
 (ho:o.op=.call {callee:=.builtin .append,args:=#[sl,x],argTypes:=#[49,9]}) (hty:o.type=49) (v v1:Value) (s:ByteArray) (hs:a.eval sl=v) (hx:a.eval x=.string s)
 (hrun:(Builtin.append_ #[49,9] 49 #[v,.string s]).run Tryz.prog w=.ok v1 w1) (h:wpList Tryz.prog ops Q rest (a.put o.dst v1) w1):wpList Tryz.prog ops Q (o :: rest) a w:=by
 refine wpList_plain hgd fun K hK=>?_
 unfold Oper.wp
 have hy:(execOp a.eval o).run Tryz.prog w=.ok (.value v1) w1:=by
  simp [execOp,ho,hty,resolve,invoke,builtin,hs,hx,hrun,Result.andThen]
 rw [hy,Oper.upon_value]
 exact hK _ _ h
section
variable {w0 W:World} {b:Nat} {most op:Int} {text:List Nat} {o:Option St} {err:Nat} {over:Bool} {v p:Value}
theorem mac_fed (h:Mac w0 W b most op text o err over v p) {w2:World} (g:W.grownBy w2 v.ownBlock) {T:List Nat} {v1:Value} (ho:w2.ownsRow w0.heap.size 5 1 v1 T.length (u8s T)) (hv:∀ k,v1.ownBlock=some k→v.ownBlock=some k∨W.heap.size≤k) :
 Mac w0 (w2.setCell ⟨b,2,none⟩ v1) b most op T o err over v1 p∧Goes W (w2.setCell ⟨b,2,none⟩ v1) b v p v1 p:=by
 have hk:=own_kind h.O h.X (by decide)
 have hb2:w2.heap[b]? = some (.cells #[.int .i64 most,.int .i64 op,v,p,.int .i64 (err:Int),.bool over] 124 (0,0)):=by rw [g.block b h.lt (fun e=>hk e.symm)];exact h.X
 have hk2:=own_kind ho hb2 (by decide)
 have g2:=grown_setCell w2 b 2 v1
 have hL:Below w0.heap.size w0 w2:=h.L.grown g h.L.size (fun k hk=>(h.O.lt k hk).1)
 refine ⟨⟨by rw [heap_setCell_same _ _ _ _ _ _ hb2];rfl,ho.kept g2 (.inr hk2),fun h0=>?_,h.N,h.K,h.B,hL.grown g2 hL.size (fun k hk=>by injection hk with hk;rw [← hk];exact h.B)⟩,⟨?_,fun k hk=>?_⟩⟩
 ·obtain ⟨c,hc,hb,hx⟩:=h.C h0
  obtain ⟨cs,hcs⟩:=chk_kind hx
  have k1:=own_kind h.O hcs (by decide)
  have hx2:ChkO w2 c o:=by
   cases hv:v.ownBlock with
   | none=>rw [hv] at g;exact chk_below hx ⟨g.os,g.tape,g.output,g.size,fun k hk=>g.block k hk (fun e=>by cases e)⟩
   | some j=>rw [hv] at g k1;exact chk_grown hx g (fun e=>k1 (by rw [e]))
  refine ⟨c,hc,hb,chk_grown hx2 g2 (fun e=>?_)⟩
  rw [e,h.X] at hcs
  injection hcs with hcs
  injection hcs with _ hcs
  exact absurd hcs (by decide)
 ·exact Kept.trans (S:=Mine b v p) (.grown g (fun k hk=>.inr (.inl hk))) (.grown (S:=fun k=>k=b) g2 (fun k hk=>by injection hk with hk;exact hk.symm)) (fun j _ e=>.inl e)
 ·rcases hk with hk | hk | hk
  ·exact .inl (.inl hk)
  ·rcases hv k hk with h1 | h1
   ·exact .inl (.inr (.inl h1))
   ·exact .inr h1
  ·exact .inl (.inr (.inr hk))
theorem mac_chk (h:Mac w0 W b most op text o err over v p) {W':World} {c:Nat} {o':Option St} (hc:p=.pointer (some ⟨c,0,none⟩)) (hop:op≠0) (g:W.grownBy W' (some c)) (hx:ChkO W' c o') (ok:OkO o') :
 Mac w0 W' b most op text o' err over v p∧Goes W W' b v p v p:=by
 obtain ⟨c',hc',hb,hx0⟩:=h.C hop
 obtain rfl:c'=c:=by rw [hc] at hc';injection hc' with e;injection e with e;injection e with e;exact e.symm
 obtain ⟨cs,hcs⟩:=chk_kind hx0
 have k1:=own_kind h.O hcs (by decide)
 have k2:b≠c':=fun e=>by
  rw [← e,h.X] at hcs
  injection hcs with hcs
  injection hcs with _ hcs
  exact absurd hcs (by decide)
 exact ⟨⟨by rw [g.block b h.lt (fun e=>k2 (by injection e))];exact h.X,h.O.kept g (.inr k1),fun _=>⟨c',hc,hb,hx⟩,h.N,ok,h.B,h.L.grown g h.L.size (fun k hk=>by injection hk with hk;rw [← hk];exact hb)⟩,
  ⟨.grown g (fun k hk=>by injection hk with hk;subst hk;exact .inr (.inr hc)),fun k hk=>.inl hk⟩⟩
set_option maxHeartbeats 1000000 in
theorem add_any (h:Mac w0 W b most op text o err over v p) (hop:op≠0) (hg:Utf.Globs w0) (s:ByteArray) (last:Bool) (hs:s.size≤100000) (ht:text.length≤2000000) (r:Bool) (hr:addR op o last (bytes s)=r) :
 Calls Tryz.prog 142 #[.pointer (some ⟨b,1,none⟩),.string s,.bool last] W fun e w'=>∃ v',e=.returned (.bool r)∧Sl (Mac w0 w' b most op (text++bytes s) (addO op o (bytes s)) err over v' p)∧Sl (Goes W w' b v p v' p):=by
 obtain ⟨v1,w2,hrun,ho1,hg1,hv1⟩:=add_str h.O s (by omega) h.L.size
 obtain ⟨hm,hgo⟩:=mac_fed h hg1 ho1 hv1
 obtain ⟨a1,n1,k1,rfl⟩:∃ a n k,v1=.slice a n k:=by obtain ⟨a,k,e⟩:=hm.slice;exact ⟨a,_,k,e⟩
 have HM:=Sl.mk hm
 have HG1:Sl (Goes W (w2.setCell ⟨b,2,none⟩ (.slice a1 n1 k1)) b v p (.slice a1 n1 k1) p):=⟨hgo⟩
 have hb2:w2.heap[b]? = some (.cells #[.int .i64 most,.int .i64 op,v,p,.int .i64 (err:Int),.bool over] 124 (0,0)):=by rw [hg1.block b h.lt (fun e=>own_kind h.O h.X (by decide) e.symm)];exact h.X
 have c2:w2.cell? ⟨b,2,none⟩=some v:=by rw [cell_of_row _ _ _ _ _ _ hb2];rfl
 have f2:w2.frozen? ⟨b,2,none⟩=false:=frozen_of_row _ _ _ _ _ hb2
 have e2:=h.cells.2.2.1
 have HG:=Sl.mk hg
 have HS:=Sl.mk hs
 obtain ⟨w3,hw3⟩:∃ V,w2.setCell ⟨b,2,none⟩ (.slice a1 n1 k1)=V:=⟨_,rfl⟩
 rw [hw3] at HM HG1
 have d1:w3.cell? ⟨b,1,none⟩=some (.int .i64 op):=HM.out.cells.2.1
 have d3:w3.cell? ⟨b,3,none⟩=some p:=HM.out.cells.2.2.2.1
 have HOP:=Sl.mk hop
 clear ho1 hg1 hv1 hm hgo hb2 hg hs ht hop h
 by_cases h1:op=1
 ·subst h1
  obtain ⟨c,hc,hcb,hx⟩:=HM.out.C HOP.out
  subst hc
  have HX:=Sl.mk hx
  have HCB:=Sl.mk hcb
  obtain ⟨cap,w4,hcv,HSV,HBV⟩:=conv_str s w3
  have HM4:=Sl.mk (HM.out.below HBV.out)
  have HG4:=Sl.mk (HG1.out.trans (Goes.below b (.slice a1 n1 k1) (.pointer (some ⟨c,0,none⟩)) HBV.out))
  have HX4:=chk_below hx HBV.out
  have hcl:=chk_lt hx
  have F:=feed_ex w0 w4 c o (bytes s) (.slice (some ⟨w3.heap.size,0,none⟩) s.size cap) _ rfl hcb HM4.out.L HG.out HX4 HM.out.K (HSV.out.offs hcl) (by rw [bytes_length];exact HS.out)
  have HK:=Sl.mk HM.out.K
  have g3:w4.cell? ⟨b,3,none⟩=some (.pointer (some ⟨c,0,none⟩)):=HM4.out.cells.2.2.2.1
  unfold addR at hr
  rw [if_pos rfl] at hr
  have hao:addO 1 o (bytes s)=en o (bytes s):=if_pos rfl
  rw [hao]
  clear hx hcb HX4 hcl HSV HBV hao
  cases last with
  | true =>
    rw [if_pos rfl] at hr
    go_enter Tryz.func142,Tryz.ntmps142
    go_wp2_with (at_builtin;refine app_str rfl _ _ rfl rfl v (.slice a1 n1 k1) s rfl rfl hrun ?_)
    refine F.mono ?_
    rintro e w5 ⟨rfl,HX5,HG5,-⟩
    clear F
    obtain ⟨hm5,hg5⟩:=mac_chk HM4.out rfl HOP.out HG5.out HX5.out (HK.out.en _)
    have HM5:=Sl.mk hm5
    have HG6:=Sl.mk (HG4.out.trans hg5)
    have g5:w5.cell? ⟨b,3,none⟩=some (.pointer (some ⟨c,0,none⟩)):=hm5.cells.2.2.2.1
    have WH:=whole_ex c _ w5 r HX5.out (HK.out.en _) hr
    clear hm5 hg5
    go_wp2_with fail
    refine WH.mono ?_
    rintro e w6 ⟨rfl,rfl⟩
    go_wp2
    go_ret
    exact ⟨_,rfl,HM5,HG6⟩
  | false =>
    rw [if_neg (by decide)] at hr
    go_enter Tryz.func142,Tryz.ntmps142
    go_wp2_with (at_builtin;refine app_str rfl _ _ rfl rfl v (.slice a1 n1 k1) s rfl rfl hrun ?_)
    refine F.mono ?_
    rintro e w5 ⟨rfl,HX5,HG5,-⟩
    clear F
    obtain ⟨hm5,hg5⟩:=mac_chk HM4.out rfl HOP.out HG5.out HX5.out (HK.out.en _)
    have HM5:=Sl.mk hm5
    have HG6:=Sl.mk (HG4.out.trans hg5)
    have g5:w5.cell? ⟨b,3,none⟩=some (.pointer (some ⟨c,0,none⟩)):=hm5.cells.2.2.2.1
    have WH:=right_ex c _ w5 r HX5.out hr
    clear hm5 hg5
    go_wp2_with fail
    refine WH.mono ?_
    rintro e w6 ⟨rfl,rfl⟩
    go_wp2
    go_ret
    exact ⟨_,rfl,HM5,HG6⟩
 ·have q1:(op != 1)=true:=by simpa using h1
  obtain rfl:r=true:=by rw [← hr];unfold addR;rw [if_neg h1]
  have ho:addO op o (bytes s)=o:=if_neg h1
  rw [ho]
  clear h1 hr ho HG HS
  go_enter Tryz.func142,Tryz.ntmps142
  go_wp2_with (at_builtin;refine app_str rfl _ _ rfl rfl v (.slice a1 n1 k1) s rfl rfl hrun ?_)
  go_ret
  exact ⟨_,rfl,HM,HG1⟩
end
end Go.Proofs.YtlahonjmfecikaaGreatDoor.Msg
set_option maxRecDepth 100000
namespace Go.Proofs.YtlahonjmfecikaaGreatDoor.Msg
open Go.RowKit UtfPlain MsgPlain Fra Utf Cls
open FramePlain (Fr form chk ctl zero4)
open ClosePlain (getC)
def evC (op code:Int) (s:ByteArray):Array Value:=#[.int .i64 op,.int .i64 code,.string s]
def evV (x:Ev):Value:=.agg (evC x.op x.code (strOf x.data))
def evO:Option Ev→Value
 | some x=>evV x
 | none=>.agg #[.int .i64 0,.int .i64 0,.string {data:=#[]}]
def Tell (W:World) (tv:Value):Option Ev→Prop
 | none=>tv=.nilFunc
 | some x=>∃ (n:FuncId) (cs:Array Value),tv=.func (.func n) #[] cs∧(∀ args V,(callFunc n args).run Tryz.prog V=.ok (.enter n args) V)∧Calls Tryz.prog n cs W fun e w'=>e=.returned (evV x)∧Sl (Below W.heap.size W w')
theorem ev_info {cs:Array Value} (h:cs.size=3):(Tryz.prog.info? 52).map (·.size)=some cs.size:=by rw [h];kernel_rfl
theorem ret_ev {fn:Func} {p:Tmp} (h:fn.results=#[.cell p 52]) (tmps:Array Value) (w:World) (g:Nat) (t:TypeId) (cs:Array Value) (fr:Nat×Nat)
 (hp:tmps.getD p undef=.pointer (some ⟨g,0,none⟩)) (hg:w.heap[g]? = some (.cells cs t fr)) (hs:cs.size=3):(results fn tmps).run Tryz.prog w=.ok (.agg cs) w :=
 results_cell_row h tmps w g t cs fr _ hp hg Tryz.underlying52 rfl (ev_info hs)
theorem ev_all (a b:Int) (s:ByteArray):(#[.int .i64 a,.int .i64 b,.string s]:Array Value).all (·.oneCell')=true:=by simp [Value.oneCell']
theorem store_ev {W:World} {ev:Operand→Value} {o:Oper} {x y:Operand} {g:Nat} {old cells:Array Value} (ho:o.op=.store 52 x y) (hx:ev x=.pointer (some ⟨g,0,none⟩)) (hy:ev y=.agg cells) (hg:W.heap[g]? = some (.cells old 52 (0,0))) (hs:old.size=cells.size) (hi:(Tryz.prog.info? 52).map (·.size)=some cells.size) (h1:cells.all (·.oneCell')=true) :
 (execOp ev o).run Tryz.prog W=.ok .skip (W.setRow g cells):=by
 unfold execOp
 simp only [ho,hx,hy,Instr.storeAt,Instr.sureAddr,Sem.run_bind,Sem.run_pure,Result.andThen_ok,run_storeVar_row W g 52 52 old cells hg hi hs h1]
theorem tmore_any {W:World} {base g:Nat} {op:Int} {v p:Value} {text:List Nat} (h:W.heap[g]? = some (.cells #[.int .i64 op,v,p] 122 (0,0))) (ho:W.ownsRow base 5 1 v text.length (u8s text)) :
 Calls Tryz.prog 143 #[.pointer (some ⟨g,0,none⟩)] W fun e w'=>e=.returned (evV ⟨op,0,text⟩)∧Sl (Below W.heap.size W w'):=by
 obtain ⟨W1,hW1⟩:∃ V,W.alloc (.cells #[.int .i64 0,.int .i64 0,.string {data:=#[]}] 52)=V:=⟨_,rfl⟩
 have HB:Below W.heap.size W W1:=by rw [← hW1];exact (Below.refl _ _).alloc (Nat.le_refl _) _
 have HN:W1.heap[W.heap.size]? = some (.cells #[.int .i64 0,.int .i64 0,.string {data:=#[]}] 52 (0,0)):=by rw [← hW1];exact alloc_new _ _ _ rfl
 have h1:=below_key h HB
 have hcv:=own_conv (own_below ho HB)
 have c0:W1.cell? ⟨g,0,none⟩=some (.int .i64 op):=by rw [cell_of_row _ _ _ _ _ _ h1];rfl
 have c1:W1.cell? ⟨g,1,none⟩=some v:=by rw [cell_of_row _ _ _ _ _ _ h1];rfl
 have HNS:=Sl.mk HN
 have HBS:=Sl.mk HB
 have HI:=ev_info (cs:=#[.int .i64 op,.int .i64 0,.string (strOf text)]) rfl
 obtain ⟨a,n,k,rfl⟩:∃ a n k,v=.slice a n k:=by
  rcases ho.2 with ⟨rfl,_⟩ | ⟨g,cap,cur,rfl,_⟩
  ·exact ⟨_,_,_,rfl⟩
  ·exact ⟨_,_,_,rfl⟩
 clear h ho h1 HN HB
 go_enter Tryz.func143,Tryz.ntmps143
 go_wp2_with (refine wpList_store_row rfl 52 (.tmp 1) (.tmp 7) rfl W.heap.size #[.int .i64 op,.int .i64 0,.string (strOf text)] rfl rfl 52 #[.int .i64 0,.int .i64 0,.string {data:=#[]}] HNS.out HI rfl (ev_all _ _ _) ?_)
 refine bodyPost_ret (ret_ev rfl _ _ W.heap.size 52 _ (0,0) rfl (setRow_heap _ _ _ _ _ _ HNS.out) rfl) rfl ?_
 exact ⟨rfl,⟨below_setRow HBS.out (Nat.le_refl _) _⟩⟩
theorem tend_any {W:World} {g q:Nat} {code:Int} {s:ByteArray} (h:W.heap[g]? = some (.cells #[.int .i64 code] 3 (0,0))) (h2:W.heap[q]? = some (.cells #[.string s] 9 (0,0))) :
 Calls Tryz.prog 140 #[.pointer (some ⟨g,0,none⟩),.pointer (some ⟨q,0,none⟩)] W fun e w'=>e=.returned (evV ⟨8,code,bytes s⟩)∧Sl (Below W.heap.size W w'):=by
 obtain ⟨W1,hW1⟩:∃ V,W.alloc (.cells #[.int .i64 0,.int .i64 0,.string {data:=#[]}] 52)=V:=⟨_,rfl⟩
 have HB:Below W.heap.size W W1:=by rw [← hW1];exact (Below.refl _ _).alloc (Nat.le_refl _) _
 have HN:W1.heap[W.heap.size]? = some (.cells #[.int .i64 0,.int .i64 0,.string {data:=#[]}] 52 (0,0)):=by rw [← hW1];exact alloc_new _ _ _ rfl
 have c0:=cell_of_one (below_key h HB)
 have c1:=cell_of_one (below_key h2 HB)
 have HNS:=Sl.mk HN
 have HBS:=Sl.mk HB
 have HI:=ev_info (cs:=#[.int .i64 8,.int .i64 code,.string s]) rfl
 unfold evV
 rw [strOf_bytes]
 clear h h2 HN HB
 go_enter Tryz.func140,Tryz.ntmps140
 go_wp2_with (refine wpList_store_row rfl 52 (.tmp 2) (.tmp 5) rfl W.heap.size #[.int .i64 8,.int .i64 code,.string s] rfl rfl 52 #[.int .i64 0,.int .i64 0,.string {data:=#[]}] HNS.out HI rfl (ev_all _ _ _) ?_)
 refine bodyPost_ret (ret_ev rfl _ _ W.heap.size 52 _ (0,0) rfl (setRow_heap _ _ _ _ _ _ HNS.out) rfl) rfl ?_
 exact ⟨rfl,⟨below_setRow HBS.out (Nat.le_refl _) _⟩⟩
theorem tread_any {W:World} {g:Nat} {fin m:Bool} {op:Int} {a b c d:Nat} {s:ByteArray} (h:W.heap[g]? = some (.cells #[.bool fin,.int .i64 op,.bool m,.int .u8 ((a:Nat):Int),.int .u8 ((b:Nat):Int),.int .u8 ((c:Nat):Int),.int .u8 ((d:Nat):Int),.string s] 61 (0,0))) (hs:s.size≤1000000) :
 Calls Tryz.prog 111 #[.pointer (some ⟨g,0,none⟩)] W fun e w'=>e=.returned (evV ⟨op,0,bytes s⟩)∧Sl (Below W.heap.size W w'):=by
 obtain ⟨W1,hW1⟩:∃ V,W.alloc (.cells #[.int .i64 0,.int .i64 0,.string {data:=#[]}] 52)=V:=⟨_,rfl⟩
 have HB:Below W.heap.size W W1:=by rw [← hW1];exact (Below.refl _ _).alloc (Nat.le_refl _) _
 have HN:W1.heap[W.heap.size]? = some (.cells #[.int .i64 0,.int .i64 0,.string {data:=#[]}] 52 (0,0)):=by rw [← hW1];exact alloc_new _ _ _ rfl
 have HNS:=Sl.mk HN
 have HBS:=Sl.mk HB
 have HI:=ev_info (cs:=#[.int .i64 op,.int .i64 0,.string s]) rfl
 unfold evV
 rw [strOf_bytes]
 have HF1:=below_key h HB
 have HGL:g<W.heap.size:=(Array.getElem?_eq_some_iff.1 h).1
 have HM:=Sl.mk hs
 clear h HN HB hs
 go_enter Tryz.func111,Tryz.ntmps111
 go_upto_region 1 with fail
 obtain ⟨Rw,hRw⟩:∃ R,W1.drew=R:=⟨_,rfl⟩
 have HBR:Below W1.heap.size W1 Rw:=by rw [← hRw];exact (Below.refl _ _).drew
 refine wp_region_noPanic ?_
 refine wp_region_held (S:=fun V=>V.heap[g]? = some (.cells #[.bool fin,.int .i64 op,.bool m,.int .u8 ((a:Nat):Int),.int .u8 ((b:Nat):Int),.int .u8 ((c:Nat):Int),.int .u8 ((d:Nat):Int),.string s] 61 (0,0))) (by kernel_rfl) ?_
 change wpAnyH _ _ _ _ _ _ _ _ W1.drew
 rw [hRw]
 clear hRw
 have HS0:=below_key HF1 HBR
 have C:=clone_any s Rw HM.out
 refine heldTake (d:=some 2) (op:=.fieldAddr 61 (Operand.tmp 0) 1) (g:=none) 0 ?v0 rfl (by kernel_rfl) (by kernel_rfl) (by kernel_rfl) (by kernel_rfl) ?y0 HS0 ?_
 case y0=>intro o' ho W hS;simp only [execOp,ho];go_simp;try rfl
 simp only [Act.put,List.setIfInBounds_toArray,List.set_cons_zero,List.set_cons_succ]
 refine heldTake (d:=some 3) (op:=.load 3 (Operand.tmp 2)) (g:=none) 1 ?v1 rfl (by kernel_rfl) (by kernel_rfl) (by kernel_rfl) (by kernel_rfl) ?y1 HS0 ?_
 case y1=>intro o' ho W hS;obtain ⟨_,hc,_,_,_,_,_,_⟩:=bx8 hS;simp only [execOp,ho];go_simp;try rfl
 simp only [Act.put,List.setIfInBounds_toArray,List.set_cons_zero,List.set_cons_succ]
 refine heldTake (d:=some 4) (op:=.fieldAddr 61 (Operand.tmp 0) 4) (g:=none) 2 ?v2 rfl (by kernel_rfl) (by kernel_rfl) (by kernel_rfl) (by kernel_rfl) ?y2 HS0 ?_
 case y2=>intro o' ho W hS;simp only [execOp,ho];go_simp;try rfl
 simp only [Act.put,List.setIfInBounds_toArray,List.set_cons_zero,List.set_cons_succ]
 refine heldTake (d:=some 5) (op:=.load 9 (Operand.tmp 4)) (g:=none) 3 ?v3 rfl (by kernel_rfl) (by kernel_rfl) (by kernel_rfl) (by kernel_rfl) ?y3 HS0 ?_
 case y3=>intro o' ho W hS;obtain ⟨_,_,_,_,_,_,_,hc⟩:=bx8 hS;simp only [execOp,ho];go_simp;try rfl
 simp only [Act.put,List.setIfInBounds_toArray,List.set_cons_zero,List.set_cons_succ]
 refine heldCall (d:=some 6) (op:=.call {callee:=Callee.value (Operand.func 59),args:=#[Operand.tmp 5],argTypes:=#[9]}) (g:=none) 4 59 #[.string s] rfl (by kernel_rfl) (by kernel_rfl) ?y4 ?_
 case y4=>intro o' ho;simp only [execOp,ho];go_simp;try rfl
 refine (C).mono ?_
 rintro e w2 ⟨rfl,HB2⟩
 have HS2:=below_key HS0 HB2.out
 refine ⟨_,rfl,HS2,?_⟩
 simp only [Act.put,List.setIfInBounds_toArray,List.set_cons_zero,List.set_cons_succ]
 refine heldTake (d:=some 7) (op:=.build 52 #[(0,Operand.tmp 3),(2,Operand.tmp 6)]) (g:=none) 5 ?v5 rfl (by kernel_rfl) (by kernel_rfl) (by kernel_rfl) (by kernel_rfl) ?y5 HS2 ?_
 case y5=>intro o' ho W hS;simp only [execOp,ho];go_simp;try rfl
 simp only [Act.put,List.setIfInBounds_toArray,List.set_cons_zero,List.set_cons_succ]
 have HBS2:Below W1.heap.size W1 w2:=HBR.trans (HB2.out.mono HBR.size)
 have HN2:=below_key HNS.out HBS2
 obtain ⟨w3,hw3⟩:∃ V,w2.setRow W.heap.size #[.int .i64 op,.int .i64 0,.string s]=V:=⟨_,rfl⟩
 have HB3:Sl (Below W.heap.size W w3):=⟨by rw [← hw3];exact below_setRow (HBS.out.trans (HBS2.mono HBS.out.size)) (Nat.le_refl _) _⟩
 have HN3:Sl (w3.heap[W.heap.size]? = some (.cells #[.int .i64 op,.int .i64 0,.string s] 52 (0,0))):=⟨by rw [← hw3];exact setRow_heap _ _ _ _ _ _ HN2⟩
 have HS3:w3.heap[g]? = some (.cells #[.bool fin,.int .i64 op,.bool m,.int .u8 ((a:Nat):Int),.int .u8 ((b:Nat):Int),.int .u8 ((c:Nat):Int),.int .u8 ((d:Nat):Int),.string s] 61 (0,0)):=by rw [← hw3,setRow_other _ _ _ _ (by omega)];exact HS2
 refine heldStore (d:=none) (op:=.store 52 (Operand.tmp 1) (Operand.tmp 7)) (g:=none) (t:=0) 6 w3 rfl (by kernel_rfl) (by kernel_rfl) ?y6 HS3 ?_
 case y6=>intro o' ho ht;rw [← hw3];exact store_ev ho (by rfl) (by rfl) HN2 rfl HI (ev_all _ _ _)
 simp only [Act.put]
 refine wpAnyH_done (by kernel_rfl) ?_ _
 refine NoPanic.normal ?_
 clear HF1 HGL HBR HS0 HS2 HB2 HBS2 HN2 hw3 HS3 C
 go_wp2
 refine bodyPost_ret (ret_ev rfl _ _ W.heap.size 52 _ (0,0) rfl HN3.out rfl) rfl ?_
 exact ⟨rfl,HB3⟩
end Go.Proofs.YtlahonjmfecikaaGreatDoor.Msg
set_option maxRecDepth 100000
namespace Go.Proofs.YtlahonjmfecikaaGreatDoor.Cut
open Go.RowKit MaskPlain Mas CutPlain
open FramePlain (Fr Fr0 form chk ctl zero4)
def cntI (size most:Int):Nat:=if size<0∨1048576<size∨most<1∨65536<most then 0 else cnt size.toNat most.toNat
theorem cntI_no {size most:Int} (h:size<0∨1048576<size∨most<1∨65536<most):cntI size most=0:=if_pos h
theorem cntI_yes {size most:Nat} (h1:size≤1048576) (h2:1≤most) (h3:most≤65536):cntI (size:Int) (most:Int)=cnt size most:=by
 unfold cntI;rw [if_neg (by omega)];rfl
set_option maxHeartbeats 1000000 in
theorem count_any (size most:Int) (w:World):Calls Tryz.prog 88 #[.int .i64 size,.int .i64 most] w fun e w'=>e=.returned (.int .i64 ((cntI size most:Nat):Int))∧w=w':=by
 by_cases hr:0≤size∧size≤1048576∧1≤most∧most≤65536
 ·obtain ⟨h1,h2,h3,h4⟩:=hr
  obtain ⟨s,rfl⟩:=Int.eq_ofNat_of_zero_le h1
  obtain ⟨m,rfl⟩:=Int.eq_ofNat_of_zero_le (show 0≤most by omega)
  have HC:Sl (cntI (s:Int) (m:Int)=cnt s m):=⟨cntI_yes (by omega) (by omega) (by omega)⟩
  obtain ⟨q,hq⟩:∃ q,(s+m-1) / m=q:=⟨_,rfl⟩
  have hq1:((s:Int)+(m:Int)-1).tdiv (m:Int)=(q:Int):=by
   rw [← hq,show (s:Int)+(m:Int)-1=((s+m-1:Nat):Int) from by omega]
   rfl
  have hqs:q≤s+m:=by rw [← hq];exact Nat.le_trans (Nat.div_le_self _ _) (by omega)
  have z1:IntKind.i64.wrap ((s:Int)+(m:Int))=(s:Int)+(m:Int):=by rw [IntKind.wrap_i64];omega
  have z2:IntKind.i64.wrap ((s:Int)+(m:Int)-1)=(s:Int)+(m:Int)-1:=by rw [IntKind.wrap_i64];omega
  have z3:IntKind.i64.wrap (q:Int)=(q:Int):=by rw [IntKind.wrap_i64];omega
  have a1:((s:Int)<0)=False:=eq_false (by omega)
  have a2:((s:Int)>1048576)=False:=eq_false (by omega)
  have a3:((m:Int)<1)=False:=eq_false (by omega)
  have a4:((m:Int)>65536)=False:=eq_false (by omega)
  have a5:((m:Int)==0)=false:=by simp;omega
  have a6:(m=0)=False:=eq_false (by omega)
  have HQ:Sl (cnt s m=if 1<q then q else 1):=⟨by
   have hm:1≤m:=by omega
   have h5:=(cnt_enough (size:=s) hm).1
   have e:cnt s m=if s=0 then 1 else q:=by unfold cnt;rw [hq]
   rw [e] at h5 ⊢
   by_cases h0:s=0
   ·rw [if_pos h0,if_neg]
    subst h0
    rw [← hq,Nat.zero_add,Nat.div_eq_of_lt (by omega)]
    omega
   ·rw [if_neg h0] at h5 ⊢
    split<;>omega⟩
  by_cases hb:1<q
  ·have b1:((1:Int)<(q:Int))=True:=eq_true (by omega)
   have b2:((q:Int)<1)=False:=eq_false (by omega)
   rw [if_pos hb] at HQ
   clear h1 h2 h3 h4 hq hqs hb
   go_enter Tryz.func88,Tryz.ntmps88
   go_wp2
   go_ret
   exact ⟨by rw [HC.out,HQ.out];rfl,rfl⟩
  ·rw [if_neg hb] at HQ
   have b1:((1:Int)<(q:Int))=False:=eq_false (by omega)
   clear h1 h2 h3 h4 hq hqs hb
   go_enter Tryz.func88,Tryz.ntmps88
   go_wp2
   go_ret
   exact ⟨by rw [HC.out,HQ.out];rfl,rfl⟩
 ·have HC:Sl (cntI size most=0):=⟨cntI_no (by omega)⟩
  by_cases h1:size<0
  ·have a1:(size<0)=True:=eq_true h1
   clear hr h1
   go_enter Tryz.func88,Tryz.ntmps88
   go_wp2
   go_ret
   exact ⟨by rw [HC.out];rfl,rfl⟩
  have a1:(size<0)=False:=eq_false h1
  by_cases h2:size>1048576
  ·have a2:(size>1048576)=True:=eq_true h2
   clear hr h1 h2
   go_enter Tryz.func88,Tryz.ntmps88
   go_wp2
   go_ret
   exact ⟨by rw [HC.out];rfl,rfl⟩
  have a2:(size>1048576)=False:=eq_false h2
  by_cases h3:most<1
  ·have a3:(most<1)=True:=eq_true h3
   clear hr h1 h2 h3
   go_enter Tryz.func88,Tryz.ntmps88
   go_wp2
   go_ret
   exact ⟨by rw [HC.out];rfl,rfl⟩
  have a3:(most<1)=False:=eq_false h3
  have a4:(most>65536)=True:=eq_true (by omega)
  clear hr h1 h2 h3
  go_enter Tryz.func88,Tryz.ntmps88
  go_wp2
  go_ret
  exact ⟨by rw [HC.out];rfl,rfl⟩
theorem count_ex (size most:Int) (n:Nat) (hn:cntI size most=n) (w:World):Calls Tryz.prog 88 #[.int .i64 size,.int .i64 most] w fun e w'=>e=.returned (.int .i64 (n:Int))∧w=w':=by
 subst hn;exact count_any size most w
theorem begins_any (op:Int) (r:Bool) (hr:decide (op=1∨op=2)=r) (w:World):Calls Tryz.prog 89 #[.int .i64 op] w fun e w'=>e=.returned (.bool r)∧w=w':=by
 by_cases h1:op=1
 ·obtain rfl:r=true:=by rw [← hr];exact decide_eq_true (.inl h1)
  subst h1
  clear hr
  go_enter Tryz.func89,Tryz.ntmps89
  go_wp2
  go_ret
  exact ⟨rfl,rfl⟩
 have q1:(op==1)=false:=by simp [h1]
 by_cases h2:op=2
 ·obtain rfl:r=true:=by rw [← hr];exact decide_eq_true (.inr h2)
  subst h2
  clear hr h1 q1
  go_enter Tryz.func89,Tryz.ntmps89
  go_wp2
  go_ret
  exact ⟨rfl,rfl⟩
 have q2:(op==2)=false:=by simp [h2]
 obtain rfl:r=false:=by rw [← hr];exact decide_eq_false (by omega)
 clear hr h1 h2
 go_enter Tryz.func89,Tryz.ntmps89
 go_wp2
 go_ret
 exact ⟨rfl,rfl⟩
end Go.Proofs.YtlahonjmfecikaaGreatDoor.Cut
set_option maxRecDepth 100000
namespace Go.Proofs.YtlahonjmfecikaaGreatDoor.Cut
open Go.RowKit MaskPlain Mas Fra Stm
open FramePlain (Fr Fr0 form chk ctl zero4)
def putL (cs:List Value):Nat→List Value→List Value
 | _,[]=>cs
 | o,v :: vs=>putL (cs.set o v) (o+1) vs
theorem setCells_row (g:Nat) (t:TypeId):∀ (vs:List Value) (o:Nat) (cs:List Value) (W:World),W.heap[g]? = some (.cells cs.toArray t (0,0))→(W.setCells g o vs).heap[g]? = some (.cells (putL cs o vs).toArray t (0,0))
 | [],_,_,_,h=>h
 | v :: vs,o,cs,W,h=>by
   have h1:=heap_setCell_same W g o _ t v h
   rw [show cs.toArray.setIfInBounds o v=(cs.set o v).toArray from by simp] at h1
   exact setCells_row g t vs (o+1) (cs.set o v) _ h1
theorem putL_app (a:List Value):∀ (vs:List Value) (b:List Value) (o:Nat),putL (a++b) (a.length+o) vs=a++putL b o vs
 | [],_,_=>rfl
 | v :: vs,b,o=>by
   simp only [putL]
   rw [List.set_append_right _ _ (by omega),show a.length+o-a.length=o from by omega,Nat.add_assoc]
   exact putL_app a vs (b.set o v) (o+1)
theorem cvs_put:∀ (fs:List Fr) (i:Nat) (f:Fr),i<fs.length→putL (cvs fs) (i*8) (cv f)=cvs (fs.set i f)
 | [],i,_,hi=>absurd hi (by simp)
 | g :: fs,0,f,_=>by
   rw [List.set_cons_zero,cvs_cons,cvs_cons]
   rfl
 | g :: fs,i+1,f,hi=>by
   rw [List.set_cons_succ,cvs_cons,cvs_cons,show (i+1)*8=(cv g).length+i*8 from by simp [cv];omega,putL_app,cvs_put fs i f (by simpa using hi)]
theorem cvs_set:∀ (fs:List Fr) (i j:Nat) (u:Value) (f:Fr),i<fs.length→j<8→cv f=(cv (fs.getD i Fr0)).set j u→(cvs fs).set (i*8+j) u=cvs (fs.set i f)
 | [],i,_,_,_,hi,_,_=>absurd hi (by simp)
 | g :: fs,0,j,u,f,_,hj,h=>by
   rw [List.set_cons_zero,cvs_cons,cvs_cons,Nat.zero_mul,Nat.zero_add,List.set_append_left _ _ (by simpa [cv] using hj),h]
   rfl
 | g :: fs,i+1,j,u,f,hi,hj,h=>by
   rw [List.set_cons_succ,cvs_cons,cvs_cons,List.set_append_right _ _ (by simp [cv];omega),show (i+1)*8+j-(cv g).length=i*8+j from by simp [cv];omega,
    cvs_set fs i j u f (by simpa using hi) hj (by simpa using h)]
def RowF (W:World) (g:Nat) (fs:List Fr):Prop:=W.heap[g]? = some (.cells (cvs fs).toArray 61 (0,0))
section
variable {W W':World} {g:Nat} {fs:List Fr}
theorem RowF.lt (h:RowF W g fs):g<W.heap.size:=(Array.getElem?_eq_some_iff.1 h).1
theorem RowF.below (h:RowF W g fs) (k:Below W.heap.size W W'):RowF W' g fs:=by
 unfold RowF;rw [k.block g h.lt];exact h
theorem RowF.grown {r:Option Nat} (h:RowF W g fs) (k:W.grownBy W' r) (hr:r≠some g):RowF W' g fs:=by
 unfold RowF;rw [k.block g h.lt (fun e=>hr e.symm)];exact h
theorem RowF.cell (h:RowF W g fs) {i j:Nat} (hi:i<fs.length) (hj:j<8):W.cell? ⟨g,i*8+j,none⟩=(cv (fs.getD i Fr0))[j]?:=by
 rw [cell_of_row _ _ _ _ _ _ h,List.getElem?_toArray,cvs_get fs i hi j hj]
theorem RowF.froz (h:RowF W g fs) (i:Nat):W.frozen? ⟨g,i,none⟩=false:=frozen_of_row _ _ _ _ _ h
theorem RowF.set (h:RowF W g fs) (i j:Nat) (u:Value) (f:Fr) (hi:i<fs.length) (hj:j<8) (hf:cv f=(cv (fs.getD i Fr0)).set j u):RowF (W.setCell ⟨g,i*8+j,none⟩ u) g (fs.set i f):=by
 have h1:=heap_setCell_same W g (i*8+j) _ 61 u h
 unfold RowF
 rw [h1,← cvs_set fs i j u f hi hj hf]
 simp
theorem RowF.put (h:RowF W g fs) (i:Nat) (f:Fr) (hi:i<fs.length):RowF (W.setCells g (i*8) (cv f)) g (fs.set i f):=by
 unfold RowF
 rw [← cvs_put fs i f hi]
 exact setCells_row g 61 (cv f) (i*8) (cvs fs) W h
theorem RowF.range (h:RowF W g fs) (i:Nat) (hi:i<fs.length):W.rangeAt g (i*8) (cv (fs.getD i Fr0)):=fun j u hu=>by
 have hj:j<8:=by have:=(List.getElem?_eq_some_iff.1 hu).1;simpa [cv] using this
 rw [h.cell hi hj];exact hu
theorem RowF.there (h:RowF W g fs) (i:Nat) (hi:i<fs.length):W.there g (i*8) 8:=fun j hj=>by
 refine ⟨?_,h.froz _⟩
 rw [h.cell hi hj]
 obtain ⟨u,hu⟩:=cv_some (fs.getD i Fr0) j hj
 rw [hu];rfl
theorem RowF.frs (h:RowF W g fs) {n cap:Nat} (hn:fs.length=n) (hc:n≤cap):FrsAt W (.slice (some ⟨g,0,none⟩) n cap) fs:=by
 subst hn
 refine ⟨_,cap,g,0,rfl,hc,fun _=>rfl,fun i hi j hj=>?_⟩
 rw [Nat.zero_add];exact h.cell hi hj
end
theorem FrsAt.range {W:World} {sb so n cap:Nat} {fs:List Fr} (h:FrsAt W (.slice (some ⟨sb,so,none⟩) n cap) fs) (i:Nat) (hi:i<fs.length):W.rangeAt sb (so+i*8) (cv (fs.getD i Fr0)):=fun j u hu=>by
 obtain ⟨a,cap',sb',so',he,_,h3,h4⟩:=h
 injection he with e1 e2 e3
 rw [h3 (by omega)] at e1
 injection e1 with e1
 injection e1 with e4 e5
 subst e4 e5
 have hj:j<8:=by have:=(List.getElem?_eq_some_iff.1 hu).1;simpa [cv] using this
 rw [h4 i hi j hj];exact hu
theorem cv0:cv Fr0=[.bool false,.int .i64 0,.bool false,.int .u8 0,.int .u8 0,.int .u8 0,.int .u8 0,.string ByteArray.empty]:=rfl
theorem made_list:∀ (n:Nat),madeCells (Value.agg #[.bool false,.int .i64 0,.bool false,.int .u8 0,.int .u8 0,.int .u8 0,.int .u8 0,.string ByteArray.empty]).cells (n*8)=(cvs (List.replicate n Fr0)).toArray:=fun n=>by
 apply Array.ext_getElem?
 intro i
 have h0:(cvs (List.replicate n Fr0)).toArray[i]? = (cvs (List.replicate n Fr0))[i]?:=by simp
 rw [h0]
 by_cases h:i<n*8
 ·have h1:i / 8<n:=by omega
  have h2:=cvs_get (List.replicate n Fr0) (i / 8) (by simpa using h1) (i % 8) (by omega)
  rw [show i / 8*8+i % 8=i from by omega] at h2
  have h3:(List.replicate n Fr0).getD (i / 8) Fr0=Fr0:=by simp [List.getD,h1]
  rw [h2,h3,cv0]
  simp [madeCells,Value.cells,h]
  have h8:i % 8<8:=Nat.mod_lt _ (by decide)
  generalize i % 8=k at h8 ⊢
  match k,h8 with
  | 0,_=>rfl
  | 1,_=>rfl
  | 2,_=>rfl
  | 3,_=>rfl
  | 4,_=>rfl
  | 5,_=>rfl
  | 6,_=>rfl
  | 7,_=>rfl
 ·rw [Array.getElem?_eq_none (by simp [madeCells];omega),List.getElem?_eq_none (by rw [cvs_length];simp;omega)]
theorem make_frs (X:Int) (n:Nat) (hX:X=(n:Int)) (hn:n≤2000000) (w:World) :
 ∃ V,(Instr.makeSlice 34 (.int .i64 X) (.int .i64 X)).run Tryz.prog w=.ok (.slice (some ⟨w.heap.size,0,none⟩) n n) V∧V=w.alloc (.cells (cvs (List.replicate n Fr0)).toArray 61):=by
 subst hX
 obtain ⟨i,hi,hz,h1,h2⟩:=info43
 have:=run_make (P:=Tryz.prog) w 34 61 i _ Tryz.underlying34 hi hz .i64 .i64 (n:Int) (n:Int) (by omega) (by omega) (by rw [h2];omega) (by omega)
 rw [h1] at this
 rw [show ((n:Int).toNat)=n from by omega,made_list] at this
 exact ⟨_,this,rfl⟩
theorem row_made (w:World) (n:Nat):RowF (w.alloc (.cells (cvs (List.replicate n Fr0)).toArray 61)) w.heap.size (List.replicate n Fr0):=alloc_new _ _ _ rfl
end Go.Proofs.YtlahonjmfecikaaGreatDoor.Cut
set_option maxRecDepth 100000
namespace Go.Proofs.YtlahonjmfecikaaGreatDoor.Cut
open Go.RowKit MaskPlain Mas Fra Stm CutPlain
open FramePlain (Fr Fr0 form chk ctl zero4)
theorem wpList_appV {P:Program} {ops:Array Oper} {rest:List Oper} {o:Oper} {a:Act} {Q:Exit→Act→World→Prop} {w:World} (hgd:o.guard=none) (s x:Operand) (t ty:TypeId)
 (ho:o.op=.call {callee:=.builtin .append,args:=#[s,x],argTypes:=#[t,t]}) (hty:o.type=ty) (v u v':Value) (w':World)
 (hs:a.eval s=v) (hx:a.eval x=u) (hrun:(Builtin.append_ #[t,t] ty #[v,u]).run P w=.ok v' w')
 (h:wpList P ops Q rest (a.put o.dst v') w'):wpList P ops Q (o :: rest) a w:=by
 refine wpList_plain hgd fun K hK=>?_
 unfold Oper.wp
 have hy:(execOp a.eval o).run P w=.ok (.value v') w':=by
  rw [← hty] at hrun
  simp [execOp,ho,resolve,invoke,builtin,hs,hx,hrun,Result.andThen]
 rw [hy,Oper.upon_value]
 exact hK _ _ h
structure Gath (w0 W:World) (q:Nat) (v:Value) (bs:List Nat):Prop where
 X:W.heap[q]? = some (.cells #[v] 49 (0,0))
 O:W.ownsRow w0.heap.size 5 1 v bs.length (u8s bs)
 B:w0.heap.size≤q
 L:Below w0.heap.size w0 W
theorem Gath.below {w0 W W':World} {q:Nat} {v:Value} {bs:List Nat} (h:Gath w0 W q v bs) (k:Below W.heap.size W W'):Gath w0 W' q v bs :=
 ⟨below_key h.X k,own_below h.O k,h.B,h.L.trans (k.mono h.L.size)⟩
theorem Gath.ne {w0 W:World} {q:Nat} {v:Value} {bs:List Nat} (h:Gath w0 W q v bs):v.ownBlock≠some q:=ownB_kind h.O h.X (by decide)
theorem Gath.up {w0 W:World} {q:Nat} {v:Value} {bs:List Nat} (h:Gath w0 W q v bs) {g:Nat} (hg:v.ownBlock=some g):w0.heap.size≤g:=by
 obtain ⟨_,h2⟩:=h.O
 rcases h2 with ⟨rfl,_⟩ | ⟨k,cap,cur,rfl,hk,_⟩
 ·cases hg
 ·have:k=g:=by simpa [Value.ownBlock] using hg
  omega
theorem Gath.slice {w0 W:World} {q:Nat} {v:Value} {bs:List Nat} (h:Gath w0 W q v bs):∃ a c,v=.slice a bs.length c:=by
 rcases h.O.2 with ⟨rfl,hz⟩ | ⟨g,cap,cur,rfl,_⟩
 ·rw [hz];exact ⟨_,_,rfl⟩
 ·exact ⟨_,_,rfl⟩
theorem own_grown {W W':World} {base n:Nat} {e:TypeId} {size:Nat} {v:Value} {xs:List Value} {r:Option Nat} (h:W.ownsRow base e size v n xs) (g:W.grownBy W' r) (hr:∀ k,r=some k→v.ownBlock≠some k):W'.ownsRow base e size v n xs:=by
 refine h.kept g ?_
 rcases h.2 with ⟨rfl,_⟩ | ⟨k,cap,cur,rfl,_⟩
 ·exact .inl rfl
 ·refine .inr (fun e=>?_)
  exact hr k e.symm (by simp [Value.ownBlock])
theorem Gath.add {w0 W:World} {q:Nat} {v:Value} {bs:List Nat} (h:Gath w0 W q v bs) {u:Value} {l:List Nat} (hu:SrcAt W u l) (hl:bs.length+l.length≤1000000) :
 ∃ v1 w1,(Builtin.append_ #[49,49] 49 #[v,u]).run Tryz.prog W=.ok v1 w1∧w1.frozen? ⟨q,0,none⟩=false∧w1.cell? ⟨q,0,none⟩=some v∧Gath w0 (w1.setCell ⟨q,0,none⟩ v1) q v1 (bs++l):=by
 obtain ⟨v1,w1,h1,h2,h3,h4⟩:=add_bs h.O hu hl h.L.size
 have hX:w1.heap[q]? = some (.cells #[v] 49 (0,0)):=by rw [h3.block q (Array.getElem?_eq_some_iff.1 h.X).1 (fun e=>h.ne e.symm)];exact h.X
 have hne:v1.ownBlock≠some q:=ownB_kind h2 hX (by decide)
 refine ⟨v1,w1,h1,free_of_one hX,cell_of_one hX,⟨one_setCell hX,own_grown h2 (grown_setCell _ _ _ _) (fun k hk=>by injection hk with hk;subst hk;exact hne),h.B,?_⟩⟩
 exact (h.L.grown h3 h.L.size (fun k hk=>h.up hk)).grown (grown_setCell _ _ _ _) (Nat.le_trans h.L.size h3.size) (fun k hk=>by injection hk with hk;rw [← hk];exact h.B)
theorem Gath.conv {w0 W:World} {q:Nat} {v:Value} {bs:List Nat} (h:Gath w0 W q v bs):(convert 49 9 v).run Tryz.prog W=.ok (.string (strOf bs)) W:=Msg.own_conv h.O
theorem Gath.cell {w0 W:World} {q:Nat} {v:Value} {bs:List Nat} (h:Gath w0 W q v bs):W.cell? ⟨q,0,none⟩=some v:=cell_of_one h.X
theorem Gath.froz {w0 W:World} {q:Nat} {v:Value} {bs:List Nat} (h:Gath w0 W q v bs):W.frozen? ⟨q,0,none⟩=false:=free_of_one h.X
end Go.Proofs.YtlahonjmfecikaaGreatDoor.Cut
set_option maxRecDepth 100000
namespace Go.Proofs.YtlahonjmfecikaaGreatDoor.Cut
open Go.RowKit MaskPlain Mas Fra Stm CutPlain
open FramePlain (Fr Fr0 form chk ctl zero4)
theorem fr_at {fs:List Fr} (hk:∀ f∈fs,FrOk f) (i:Nat) (hi:i<fs.length):∃ fin op m,∃ ka kb kc kd:Nat,∃ s,fs.getD i Fr0=(⟨fin,op,m,[ka,kb,kc,kd],bytes s⟩:Fr)∧(cv (fs.getD i Fr0)).toArray=#[.bool fin,.int .i64 op,.bool m,.int .u8 ((ka:Nat):Int),.int .u8 ((kb:Nat):Int),.int .u8 ((kc:Nat):Int),.int .u8 ((kd:Nat):Int),.string s]∧Small 256 [ka,kb,kc,kd]∧fs.getD i Fr0∈fs:=by
 have hm:fs.getD i Fr0∈fs:=by rw [List.getD_eq_getElem?_getD,List.getElem?_eq_getElem hi];exact List.getElem_mem _
 obtain ⟨fin,op,m,ka,kb,kc,kd,s,h1,h2,h3⟩:=fr_parts (hk _ hm)
 exact ⟨fin,op,m,ka,kb,kc,kd,s,h1,h2,h3,hm⟩
theorem fr_take (fs:List Fr) (i:Nat) (hi:i<fs.length):fs.take (i+1)=fs.take i++[fs.getD i Fr0]:=by
 rw [List.take_add_one,List.getElem?_eq_getElem hi,List.getD_eq_getElem?_getD,List.getElem?_eq_getElem hi];rfl
theorem laid_fv (W:World) (cs:Array Value):∃ V,(W.alloc (.cells #[.bool false,.int .i64 0,.bool false,.int .u8 0,.int .u8 0,.int .u8 0,.int .u8 0,.string {data:=#[]}] 61)).setRow W.heap.size cs=V∧Sl (Below W.heap.size W V)∧Sl (V.heap[W.heap.size]? = some (.cells cs 61 (0,0))) :=
 ⟨_,rfl,⟨laid_self W cs⟩,⟨setRow_heap _ _ _ _ _ _ (bx_new W _)⟩⟩
def Joins (fs:List Fr) (k:Nat):Prop:=∀ j,j<k→(fs.getD j Fr0).fin=decide (j+1=fs.length)∧(0<j→(fs.getD j Fr0).op=0)
theorem Joins.next {fs:List Fr} {k:Nat} (h:Joins fs k) (h1:(fs.getD k Fr0).fin=decide (k+1=fs.length)) (h2:0<k→(fs.getD k Fr0).op=0):Joins fs (k+1):=fun j hj=>by
 by_cases e:j<k
 ·exact h j e
 ·obtain rfl:j=k:=by omega
  exact ⟨h1,h2⟩
end Go.Proofs.YtlahonjmfecikaaGreatDoor.Cut
set_option maxRecDepth 100000
namespace Go.Proofs.YtlahonjmfecikaaGreatDoor.Cut
open Go.RowKit MaskPlain Mas Fra Stm CutPlain
open FramePlain (Fr Fr0 form chk ctl zero4)
theorem SrcN.from {W:World} {b:Nat} {a:Option Addr} {L cap r:Nat} {bs:List Nat} (h:SrcN W b (.slice a L cap) bs) (hr:r≤L) (hl:bs.length=L):SrcN W b (.slice (fromA a r cap) (L-r) (cap-r)) (bs.drop r):=by
 obtain ⟨a',c',sb,so,he,h1,h2,h4,h3⟩:=h
 injection he with e1 e2 e3
 subst e1 e3
 refine ⟨_,_,sb,so+r,by rw [List.length_drop,hl],by rw [List.length_drop];omega,fun hp=>?_,fun hp=>h4 (by rw [List.length_drop] at hp;omega),fun i hi=>?_⟩
 ·rw [List.length_drop] at hp
  unfold fromA
  rw [if_neg (by omega),h2 (by omega),Option.map_some,Addr.add_mid]
 ·rw [List.length_drop] at hi
  rw [Nat.add_assoc,h3 (r+i) (by omega)]
  congr 3
  rw [List.getD_eq_getElem?_getD,List.getD_eq_getElem?_getD,List.getElem?_drop]
theorem SrcAt.upto {W:World} {a:Option Addr} {L cap r c:Nat} {bs:List Nat} (h:SrcAt W (.slice a L cap) bs) (hr:r≤L) (hl:bs.length=L) (hc:r≤c):SrcAt W (.slice a r c) (bs.take r):=by
 obtain ⟨a',c',sb,so,he,h1,h2,h3⟩:=h
 injection he with e1 e2 e3
 subst e1 e3
 refine ⟨a,c,sb,so,by rw [List.length_take,hl,Nat.min_eq_left hr],by rw [List.length_take];omega,fun hp=>h2 (by rw [List.length_take] at hp;omega),fun i hi=>?_⟩
 rw [List.length_take] at hi
 rw [h3 i (by omega)]
 congr 3
 rw [List.getD_eq_getElem?_getD,List.getD_eq_getElem?_getD,List.getElem?_take_of_lt (by omega)]
theorem slice_end (V:World) (q o R c N o':Nat) (hN:N≤R) (ho:(if c=N then o else o+N)=o') :
 (Instr.slice 49 (.slice (some ⟨q,o,none⟩) R c) (some (.int .i64 (N:Int))) none none).run Tryz.prog V=.ok (.slice (some ⟨q,o',none⟩) (R-N) (c-N)) V:=by
 obtain ⟨i0,hi,hz0,hz1,hz2⟩:=info5'
 rw [run_slice_l (ht:=Tryz.underlying49) (h0:=by omega) (h1:=by omega)]
 subst ho
 simp [sizeOf,typeInfo,show Tryz.prog.elem 49=5 from rfl,hi,hz1,sliced]
 split<;>simp [Addr.add]
theorem slice_hm (V:World) (q o R c N:Nat) (hN:N≤c) :
 (Instr.slice 49 (.slice (some ⟨q,o,none⟩) R c) none (some (.int .i64 (N:Int))) (some (.int .i64 (N:Int)))).run Tryz.prog V=.ok (.slice (some ⟨q,o,none⟩) N N) V:=by
 obtain ⟨i0,hi,hz0,hz1,hz2⟩:=info5'
 rw [run_slice_hm (ht:=Tryz.underlying49) (h0:=by omega) (h2:=by omega) (h3:=by omega)]
 simp [sizeOf,typeInfo,show Tryz.prog.elem 49=5 from rfl,hi,hz1,sliced,Addr.add]
def part (n m k:Nat) (bs:List Nat):List Fr:=(List.range n).map fun j=>⟨false,0,false,zero4,if j<k then (bs.drop (j*m)).take m else []⟩
theorem part_length (n m k:Nat) (bs:List Nat):(part n m k bs).length=n:=by simp [part]
theorem part_get {n m k:Nat} {bs:List Nat} {i:Nat} (hi:i<n):(part n m k bs).getD i Fr0=⟨false,0,false,zero4,if i<k then (bs.drop (i*m)).take m else []⟩:=by
 simp [part,List.getD,hi]
theorem fr_ext {a b:List Fr} (hl:a.length=b.length) (h:∀ i,i<a.length→a.getD i Fr0=b.getD i Fr0):a=b:=by
 refine List.ext_getElem hl fun i h1 h2=>?_
 have:=h i h1
 rwa [List.getD_eq_getElem?_getD,List.getD_eq_getElem?_getD,List.getElem?_eq_getElem h1,List.getElem?_eq_getElem h2] at this
theorem set_get {l:List Fr} {i j:Nat} {f:Fr} (hi:i<l.length):(l.set i f).getD j Fr0=if j=i then f else l.getD j Fr0:=by
 rw [List.getD_eq_getElem?_getD,List.getElem?_set]
 by_cases h:i=j
 ·subst h;rw [if_pos rfl,if_pos hi,if_pos rfl];rfl
 ·rw [if_neg h,if_neg (fun e=>h e.symm),List.getD_eq_getElem?_getD]
theorem part_zero (n m:Nat) (bs:List Nat):List.replicate n Fr0=part n m 0 bs:=by
 refine fr_ext (by rw [part_length];simp) fun i hi=>?_
 have hi':i<n:=by simpa using hi
 rw [part_get hi',if_neg (Nat.not_lt_zero _)]
 simp [List.getD,hi',Fr0]
theorem part_set {n m k:Nat} {bs:List Nat} (hk:k<n):(part n m k bs).set k ⟨false,0,false,zero4,(bs.drop (k*m)).take m⟩=part n m (k+1) bs:=by
 refine fr_ext (by simp [part_length]) fun i hi=>?_
 have hi':i<n:=by simpa [part_length] using hi
 rw [set_get (by rw [part_length];exact hk),part_get hi',part_get hi']
 by_cases h:i=k
 ·subst h;rw [if_pos rfl,if_pos (by omega)]
 ·rw [if_neg h]
  by_cases h2:i<k
  ·rw [if_pos h2,if_pos (by omega)]
  ·rw [if_neg h2,if_neg (by omega)]
theorem part_end {n m:Nat} {bs:List Nat} (op:Int) (hm:1≤m) (hn:(frs m op bs).length=n) :
 ((part n m n bs).set 0 ⟨false,op,false,zero4,bs.take m⟩).set (n-1) ⟨true,if n-1=0 then op else 0,false,zero4,(bs.drop ((n-1)*m)).take m⟩=frs m op bs:=by
 have hp:=frs_pos m hm op bs
 refine fr_ext (by simp [part_length,hn]) fun i hi=>?_
 have hi':i<n:=by simpa [part_length] using hi
 rw [set_get (by simp [part_length];omega),set_get (by rw [part_length];omega),part_get hi',frs_get hm i op bs (by omega),hn]
 by_cases h:i=n-1
 ·subst h;rw [if_pos rfl,decide_eq_true (by omega)]
 ·rw [if_neg h,decide_eq_false (by omega)]
  by_cases h2:i=0
  ·subst h2;simp
  ·rw [if_neg h2,if_neg h2,if_pos hi']
theorem cv_data (f:Fr) (d:List Nat):cv {f with data:=d}=(cv f).set 7 (.string (strOf d)):=rfl
theorem frames_no (op:Int) (s:ByteArray) (most:Int) (w:World) (h:¬ (op=1∨op=2)∨cntI (s.size:Int) most=0) :
 Calls Tryz.prog 55 #[.int .i64 op,.string s,.int .i64 most] w fun e w'=>e=.returned (.tuple #[.slice none 0 0,.int .i64 130])∧w=w':=by
 obtain ⟨n,hn⟩:∃ n,cntI (s.size:Int) most=n:=⟨_,rfl⟩
 have hc:=fun W=>count_ex (s.size:Int) most n hn W
 obtain ⟨r,hr⟩:∃ r,decide (op=1∨op=2)=r:=⟨_,rfl⟩
 have hb:=fun W=>begins_any op r hr W
 rw [hn] at h
 clear hn
 cases r with
 | false =>
   clear h hr
   go_enter Tryz.func55,Tryz.ntmps55
   go_wp2_with fail
   refine (hc _).mono ?_
   rintro e w1 ⟨rfl,rfl⟩
   go_wp2_with fail
   refine (hb _).mono ?_
   rintro e w1 ⟨rfl,rfl⟩
   go_wp2
   go_ret2
   exact ⟨rfl,rfl⟩
 | true =>
   obtain rfl:n=0:=by
    rcases h with h | h
    ·exact absurd (of_decide_eq_true hr) h
    ·exact h
   clear h hr
   go_enter Tryz.func55,Tryz.ntmps55
   go_wp2_with fail
   refine (hc _).mono ?_
   rintro e w1 ⟨rfl,rfl⟩
   go_wp2_with fail
   refine (hb _).mono ?_
   rintro e w1 ⟨rfl,rfl⟩
   go_wp2
   go_ret2
   exact ⟨rfl,rfl⟩
set_option maxHeartbeats 8000000 in
theorem frames_yes (op:Int) (s:ByteArray) (m n:Nat) (w:World) (ho:op=1∨op=2) (hs:s.size≤1048576) (hm:1≤m∧m≤65536) (hn:(frs m op (bytes s)).length=n) :
 Calls Tryz.prog 55 #[.int .i64 op,.string s,.int .i64 (m:Int)] w fun e w'=>∃ g,e=.returned (.tuple #[.slice (some ⟨g,0,none⟩) n n,.int .i64 0])∧Sl (RowF w' g (frs m op (bytes s)))∧w.heap.size≤g∧Sl (Below w.heap.size w w'):=by
 have hcn:cnt s.size m=n:=by rw [← hn,frs_length hm.1 _ op (bytes s) (Nat.le_refl _),bytes_length]
 obtain ⟨hn1,hn2,hn3,hn4⟩:=cnt_enough (size:=s.size) hm.1
 rw [hcn] at hn1 hn2 hn3 hn4
 have hc:=fun W=>count_ex (s.size:Int) (m:Int) n (by rw [cntI_yes hs hm.1 hm.2,hcn]) W
 have hb:=fun W=>begins_any op true (decide_eq_true ho) W
 have hq0:((n:Int)==0)=false:=by simp;omega
 obtain ⟨V1,hmk,hV1⟩:=make_frs (n:Int) n rfl (by omega) w
 obtain ⟨g,hg⟩:∃ g,w.heap.size=g:=⟨_,rfl⟩
 have HR1:Sl (RowF V1 g (part n m 0 (bytes s))):=⟨by rw [hV1,← part_zero,← hg];exact row_made w n⟩
 have HB1:Sl (Below g w V1):=⟨by rw [hV1,← hg];exact (Below.refl _ _).alloc (Nat.le_refl _) _⟩
 have HG1:Sl (g<V1.heap.size):=⟨HR1.out.lt⟩
 obtain ⟨cap0,W2,hcv,HS2,HX2⟩:=conv_str s V1
 have HB2:Sl (Below g w W2):=⟨HB1.out.trans (HX2.out.mono (Nat.le_of_lt HG1.out))⟩
 have HR2:Sl (RowF W2 g (part n m 0 (bytes s))):=⟨HR1.out.below HX2.out⟩
 have HN2:Sl (SrcN W2 g (.slice (some ⟨V1.heap.size,0,none⟩) s.size cap0) (bytes s)):=⟨SrcAt.offs HS2.out HG1.out⟩
 have HFR:=Sl.mk hn
 have HM:=Sl.mk hm
 have HLN:Sl (s.size≤n*m∧(n=1∨(n-1)*m<s.size)):=⟨hn2,hn3⟩
 rw [hg] at hmk
 obtain ⟨bs,hbs⟩:∃ bs,bytes s=bs:=⟨_,rfl⟩
 obtain ⟨L,hL⟩:∃ L,s.size=L:=⟨_,rfl⟩
 have HBL:Sl (bs.length=L):=⟨by rw [← hbs,← hL,bytes_length]⟩
 have z1:IntKind.i64.wrap ((n:Int)-1)=((n-1:Nat):Int):=by rw [IntKind.wrap_i64];omega
 rw [hbs] at HR1 HR2 HN2 HFR HS2 ⊢
 rw [hL] at hcv HS2 HN2 HLN hc hs
 have HN1:=Sl.mk hn1
 have HS0:=Sl.mk hs
 have hmm:m≤9223372036854775807:=by omega
 have hnn:n≤9223372036854775807:=by omega
 clear hn hm ho hcn hn1 hn2 hn3 hn4 hV1 hbs HR1 HB1 HG1 HX2 hs HS2
 go_enter Tryz.func55,Tryz.ntmps55
 go_wp2_with fail
 refine (hc _).mono ?_
 rintro e w1 ⟨rfl,rfl⟩
 go_wp2_with fail
 refine (hb _).mono ?_
 rintro e w1 ⟨rfl,rfl⟩
 go_wp2
 clear hc hb hmk hcv
 obtain ⟨q,hq⟩:∃ q,V1.heap.size=q:=⟨_,rfl⟩
 rw [hq] at HN2
 have HCAP:Sl (L≤cap0):=⟨by obtain ⟨_,_,_,_,he,h2,_⟩:=HN2.out;injection he with _ _ e3;rw [HBL.out] at h2;omega⟩
 (try rw [hq])
 clear hq
 go_loopw [10,31] (fun u i wr=>∃ (k o c R:Nat),u=.slice (some ⟨q,o,none⟩) R c∧i=.int .i64 (k:Int)∧k≤n∧R≤c∧Sl (R=L-k*m)∧Sl (RowF wr g (part n m k bs))∧Sl (SrcN wr g (.slice (some ⟨q,o,none⟩) R c) (bs.drop (k*m)))∧Sl (Below g w wr)) (fun _ i _=>n-(intOf i).toNat)
 case atStart=>exact ⟨0,0,cap0,L,rfl,rfl,Nat.zero_le _,HCAP.out,⟨by omega⟩,HR2,⟨by rw [Nat.zero_mul,List.drop_zero];exact HN2.out⟩,HB2⟩
 case round =>
  obtain ⟨k,o,c,R,rfl,rfl,hk,hRc,HRR,HRW,HSN,HBW⟩:=hrel
  have HGL:Sl (g≤wr.heap.size):=⟨Nat.le_of_lt HRW.out.lt⟩
  have HRL:Sl ((bs.drop (k*m)).length=R):=⟨by rw [List.length_drop,HBL.out,HRR.out]⟩
  by_cases hkn:k<n
  ·have hlt:((k:Int)<(n:Int))=True:=eq_true (by omega)
   have c7:wr.cell? ⟨g,k*8+7,none⟩=some (.string (strOf [])):=by
    rw [HRW.out.cell (by rw [part_length];exact hkn) (by decide),part_get hkn,if_neg (Nat.lt_irrefl _)];rfl
   have f7:=HRW.out.froz (k*8+7)
   have hRm:R≤9223372036854775807:=by have:=HRR.out;have:=HS0.out;omega
   by_cases hb:R<m
   ·have hbb:((R:Int)<(m:Int))=True:=eq_true (by omega)
    have hbb2:((m:Int)<(R:Int))=False:=eq_false (by omega)
    obtain ⟨o',ho'⟩:∃ o',(if c=R then o else o+R)=o':=⟨_,rfl⟩
    have hsl:=fun V=>slice_end V q o R c R o' (by omega) ho'
    have hs3:=fun V=>slice_hm V q o R c R (by omega)
    obtain ⟨T,hT⟩:∃ T,strOf ((bs.drop (k*m)).take R)=T:=⟨_,rfl⟩
    have hcv2:(convert 49 9 (.slice (some ⟨q,o,none⟩) R R)).run Tryz.prog wr=.ok (.string T) wr:=by
     rw [← hT];exact SrcAt.conv (SrcAt.upto (Utf.SrcN.any HSN.out) (by omega) HRL.out (Nat.le_refl _))
    obtain ⟨X,hX⟩:∃ V,wr.setCell ⟨g,k*8+7,none⟩ (.string T)=V:=⟨_,rfl⟩
    have hgr:wr.grownBy X (some g):=by rw [← hX];exact grown_setCell _ _ _ _
    have HRX:Sl (RowF X g (part n m (k+1) bs)):=⟨by
     rw [← part_set hkn,← (show (bs.drop (k*m)).take R=(bs.drop (k*m)).take m from by rw [List.take_of_length_le (by rw [HRL.out];exact Nat.le_refl _),List.take_of_length_le (by rw [HRL.out];omega)])]
     rw [← hX,← hT]
     exact HRW.out.set k 7 _ _ (by rw [part_length];exact hkn) (by decide) (by rw [part_get hkn,if_neg (Nat.lt_irrefl _)];rfl)⟩
    have HBX:Sl (Below g w X):=⟨HBW.out.grown hgr HGL.out (fun j hj=>by injection hj with hj;rw [← hj];exact Nat.le_refl _)⟩
    have HSX:Sl (SrcN X g (.slice (some ⟨q,o',none⟩) (0) (c-R)) (bs.drop ((k+1)*m))):=⟨by
     have h1:=SrcN.from (Utf.SrcN.grown HSN.out hgr) (r:=R) (by omega) HRL.out
     have h2:fromA (some ⟨q,o,none⟩) R c=some ⟨q,o',none⟩:=by
      unfold fromA
      rw [← ho']
      split<;>simp [Addr.add]
     rw [h2,List.drop_drop] at h1
     rw [Nat.sub_self] at h1
     rw [show bs.drop ((k+1)*m)=bs.drop (k*m+R) from by rw [List.drop_eq_nil_of_le (by rw [HBL.out,Nat.succ_mul];have:=HRR.out;omega),List.drop_eq_nil_of_le (by rw [HBL.out];have:=HRR.out;omega)]]
     exact h1⟩
    have HRE:Sl (0=L-(k+1)*m):=⟨by rw [Nat.succ_mul];have:=HRR.out;omega⟩
    have hle:0≤c-R:=by omega
    clear hT ho' hgr
    go_upto_region 12 with fail
    (try rw [hX])
    clear hX c7 f7 hcv2
    go_wp2
    exact ⟨⟨k+1,o',c-R,0,rfl,by go_num,by omega,hle,HRE,HRX,HSX,HBX⟩,by simp [intOf];omega⟩
   ·have hbb:((R:Int)<(m:Int))=False:=eq_false (by omega)
    have hbb2:((m:Int)≤(R:Int)):=by omega
    obtain ⟨o',ho'⟩:∃ o',(if c=m then o else o+m)=o':=⟨_,rfl⟩
    have hsl:=fun V=>slice_end V q o R c m o' (by omega) ho'
    have hs3:=fun V=>slice_hm V q o R c m (by omega)
    obtain ⟨T,hT⟩:∃ T,strOf ((bs.drop (k*m)).take m)=T:=⟨_,rfl⟩
    have hcv2:(convert 49 9 (.slice (some ⟨q,o,none⟩) m m)).run Tryz.prog wr=.ok (.string T) wr:=by
     rw [← hT];exact SrcAt.conv (SrcAt.upto (Utf.SrcN.any HSN.out) (by omega) HRL.out (Nat.le_refl _))
    obtain ⟨X,hX⟩:∃ V,wr.setCell ⟨g,k*8+7,none⟩ (.string T)=V:=⟨_,rfl⟩
    have hgr:wr.grownBy X (some g):=by rw [← hX];exact grown_setCell _ _ _ _
    have HRX:Sl (RowF X g (part n m (k+1) bs)):=⟨by
     rw [← part_set hkn]
     rw [← hX,← hT]
     exact HRW.out.set k 7 _ _ (by rw [part_length];exact hkn) (by decide) (by rw [part_get hkn,if_neg (Nat.lt_irrefl _)];rfl)⟩
    have HBX:Sl (Below g w X):=⟨HBW.out.grown hgr HGL.out (fun j hj=>by injection hj with hj;rw [← hj];exact Nat.le_refl _)⟩
    have HSX:Sl (SrcN X g (.slice (some ⟨q,o',none⟩) (R-m) (c-m)) (bs.drop ((k+1)*m))):=⟨by
     have h1:=SrcN.from (Utf.SrcN.grown HSN.out hgr) (r:=m) (by omega) HRL.out
     have h2:fromA (some ⟨q,o,none⟩) m c=some ⟨q,o',none⟩:=by
      unfold fromA
      rw [← ho']
      split<;>simp [Addr.add]
     rw [h2,List.drop_drop] at h1
     rw [Nat.succ_mul]
     exact h1⟩
    have HRE:Sl (R-m=L-(k+1)*m):=⟨by rw [Nat.succ_mul];have:=HRR.out;omega⟩
    have hle:R-m≤c-m:=by omega
    clear hT ho' hgr
    go_upto_region 12 with fail
    (try rw [hX])
    clear hX c7 f7 hcv2
    go_wp2
    exact ⟨⟨k+1,o',c-m,R-m,rfl,by go_num,by omega,hle,HRE,HRX,HSX,HBX⟩,by simp [intOf];omega⟩
  ·obtain rfl:k=n:=by omega
   have hlt:((k:Int)<(k:Int))=False:=eq_false (by omega)
   have h1k:1≤k:=HN1.out
   have c1:wr.cell? ⟨g,1,none⟩=some (.int .i64 0):=by
    have:=HRW.out.cell (i:=0) (j:=1) (by rw [part_length];omega) (by decide)
    rw [part_get (by omega)] at this
    exact this
   have f1:=HRW.out.froz 1
   obtain ⟨X,hX⟩:∃ V,wr.setCell ⟨g,1,none⟩ (.int .i64 op)=V:=⟨_,rfl⟩
   have hR1:RowF X g ((part k m k bs).set 0 ⟨false,op,false,zero4,bs.take m⟩):=by
    have h:=HRW.out.set 0 1 (.int .i64 op) ⟨false,op,false,zero4,bs.take m⟩ (by rw [part_length];omega) (by decide) (by rw [part_get (by omega),if_pos (by omega),Nat.zero_mul,List.drop_zero];rfl)
    rw [← hX];exact h
   have hget:((part k m k bs).set 0 ⟨false,op,false,zero4,bs.take m⟩).getD (k-1) Fr0=⟨false,if k-1=0 then op else 0,false,zero4,(bs.drop ((k-1)*m)).take m⟩:=by
    rw [set_get (by rw [part_length];omega)]
    by_cases h:k-1=0
    ·rw [if_pos h,if_pos h,h,Nat.zero_mul,List.drop_zero]
    ·rw [if_neg h,if_neg h,part_get (by omega),if_pos (by omega)]
   have c2:X.cell? ⟨g,(k-1)*8,none⟩=some (.bool false):=by
    have:=hR1.cell (i:=k-1) (j:=0) (by rw [List.length_set,part_length];omega) (by decide)
    rw [hget] at this
    exact this
   have f2:=hR1.froz ((k-1)*8)
   obtain ⟨Y,hY⟩:∃ V,X.setCell ⟨g,(k-1)*8,none⟩ (.bool true)=V:=⟨_,rfl⟩
   have HRY:Sl (RowF Y g (frs m op bs)):=⟨by
    have h:=hR1.set (k-1) 0 (.bool true) ⟨true,if k-1=0 then op else 0,false,zero4,(bs.drop ((k-1)*m)).take m⟩ (by rw [List.length_set,part_length];omega) (by decide) (by rw [hget];rfl)
    rw [part_end op HM.out.1 HFR.out] at h
    rw [← hY];exact h⟩
   have HBY:Sl (Below g w Y):=⟨by
    have h1:Below g w X:=HBW.out.grown (row:=some g) (by rw [← hX];exact grown_setCell _ _ _ _) HGL.out (fun j hj=>by injection hj with hj;rw [← hj];exact Nat.le_refl _)
    exact h1.grown (row:=some g) (by rw [← hY];exact grown_setCell _ _ _ _) (Nat.le_of_lt hR1.lt) (fun j hj=>by injection hj with hj;rw [← hj];exact Nat.le_refl _)⟩
   clear hR1 hget
   go_upto_region 15 with fail
   (try rw [hX])
   go_upto_region 16 with fail
   (try rw [hY])
   clear hX hY c1 f1 c2 f2
   go_wp2
   go_ret2
   exact ⟨g,rfl,HRY,Nat.le_of_eq hg,⟨by rw [hg];exact HBY.out⟩⟩
end Go.Proofs.YtlahonjmfecikaaGreatDoor.Cut
set_option maxRecDepth 100000
namespace Go.Proofs.YtlahonjmfecikaaGreatDoor.Cut
open Go.RowKit MaskPlain Mas Fra Stm CutPlain
open FramePlain (Fr Fr0 form chk ctl zero4)
def U32At (W:World) (v:Value) (ds:List Nat):Prop :=
 ∃ (a:Option Addr) (cap sb so:Nat),v=.slice a ds.length cap∧ds.length≤cap∧(0<ds.length→a=some ⟨sb,so,none⟩)∧∀ i,i<ds.length→W.cell? ⟨sb,so+i,none⟩=some (.int .u32 ((ds.getD i 0:Nat):Int))
theorem U32At.below {w w':World} {v:Value} {ds:List Nat} (h:U32At w v ds) (hb:Below w.heap.size w w'):U32At w' v ds:=by
 obtain ⟨a,cap,sb,so,h0,h1,h3,h5⟩:=h
 exact ⟨a,cap,sb,so,h0,h1,h3,fun i hi=>by rw [hb.cell (p:=⟨sb,so+i,none⟩) (block_lt_of_cell (h5 i hi))];exact h5 i hi⟩
theorem U32At.slice {w:World} {v:Value} {ds:List Nat} (h:U32At w v ds):∃ a c,v=.slice a ds.length c:=by
 obtain ⟨a,c,_,_,h,_⟩:=h;exact ⟨a,c,h⟩
theorem U32At.cap {w:World} {a:Option Addr} {n cap:Nat} {ds:List Nat} (h:U32At w (.slice a n cap) ds) (hp:0<n):∃ sb so,a=some ⟨sb,so,none⟩∧∀ i,i<n→w.cell? ⟨sb,so+i,none⟩=some (.int .u32 ((ds.getD i 0:Nat):Int)):=by
 obtain ⟨a',c',sb,so,he,_,h3,h5⟩:=h
 injection he with e1 e2 e3
 subst e1 e2
 exact ⟨sb,so,h3 hp,h5⟩
theorem rekeyed {W:World} {b:Nat} {fin m m':Bool} {op:Int} {ka kb kc kd:Nat} {s:ByteArray} (x0 x1 x2 x3:Int) (h:W.heap[b]? = some (.cells #[.bool fin,.int .i64 op,.bool m,.int .u8 ((ka:Nat):Int),.int .u8 ((kb:Nat):Int),.int .u8 ((kc:Nat):Int),.int .u8 ((kd:Nat):Int),.string s] 61 (0,0))) :
 ((W.setCell ⟨b,2,none⟩ (.bool m')).setCells b 3 [.int .u8 x0,.int .u8 x1,.int .u8 x2,.int .u8 x3]).heap[b]? = some (.cells #[.bool fin,.int .i64 op,.bool m',.int .u8 x0,.int .u8 x1,.int .u8 x2,.int .u8 x3,.string s] 61 (0,0))∧W.grownBy ((W.setCell ⟨b,2,none⟩ (.bool m')).setCells b 3 [.int .u8 x0,.int .u8 x1,.int .u8 x2,.int .u8 x3]) (some b):=by
 refine ⟨?_,grown_trans (grown_setCell _ _ _ _) (grown_setCells b _ 3 _)⟩
 simp only [World.setCells]
 rw [heap_setCell_same _ _ _ _ _ _ (heap_setCell_same _ _ _ _ _ _ (heap_setCell_same _ _ _ _ _ _ (heap_setCell_same _ _ _ _ _ _ (heap_setCell_same _ _ _ _ _ _ h))))]
 rfl
def K4 (d:Nat):List Nat:=be d 4
def item (fs:List Fr) (ds:List Nat) (j:Nat):Fr:=⟨(fs.getD j Fr0).fin,(fs.getD j Fr0).op,true,K4 (ds.getD j 0),(fs.getD j Fr0).data⟩
def mp (fs:List Fr) (ds:List Nat) (n k:Nat):List Fr:=(List.range n).map fun j=>if j<k then item fs ds j else Fr0
end Go.Proofs.YtlahonjmfecikaaGreatDoor.Cut
set_option maxRecDepth 100000
namespace Go.Proofs.YtlahonjmfecikaaGreatDoor.Cut
open Go.RowKit MaskPlain Mas Fra Stm CutPlain
open FramePlain (Fr Fr0 form chk ctl zero4)
theorem size_le (f:Fr):FramePlain.size f≤14+f.data.length:=by
 unfold FramePlain.size
 split<;>split<;>(try split)<;>omega
end Go.Proofs.YtlahonjmfecikaaGreatDoor.Cut
set_option maxRecDepth 100000
namespace Go.Proofs.YtlahonjmfecikaaGreatDoor.Cut
open Go.RowKit MaskPlain Mas Fra Stm CutPlain
open FramePlain (Fr Fr0 form chk ctl zero4)
end Go.Proofs.YtlahonjmfecikaaGreatDoor.Cut
set_option maxRecDepth 100000
namespace Go.Proofs.YtlahonjmfecikaaGreatDoor.Msg
open Go.RowKit UtfPlain MsgPlain Fra Utf Cls
open FramePlain (Fr form chk ctl zero4)
open ClosePlain (getC)
structure Went (w0 W w':World) (b:Nat) (most:Int) (r:Ms×Option Ev) (v p v' p' tv:Value):Prop where
 mac:∃ op text o,Mac w0 w' b most op text o 0 r.1.over v' p'∧(r.1.err=0→op=r.1.op∧text=r.1.text∧o=chkS r.1.op r.1.text)
 goes:Goes W w' b v p v' p'
 tell:r.1.err=0→Tell w' tv r.2
theorem wiped {w0 W W2:World} {b:Nat} {most op:Int} {text:List Nat} {o:Option St} {err err':Nat} {over over':Bool} {v p:Value} (h:Mac w0 W b most op text o err over v p) (g:W.grownBy W2 (some b))
 (hX:W2.heap[b]? = some (.cells #[.int .i64 most,.int .i64 op,v,p,.int .i64 (err':Int),.bool over'] 124 (0,0))) :
 Mac w0 (((W2.setCell ⟨b,1,none⟩ (.int .i64 0)).setCell ⟨b,2,none⟩ (.slice none 0 0)).setCell ⟨b,3,none⟩ (.pointer none)) b most 0 [] (some s0) err' over' (.slice none 0 0) (.pointer none) ∧
 Goes W (((W2.setCell ⟨b,1,none⟩ (.int .i64 0)).setCell ⟨b,2,none⟩ (.slice none 0 0)).setCell ⟨b,3,none⟩ (.pointer none)) b v p (.slice none 0 0) (.pointer none) ∧
 W.grownBy (((W2.setCell ⟨b,1,none⟩ (.int .i64 0)).setCell ⟨b,2,none⟩ (.slice none 0 0)).setCell ⟨b,3,none⟩ (.pointer none)) (some b):=by
 have g3:=grown_trans g (grown_trans (grown_trans (grown_setCell W2 b 1 (.int .i64 0)) (grown_setCell _ b 2 (.slice none 0 0))) (grown_setCell _ b 3 (.pointer none)))
 obtain ⟨h1,h2⟩:=h.write g3 (op':=0) (text':=[]) (o':=some s0) (err':=err') (over':=over') (v':=.slice none 0 0) (p':=.pointer none) (by
  rw [heap_setCell_same _ _ _ _ _ _ (heap_setCell_same _ _ _ _ _ _ (heap_setCell_same _ _ _ _ _ _ hX))]
  rfl) (.inr ⟨rfl,rfl,rfl,rfl,okO0⟩)
 exact ⟨h1,h2,g3⟩
theorem Went.before {w0 W V w':World} {b:Nat} {most:Int} {r:Ms×Option Ev} {v p v' p' tv:Value} (h:Went w0 V w' b most r v p v' p' tv) (hb:Below W.heap.size W V):Went w0 W w' b most r v p v' p' tv :=
 ⟨h.mac,(Goes.below b v p hb).trans h.goes,h.tell⟩
def ended (c:Int×List Nat×Nat):Ms×Option Ev:=if c.2.2=0 then (done,some ⟨8,c.1,c.2.1⟩) else (bad c.2.2,none)
section
variable {w0 W:World} {b:Nat} {most op:Int} {text:List Nat} {o:Option St} {v p:Value}
theorem two_boxes (w:World) (n:Int) (t:ByteArray):∃ V,(((w.alloc (.cells #[.int .i64 0] 3)).alloc (.cells #[.string {data:=#[]}] 9)).setCell ⟨w.heap.size,0,none⟩ (.int .i64 n)).setCell ⟨(w.alloc (.cells #[.int .i64 0] 3)).heap.size,0,none⟩ (.string t)=V∧Sl (Below w.heap.size w V) ∧
 Sl (V.heap[w.heap.size]? = some (.cells #[.int .i64 n] 3 (0,0)))∧Sl (V.heap[(w.alloc (.cells #[.int .i64 0] 3)).heap.size]? = some (.cells #[.string t] 9 (0,0))):=by
 obtain ⟨a,ha⟩:∃ V,w.alloc (.cells #[.int .i64 0] 3)=V:=⟨_,rfl⟩
 obtain ⟨q,hq⟩:∃ q,a.heap.size=q:=⟨_,rfl⟩
 have hs:q=w.heap.size+1:=by rw [← hq,← ha];exact alloc_size _ _
 have h1:(a.alloc (.cells #[.string {data:=#[]}] 9)).heap[w.heap.size]? = some (.cells #[.int .i64 0] 3 (0,0)):=by rw [alloc_old _ _ _ (by omega),← ha];exact alloc_new _ _ _ rfl
 have h2:(a.alloc (.cells #[.string {data:=#[]}] 9)).heap[q]? = some (.cells #[.string {data:=#[]}] 9 (0,0)):=alloc_new _ _ _ hq.symm
 have hB:Below w.heap.size w (a.alloc (.cells #[.string {data:=#[]}] 9)):=by rw [← ha];exact ((Below.refl _ _).alloc (Nat.le_refl _) _).alloc (by rw [alloc_size];omega) _
 refine ⟨_,rfl,⟨?_⟩,⟨?_⟩,⟨?_⟩⟩
 ·rw [ha,hq]
  exact (hB.setCell (Nat.le_refl _) _).setCell (by show w.heap.size≤q;omega) _
 ·rw [ha,hq,heap_setCell_other _ _ _ _ (by show w.heap.size≠q;omega),heap_setCell_same _ _ _ _ _ _ h1]
  rfl
 ·rw [ha,hq,heap_setCell_same _ _ _ _ _ _ (show _=some (Obj.cells #[.string {data:=#[]}] 9 (0,0)) by rw [heap_setCell_other _ _ _ _ (by show q≠w.heap.size;omega)];exact h2)]
  rfl
theorem end_any (h:Mac w0 W b most op text o 0 false v p) (hg:Utf.Globs w0) (s:ByteArray) (hs:s.size≤1000000) :
 Calls Tryz.prog 112 #[.pointer (some ⟨b,0,none⟩),.string s] W fun e w'=>∃ v' p' tv,e=.returned (.tuple #[tv,.int .i64 ((ended (getC (bytes s))).1.err:Int)])∧Sl (Went w0 W w' b most (ended (getC (bytes s))) v p v' p' tv):=by
 obtain ⟨n,t,k,hget⟩:=get_str s
 have C:=get_any s W (hg.below h.L hg.size) hs
 rw [hget] at C ⊢
 unfold gotV at C
 simp only [strOf_bytes] at C
 have HM:=Sl.mk h
 clear hget hg hs h
 obtain ⟨r,hr⟩:∃ r,ended (n,bytes t,k)=r:=⟨_,rfl⟩
 rw [hr]
 have HR:=Sl.mk hr
 clear hr
 go_enter Tryz.func112,Tryz.ntmps112
 go_wp2_with fail
 refine C.mono ?_
 rintro e w1 ⟨rfl,HB1⟩
 clear C
 have HM1:=Sl.mk (HM.out.below HB1.out)
 obtain ⟨wd,hwd,HB2,HG2,HQ2⟩:=two_boxes w1 n t
 obtain ⟨wa,hwa⟩:∃ V,w1.alloc (.cells #[.int .i64 0] 3)=V:=⟨_,rfl⟩
 obtain ⟨wb,hwb⟩:∃ V,wa.alloc (.cells #[.string {data:=#[]}] 9)=V:=⟨_,rfl⟩
 rw [hwa,hwb] at hwd
 rw [hwa] at HQ2
 have hq1:wa.heap.size=w1.heap.size+1:=by rw [← hwa];exact alloc_size _ _
 have hb1:wb.heap[w1.heap.size]? = some (.cells #[.int .i64 0] 3 (0,0)):=by rw [← hwb,alloc_old _ _ _ (by omega),← hwa];exact alloc_new _ _ _ rfl
 have hb2:wb.heap[wa.heap.size]? = some (.cells #[.string {data:=#[]}] 9 (0,0)):=by rw [← hwb];exact alloc_new _ _ _ rfl
 have HM2:=Sl.mk (HM1.out.below HB2.out)
 have HQ1:=Sl.mk hq1
 have e1:=cell_of_one hb1
 have e2:=cell_of_one hb2
 have f1:wb.frozen? ⟨w1.heap.size,0,none⟩=false:=frozen_of_row _ _ _ _ _ hb1
 have f2:wb.frozen? ⟨wa.heap.size,0,none⟩=false:=frozen_of_row _ _ _ _ _ hb2
 have hne:w1.heap.size≠wa.heap.size:=by omega
 obtain ⟨wc,hwc⟩:∃ V,wb.setCell ⟨w1.heap.size,0,none⟩ (.int .i64 n)=V:=⟨_,rfl⟩
 rw [hwc] at hwd
 have e3:wc.cell? ⟨wa.heap.size,0,none⟩=some (.string {data:=#[]}):=by rw [← hwc,World.cell?_setCell_other (h:=fun e=>hne (by injection e))];exact e2
 have f3:wc.frozen? ⟨wa.heap.size,0,none⟩=false:=by rw [← hwc,World.frozen?_setCell];exact f2
 clear hb1 hb2 hq1 e2 f2
 go_upto_region 2 with fail
 clear e1 f1 e3 f3 hwd hwc hwa hwb hne
 by_cases hk:k=0
 ·subst hk
  have HE:r=(done,some ⟨8,n,bytes t⟩):=by rw [← HR.out];exact if_pos rfl
  have HES:=Sl.mk HE
  clear HE
  go_upto_region 4 with fail
  obtain ⟨_,d1,d2,d3,_,d5⟩:=HM2.out.cells
  have g1:=HM2.out.froz 1
  have g2:=HM2.out.froz 2
  have g3:=HM2.out.froz 3
  have g5:=HM2.out.froz 5
  go_wp2
  go_ret2
  have hX5:(wd.setCell ⟨b,5,none⟩ (.bool true)).heap[b]? = some (.cells #[.int .i64 most,.int .i64 op,v,p,.int .i64 ((0:Nat):Int),.bool true] 124 (0,0)):=by
   rw [heap_setCell_same _ _ _ _ _ _ HM2.out.X];rfl
  obtain ⟨hm,hgo,hgr⟩:=wiped HM2.out (grown_setCell _ _ _ _) hX5
  have hlt:=HM.out.lt
  have hle:=HB1.out.size
  have h1:=HG2.out
  have h2:=HQ2.out
  have hl1:=(Array.getElem?_eq_some_iff.1 h1).1
  have hl2:=(Array.getElem?_eq_some_iff.1 h2).1
  have hq:=HQ1.out
  have HE:=HES.out
  subst HE
  refine ⟨_,_,_,rfl,⟨⟨_,_,_,hm,fun _=>⟨rfl,rfl,rfl⟩⟩,(Goes.below b v p (HB1.out.trans (HB2.out.mono hle))).trans hgo,fun _=>⟨_,_,rfl,fun args V=>by kernel_rfl,tend_any ?_ ?_⟩⟩⟩
  ·rw [hgr.block _ hl1 (fun e=>by injection e with e;omega)];exact h1
  ·rw [hgr.block _ hl2 (fun e=>by injection e with e;omega)];exact h2
 ·have hkq:((k:Int) != 0)=true:=by simpa using hk
  have HE:r=(bad k,none):=by rw [← HR.out];exact if_neg hk
  have HES:=Sl.mk HE
  clear HE
  have HKE:=Sl.mk hk
  clear hk
  go_wp2
  go_ret2
  have HE:=HES.out
  subst HE
  refine ⟨_,_,_,rfl,⟨⟨_,_,_,HM2.out,fun h=>absurd h HKE.out⟩,Goes.below b v p (HB1.out.trans (HB2.out.mono HB1.out.size)),fun h=>absurd h HKE.out⟩⟩
end
end Go.Proofs.YtlahonjmfecikaaGreatDoor.Msg
set_option maxRecDepth 100000
namespace Go.Proofs.YtlahonjmfecikaaGreatDoor.Msg
open Go.RowKit UtfPlain MsgPlain Fra Utf Cls
open FramePlain (Fr form chk ctl zero4)
open ClosePlain (getC)
theorem msg_info {cs:Array Value} (h:cs.size=3):(Tryz.prog.info? 122).map (·.size)=some cs.size:=by rw [h];kernel_rfl
theorem msg_all (a:Int) (x:Option Addr) (n k:Nat) (y:Option Addr):(#[.int .i64 a,.slice x n k,.pointer y]:Array Value).all (·.oneCell')=true:=by simp [Value.oneCell']
theorem mac_begin {w0 W W2:World} {b c:Nat} {most op op':Int} {text:List Nat} {o:Option St} {err:Nat} {over:Bool} {v p:Value} (h:Mac w0 W b most op text o err over v p) (hB:Below W.heap.size W W2) (hc:W.heap.size≤c) (hx:ChkO W2 c (some s0)) (h0:op'≠0) :
 Mac w0 (W2.setCells b 1 [.int .i64 op',.slice none 0 0,.pointer (some ⟨c,0,none⟩)]) b most op' [] (some s0) err over (.slice none 0 0) (.pointer (some ⟨c,0,none⟩)) ∧
 Goes W (W2.setCells b 1 [.int .i64 op',.slice none 0 0,.pointer (some ⟨c,0,none⟩)]) b v p (.slice none 0 0) (.pointer (some ⟨c,0,none⟩)):=by
 have h2:=h.below hB
 have g:W2.grownBy (W2.setCells b 1 [.int .i64 op',.slice none 0 0,.pointer (some ⟨c,0,none⟩)]) (some b):=grown_setCells b _ 1 W2
 have hlt:=h.lt
 refine ⟨⟨?_,World.ownsRow_nil _ _ _ _,fun _=>⟨c,rfl,by have:=h.L.size;omega,chk_grown hx g (by omega)⟩,fun e=>absurd e h0,okO0,h.B,h2.L.grown g h2.L.size (fun k hk=>by injection hk with hk;rw [← hk];exact h.B)⟩,?_⟩
 ·simp only [World.setCells]
  rw [heap_setCell_same _ _ _ _ _ _ (heap_setCell_same _ _ _ _ _ _ (heap_setCell_same _ _ _ _ _ _ h2.X))]
  rfl
 ·refine ⟨Kept.trans (S:=Mine b v p) (.below hB) (.grown (S:=fun k=>k=b) g (fun k hk=>by injection hk with hk;exact hk.symm)) (fun j _ e=>.inl e),fun k hk=>?_⟩
  rcases hk with hk | hk | hk
  ·exact .inl (.inl hk)
  ·cases hk
  ·injection hk with hk
   injection hk with hk
   injection hk with hk
   exact .inr (by omega)
theorem mac_there {w0 W:World} {b:Nat} {most op:Int} {text:List Nat} {o:Option St} {err:Nat} {over:Bool} {v p:Value} (h:Mac w0 W b most op text o err over v p):W.there b 1 3:=by
 obtain ⟨_,h1,h2,h3,_,_⟩:=h.cells
 intro j hj
 match j,hj with
 | 0,_=>exact ⟨by rw [h1];rfl,h.froz 1⟩
 | 1,_=>exact ⟨by rw [h2];rfl,h.froz 2⟩
 | 2,_=>exact ⟨by rw [h3];rfl,h.froz 3⟩
theorem store_msg {W:World} {ev:Operand→Value} {o:Oper} {x y:Operand} {b i:Nat} {cells:Array Value} (ho:o.op=.store 122 x y) (hx:ev x=.pointer (some ⟨b,i,none⟩)) (hy:ev y=.agg cells) (ht:W.there b i 3) (hs:cells.size=3) (h1:cells.all (·.oneCell')=true) :
 (execOp ev o).run Tryz.prog W=.ok .skip (W.setCells b i cells.toList):=by
 unfold execOp
 simp only [ho,hx,hy,Sem.run_bind,Sem.run_pure,Result.andThen_ok,run_storeAt_mid (P:=Tryz.prog) W b i 122 cells (by rw [hs];exact ht) (msg_info hs) h1]
theorem chkS_nil (op:Int):chkS op []=some s0:=by unfold chkS;split<;>rfl
theorem chkS_add (op:Int) (t bs:List Nat):addO op (chkS op t) bs=chkS op (t++bs):=by
 unfold addO chkS
 by_cases h:op=1
 ·rw [if_pos h,if_pos h,if_pos h];exact (uend_append t bs s0).symm
 ·rw [if_neg h,if_neg h,if_neg h]
theorem chkS_ok (op:Int) (fin:Bool) (t bs:List Nat):addR op (chkS op t) fin bs=okT op fin (t++bs):=by
 unfold addR okT
 by_cases h:op=1
 ·rw [if_pos h,decide_eq_true h,Bool.true_and]
  have e:en (chkS op t) bs=uend s0 (t++bs):=by
   have:=chkS_add op t bs
   unfold addO at this
   rw [if_pos h] at this
   rw [this];unfold chkS;rw [if_pos h]
  rw [e]
  have hi:=uend_iff (t++bs) s0
  have hl:=uright_le (t++bs) s0
  cases fin with
  | true =>
    rw [if_pos rfl,Bool.true_and]
    show decide (uend s0 (t++bs)=some s0)=!(decide (uright s0 (t++bs)<(t++bs).length)||!decide (uend s0 (t++bs)=some s0))
    by_cases hw:uend s0 (t++bs)=some s0
    ·have h2:uright s0 (t++bs)=(t++bs).length:=hi.1 (by rw [hw];rfl)
     rw [decide_eq_true hw,decide_eq_false (by omega)];rfl
    ·rw [decide_eq_false hw];simp
  | false =>
    rw [if_neg (by decide),Bool.false_and,Bool.or_false]
    by_cases hw:(uend s0 (t++bs)).isSome=true
    ·rw [hw,decide_eq_false (by have:=hi.1 hw;omega)];rfl
    ·have h2:uright s0 (t++bs)≠(t++bs).length:=fun e=>hw (hi.2 e)
     rw [decide_eq_true (by omega)]
     simpa using hw
 ·rw [if_neg h,decide_eq_false h];rfl
def mored (most:Int) (st:Ms) (fin:Bool) (op:Int) (bs:List Nat):Ms×Option Ev :=
 if decide (op=0)≠st.begun then (bad 120,none) else more most fin (if st.begun then st.op else op) (st.text++bs)
section
variable {w0 W:World} {b:Nat} {most:Int} {st:Ms} {v p:Value}
set_option maxHeartbeats 2000000 in
theorem more_any (h:MacS w0 W b most st v p) (he:st.err=0) (hov:st.over=false) (hg:Utf.Globs w0) (fin:Bool) (op:Int) (m:Bool) (ka kb kc kd:Nat) (s:ByteArray) (hop:0≤op∧op≤2) (hs:s.size≤100000) :
 Calls Tryz.prog 113 #[.pointer (some ⟨b,0,none⟩),(.agg #[.bool fin,.int .i64 op,.bool m,.int .u8 ((ka:Nat):Int),.int .u8 ((kb:Nat):Int),.int .u8 ((kc:Nat):Int),.int .u8 ((kd:Nat):Int),.string s])] W fun e w'=>∃ v' p' tv,e=.returned (.tuple #[tv,.int .i64 ((mored most st fin op (bytes s)).1.err:Int)])∧Sl (Went w0 W w' b most (mored most st fin op (bytes s)) v p v' p' tv):=by
 obtain ⟨r,hr⟩:∃ r,mored most st fin op (bytes s)=r:=⟨_,rfl⟩
 rw [hr]
 have hm:=h.m
 rw [he,hov] at hm
 have hbg:(st.begun=false∧st.op=0∧st.text=[])∨(st.begun=true∧st.op≠0):=by
  cases hb:st.begun with
  | false=>exact .inl ⟨rfl,(h.f.idle hb).2,(h.f.idle hb).1⟩
  | true=>exact .inr ⟨rfl,by rcases h.f.op hb with e | e<;>rw [e]<;>decide⟩
 have hlen:=h.len
 have hlo:=h.lo
 have hhi:=h.hi
 obtain ⟨W1,hW1⟩:∃ V,W.alloc (.cells #[.bool fin,.int .i64 op,.bool m,.int .u8 ((ka:Nat):Int),.int .u8 ((kb:Nat):Int),.int .u8 ((kc:Nat):Int),.int .u8 ((kd:Nat):Int),.string s] 61)=V:=⟨_,rfl⟩
 have HB1:Sl (Below W.heap.size W W1):=⟨by rw [← hW1];exact (Below.refl _ _).alloc (Nat.le_refl _) _⟩
 have HF1:Sl (W1.heap[W.heap.size]? = some (.cells #[.bool fin,.int .i64 op,.bool m,.int .u8 ((ka:Nat):Int),.int .u8 ((kb:Nat):Int),.int .u8 ((kc:Nat):Int),.int .u8 ((kd:Nat):Int),.string s] 61 (0,0))):=⟨by rw [← hW1];exact alloc_new _ _ _ rfl⟩
 have HNG:Sl (∀ k,Mine b v p k→k<W.heap.size):=⟨fun k hk=>(hm.own hk).2⟩
 have HM1:=Sl.mk (hm.below HB1.out)
 obtain ⟨g,hgs⟩:∃ g,W.heap.size=g:=⟨_,rfl⟩
 have HGS:=Sl.mk hgs
 rw [hgs] at HF1
 have HR:=Sl.mk hr
 have HG:=Sl.mk hg
 have HS:=Sl.mk hs
 have HOP:=Sl.mk hop
 have HLEN:Sl (st.text.length≤1048576):=⟨hlen⟩
 have HLO:=Sl.mk hlo
 have HHI:=Sl.mk hhi
 have HBG:=Sl.mk hbg
 clear hr hg hs hop hlen hlo hhi hm h he hov hbg
 obtain ⟨_,m1,_,_,_,_⟩:=HM1.out.cells
 obtain ⟨_,f1,_,_,_,_,_,_⟩:=bx8 HF1.out
 rcases HBG.out with ⟨hb,ho,ht⟩ | ⟨hb,ho⟩
 ·rw [ho] at m1
  by_cases h0:op=0
  ·subst h0
   have HES:Sl (r=(bad 120,none)):=⟨by
    rw [← HR.out]
    show (if decide ((0:Int)=0)≠st.begun then _ else _)=_
    rw [hb]
    rfl
   ⟩
   go_enter Tryz.func113,Tryz.ntmps113
   go_upto_region 1 with fail
   go_still (by kernel_rfl)
   have HD:Below W1.heap.size W1 W1.drew:=(Below.refl _ _).drew
   go_wp2
   go_ret2
   have HE:=HES.out
   subst HE
   exact ⟨_,_,_,rfl,⟨⟨_,_,_,HM1.out.below HD,fun e=>absurd e (by decide)⟩,Goes.below b _ p (HB1.out.trans (HD.mono HB1.out.size)),fun e=>absurd e (by decide)⟩⟩
  ·have q2:(op != 0)=true:=by simpa using h0
   have HRV:Sl (mored most st fin op (bytes s)=more most fin op ([]++bytes s)):=⟨by
    show (if decide (op=0)≠st.begun then _ else _)=_
    rw [hb,ht,decide_eq_false h0]
    rfl
   ⟩
   have HON:Sl (op≠0):=⟨h0⟩
   obtain ⟨n,hn⟩:∃ n,st.text.length=n:=⟨_,rfl⟩
   have hn8:n≤1048576:=by have:=HLEN.out;omega
   obtain ⟨a0,k0,hv0⟩:=HM1.out.slice
   rw [hn] at hv0
   subst hv0
   obtain ⟨c0,_,c2,_,_,_⟩:=HM1.out.cells
   obtain ⟨_,_,_,_,_,_,_,f7⟩:=bx8 HF1.out
   obtain ⟨d,hd⟩:∃ d:Int,most-(n:Int)=d:=⟨_,rfl⟩
   have hl1:=HLO.out
   have hl2:=HHI.out
   have z1:IntKind.i64.wrap (most-(n:Int))=d:=by rw [IntKind.wrap_i64];omega
   have z2:wrap64 (most-(n:Int))=d:=by unfold wrap64;omega
   have HTL:Sl (([]:List Nat).length≤2000000):=⟨by decide⟩
   have hll:((([]++bytes s:List Nat).length:Nat):Int)=0+s.size:=by rw [List.length_append,bytes_length];simp
   have hn0:n=0:=by rw [← hn,ht];rfl
   by_cases hlong:most<((([]++bytes s:List Nat).length:Nat):Int)
   ·have q3:((s.size:Int)>d)=True:=eq_true (by omega)
    have HES:Sl (r=(bad 121,none)):=⟨by
     rw [← HR.out]
     rw [HRV.out,more,if_pos hlong]
    ⟩
    clear hlong hll hn hn8 hl1 hl2 hd hn0
    have c0d:W1.drew.cell? ⟨b,0,none⟩=some (.int .i64 most):=c0
    have c2d:W1.drew.cell? ⟨b,2,none⟩=some (.slice a0 n k0):=c2
    have f7d:W1.drew.cell? ⟨g,7,none⟩=some (.string s):=f7
    go_enter Tryz.func113,Tryz.ntmps113
    go_upto_region 1 with fail
    go_still (by kernel_rfl)
    obtain ⟨R1,hR1⟩:∃ R,W1.drew=R:=⟨_,rfl⟩
    have HR1:Below W1.heap.size W1 R1:=by rw [← hR1];exact (Below.refl _ _).drew
    change Exit.then _ _ Exit.normal _ W1.drew
    rw [hR1] at c0d c2d f7d ⊢
    clear hR1
    go_upto_region 4 with fail
    go_still (by kernel_rfl)
    change Exit.then _ _ Exit.normal _ R1.drew
    have HD:Below W1.heap.size W1 R1.drew:=HR1.drew
    go_wp2
    go_ret2
    have HE:=HES.out
    subst HE
    exact ⟨_,_,_,rfl,⟨⟨_,_,_,HM1.out.below HD,fun e=>absurd e (by decide)⟩,Goes.below b _ p (HB1.out.trans (HD.mono HB1.out.size)),fun e=>absurd e (by decide)⟩⟩
   ·have q3:((s.size:Int)>d)=False:=eq_false (by omega)
    have HLG:=Sl.mk (Int.not_lt.1 hlong)
    have HRR:Sl (r=more most fin op ([]++bytes s)):=⟨by rw [← HR.out,HRV.out]⟩
    clear hlong hll hn hn8 hl1 hl2 hd hn0
    have c0d:W1.drew.cell? ⟨b,0,none⟩=some (.int .i64 most):=c0
    have c2d:W1.drew.cell? ⟨b,2,none⟩=some (.slice a0 n k0):=c2
    have f7d:W1.drew.cell? ⟨g,7,none⟩=some (.string s):=f7
    go_enter Tryz.func113,Tryz.ntmps113
    go_upto_region 1 with fail
    go_still (by kernel_rfl)
    obtain ⟨R1,hR1⟩:∃ R,W1.drew=R:=⟨_,rfl⟩
    have HR1:Below W1.heap.size W1 R1:=by rw [← hR1];exact (Below.refl _ _).drew
    change Exit.then _ _ Exit.normal _ W1.drew
    rw [hR1] at c0d c2d f7d ⊢
    clear hR1
    go_upto_region 4 with fail
    go_still (by kernel_rfl)
    change Exit.then _ _ Exit.normal _ R1.drew
    have HV:Sl (Below W1.heap.size W1 R1.drew):=⟨HR1.drew⟩
    clear HR1 c0d c2d f7d
    go_upto_region 7 with fail
    obtain ⟨Rw,hRw⟩:∃ R,R1.drew.drew=R:=⟨_,rfl⟩
    have HBR:Below R1.drew.heap.size R1.drew Rw:=by rw [← hRw];exact (Below.refl _ _).drew
    refine wp_region_noPanic ?_
    refine wp_region_held (S:=fun V=>V.heap[g]? = some (.cells #[.bool fin,.int .i64 op,.bool m,.int .u8 ((ka:Nat):Int),.int .u8 ((kb:Nat):Int),.int .u8 ((kc:Nat):Int),.int .u8 ((kd:Nat):Int),.string s] 61 (0,0))) (by kernel_rfl) ?_
    change wpAnyH _ _ _ _ _ _ _ _ R1.drew.drew
    rw [hRw]
    clear hRw
    have HBR2:Below W1.heap.size W1 Rw:=HV.out.trans (HBR.mono HV.out.size)
    have HS0:=below_key HF1.out HBR2
    have HMR:=HM1.out.below HBR2
    have C:=Utf.new_any Rw
    refine heldTake (d:=some 37) (op:=.move (Operand.tmp 0)) (g:=none) 0 ?v0 rfl (by kernel_rfl) (by kernel_rfl) (by kernel_rfl) (by kernel_rfl) ?y0 HS0 ?_
    case y0=>intro o' ho W hS;simp only [execOp,ho];go_simp;try rfl
    simp only [Act.put,List.setIfInBounds_toArray,List.set_cons_zero,List.set_cons_succ]
    refine heldTake (d:=some 38) (op:=.fieldAddr 61 (Operand.tmp 3) 1) (g:=none) 1 ?v1 rfl (by kernel_rfl) (by kernel_rfl) (by kernel_rfl) (by kernel_rfl) ?y1 HS0 ?_
    case y1=>intro o' ho W hS;simp only [execOp,ho];go_simp;try rfl
    simp only [Act.put,List.setIfInBounds_toArray,List.set_cons_zero,List.set_cons_succ]
    refine heldTake (d:=some 39) (op:=.load 3 (Operand.tmp 38)) (g:=none) 2 ?v2 rfl (by kernel_rfl) (by kernel_rfl) (by kernel_rfl) (by kernel_rfl) ?y2 HS0 ?_
    case y2=>intro o' ho W hS;obtain ⟨_,hc,_,_,_,_,_,_⟩:=bx8 hS;simp only [execOp,ho];go_simp;try rfl
    simp only [Act.put,List.setIfInBounds_toArray,List.set_cons_zero,List.set_cons_succ]
    refine heldCall (d:=some 40) (op:=.call {callee:=Callee.value (Operand.func 141),args:=#[],argTypes:=#[]}) (g:=none) 3 141 #[] rfl (by kernel_rfl) (by kernel_rfl) ?y3 ?_
    case y3=>intro o' ho;simp only [execOp,ho];go_simp;try rfl
    refine (C).mono ?_
    rintro e w4 ⟨rfl,hw4⟩
    have HB4:Below Rw.heap.size Rw w4:=by rw [hw4];exact (Below.refl _ _).alloc (Nat.le_refl _) _
    have HX4:ChkO w4 Rw.heap.size (some s0):=by rw [hw4];exact chk_new _
    have HS4:=below_key HS0 HB4
    refine ⟨_,rfl,HS4,?_⟩
    simp only [Act.put,List.setIfInBounds_toArray,List.set_cons_zero,List.set_cons_succ]
    refine heldTake (d:=some 41) (op:=.build 122 #[(0,Operand.tmp 39),(2,Operand.tmp 40)]) (g:=none) 4 ?v4 rfl (by kernel_rfl) (by kernel_rfl) (by kernel_rfl) (by kernel_rfl) ?y4 HS4 ?_
    case y4=>intro o' ho W hS;simp only [execOp,ho];go_simp;try rfl
    simp only [Act.put,List.setIfInBounds_toArray,List.set_cons_zero,List.set_cons_succ]
    refine heldTake (d:=some 42) (op:=.nilCheck (Operand.tmp 37)) (g:=none) 5 ?v5 rfl (by kernel_rfl) (by kernel_rfl) (by kernel_rfl) (by kernel_rfl) ?y5 HS4 ?_
    case y5=>intro o' ho W hS;simp only [execOp,ho];go_simp;try rfl
    simp only [Act.put,List.setIfInBounds_toArray,List.set_cons_zero,List.set_cons_succ]
    refine heldTake (d:=some 43) (op:=.fieldAddr 124 (Operand.tmp 42) 1) (g:=none) 6 ?v6 rfl (by kernel_rfl) (by kernel_rfl) (by kernel_rfl) (by kernel_rfl) ?y6 HS4 ?_
    case y6=>intro o' ho W hS;simp only [execOp,ho];go_simp;try rfl
    simp only [Act.put,List.setIfInBounds_toArray,List.set_cons_zero,List.set_cons_succ]
    obtain ⟨hm5,hg5⟩:=mac_begin HMR HB4 (Nat.le_refl _) HX4 HON.out
    obtain ⟨W5,hW5⟩:∃ V,w4.setCells b 1 [.int .i64 op,.slice none 0 0,.pointer (some ⟨Rw.heap.size,0,none⟩)]=V:=⟨_,rfl⟩
    rw [hW5] at hm5 hg5
    rw [← chkS_nil op] at hm5
    have ht4:=mac_there (HMR.below HB4)
    have hbg:b≠g:=by have h1:=HNG.out b (.inl rfl);have h2:=HGS.out;omega
    have HFV:Sl (W5.heap[g]? = some (.cells #[.bool fin,.int .i64 op,.bool m,.int .u8 ((ka:Nat):Int),.int .u8 ((kb:Nat):Int),.int .u8 ((kc:Nat):Int),.int .u8 ((kd:Nat):Int),.string s] 61 (0,0))):=⟨by
     rw [← hW5,(grown_setCells b _ 1 w4).block g (Array.getElem?_eq_some_iff.1 HS4).1 (fun e=>hbg (by injection e with e;exact e.symm))]
     exact HS4⟩
    refine heldStore (d:=none) (op:=.store 122 (Operand.tmp 43) (Operand.tmp 41)) (g:=none) (t:=0) 7 W5 rfl (by kernel_rfl) (by kernel_rfl) ?y7 HFV.out ?_
    case y7=>intro o' ho ht;rw [← hW5];exact store_msg ho (by rfl) (by rfl) ht4 rfl (msg_all _ _ _ _ _)
    simp only [Act.put]
    refine wpAnyH_done (by kernel_rfl) ?_ _
    refine NoPanic.normal ?_
    have HMV:=Sl.mk hm5
    have HGV:=Sl.mk ((Goes.below b (.slice a0 n k0) p HBR2).trans hg5)
    obtain ⟨pc,hpc⟩:∃ pc,Rw.heap.size=pc:=⟨_,rfl⟩
    rw [hpc] at HMV HGV
    clear hm5 hg5 hW5 ht4 hbg HS4 HX4 HB4 hw4 C HMR HS0 HBR2 HBR
    go_upto_region 8 with fail
    obtain ⟨f50,_,_,_,_,_,_,f57⟩:=bx8 HFV.out
    go_still_tail 7,(by kernel_rfl)
    change wpList _ _ _ _ _ W5.drew
    clear f50 f57
    have HD8:Below W5.heap.size W5 W5.drew:=(Below.refl _ _).drew
    have HM8:=HMV.out.below HD8
    have HG8:=HGV.out.trans (Goes.below b _ _ HD8)
    have hF8:W5.drew.heap[g]? = some (.cells #[.bool fin,.int .i64 op,.bool m,.int .u8 ((ka:Nat):Int),.int .u8 ((kb:Nat):Int),.int .u8 ((kc:Nat):Int),.int .u8 ((kd:Nat):Int),.string s] 61 (0,0)):=HFV.out
    have CA:=add_any HM8 HON.out HG.out s fin HS.out HTL.out _ (chkS_ok op fin [] (bytes s))
    have HN8:Sl (¬ Mine b _ _ g):=⟨fun e=>by
     have h1:=HNG.out g
     rcases HG8.mine g e with h2 | h2
     ·have:=h1 h2
      have:=HGS.out
      omega
     ·have:=(Array.getElem?_eq_some_iff.1 HF1.out).1
      omega⟩
    have HGs8:=Sl.mk HG8
    have HFs8:=Sl.mk hF8
    clear HM8 HG8 hF8 HD8
    go_wp2_with fail
    refine CA.mono ?_
    rintro e w6 ⟨v6,rfl,HM6,HG6⟩
    clear CA
    have HF6:Sl (w6.heap[g]? = some (.cells #[.bool fin,.int .i64 op,.bool m,.int .u8 ((ka:Nat):Int),.int .u8 ((kb:Nat):Int),.int .u8 ((kc:Nat):Int),.int .u8 ((kd:Nat):Int),.string s] 61 (0,0))):=⟨by rw [HG6.out.kept.block g (Array.getElem?_eq_some_iff.1 HFs8.out).1 HN8.out];exact HFs8.out⟩
    have HGA:=Sl.mk ((Goes.below b _ _ HB1.out).trans (HGs8.out.trans HG6.out))
    obtain ⟨k,hk⟩:∃ k,okT op fin ([]++bytes s)=k:=⟨_,rfl⟩
    have HK:=Sl.mk hk
    obtain ⟨f0,_,_,_,_,_,_,_⟩:=bx8 HF6.out
    rw [hk]
    clear hk HG6 HGs8 HFs8 HN8
    cases k with
    | false =>
      have HES:Sl (r=(bad 122,none)):=⟨by
       rw [HRR.out,more,if_neg (Int.not_lt.2 HLG.out),if_pos HK.out]⟩
      go_wp2
      go_ret2
      have HE:=HES.out
      subst HE
      exact ⟨_,_,_,rfl,⟨⟨_,_,_,HM6.out,fun e=>absurd e (by decide)⟩,HGA.out,fun e=>absurd e (by decide)⟩⟩
    | true =>
      cases fin with
      | false =>
        have HES:Sl (r=(⟨0,false,true,op,[]++bytes s⟩,none)):=⟨by
         rw [HRR.out,more,if_neg (Int.not_lt.2 HLG.out),if_neg (by rw [HK.out];decide),if_neg (by decide)]⟩
        go_wp2
        go_ret2
        have HE:=HES.out
        subst HE
        exact ⟨_,_,_,rfl,⟨⟨_,_,_,HM6.out,fun _=>⟨rfl,rfl,chkS_add _ _ _⟩⟩,HGA.out,fun _=>rfl⟩⟩
      | true =>
        have HES:Sl (r=(M0,some ⟨op,0,[]++bytes s⟩)):=⟨by
         rw [HRR.out,more,if_neg (Int.not_lt.2 HLG.out),if_neg (by rw [HK.out];decide),if_pos rfl]⟩
        obtain ⟨a6,n6,k6,rfl⟩:∃ a n k,v6=.slice a n k:=by obtain ⟨a,k,e⟩:=HM6.out.slice;exact ⟨a,_,k,e⟩
        obtain ⟨_,y1,y2,y3,_,_⟩:=HM6.out.cells
        have HRG:Sl (w6.rangeAt b 1 [.int .i64 op,.slice a6 n6 k6,.pointer (some ⟨pc,0,none⟩)]):=⟨fun j u hu=>by
         match j,hu with
         | 0,hu=>injection hu with hu;subst hu;exact y1
         | 1,hu=>injection hu with hu;subst hu;exact y2
         | 2,hu=>injection hu with hu;subst hu;exact y3⟩
        obtain ⟨w7,hw7⟩:∃ V,(w6.alloc (.cells #[.int .i64 0,.slice none 0 0,.pointer none] 122)).setRow w6.heap.size #[.int .i64 op,.slice a6 n6 k6,.pointer (some ⟨pc,0,none⟩)]=V:=⟨_,rfl⟩
        have HB7:Sl (Below w6.heap.size w6 w7):=⟨by rw [← hw7];exact below_setRow ((Below.refl _ _).alloc (Nat.le_refl _) _) (Nat.le_refl _) _⟩
        have HQ7:Sl (w7.heap[w6.heap.size]? = some (.cells #[.int .i64 op,.slice a6 n6 k6,.pointer (some ⟨pc,0,none⟩)] 122 (0,0))):=⟨by rw [← hw7];exact setRow_heap _ _ _ _ _ _ (alloc_new _ _ _ rfl)⟩
        have HM7:=Sl.mk (HM6.out.below HB7.out)
        obtain ⟨_,x1,x2,x3,_,_⟩:=HM7.out.cells
        have z1:=HM7.out.froz 1
        have z2:=HM7.out.froz 2
        have z3:=HM7.out.froz 3
        have HI:=msg_info (cs:=#[.int .i64 op,.slice a6 n6 k6,.pointer (some ⟨pc,0,none⟩)]) rfl
        have HAL:Sl ((#[.int .i64 op,.slice a6 n6 k6,.pointer (some ⟨pc,0,none⟩)]:Array Value).all (·.oneCell')=true):=⟨msg_all _ _ _ _ _⟩
        clear y1 y2 y3
        go_upto_region 13 with (first | (refine wpList_load_mid rfl 122 (.tmp 58) rfl b 1 rfl [.int .i64 op,.slice a6 n6 k6,.pointer (some ⟨pc,0,none⟩)] _ HRG.out Tryz.underlying122 rfl HI ?_) | (refine wpList_store_row rfl 122 (.tmp 8) (.tmp 59) rfl w6.heap.size #[.int .i64 op,.slice a6 n6 k6,.pointer (some ⟨pc,0,none⟩)] rfl rfl 122 #[.int .i64 0,.slice none 0 0,.pointer none] (alloc_new _ _ _ rfl) HI rfl HAL.out ?_))
        rw [hw7]
        clear hw7 HI
        go_wp2
        go_ret2
        have HE:=HES.out
        subst HE
        obtain ⟨hm9,hg9,hr9⟩:=wiped HM7.out (grown_refl _ _) HM7.out.X
        have hlt:=(Array.getElem?_eq_some_iff.1 HQ7.out).1
        have hne:w6.heap.size≠b:=by have:=HM6.out.lt;omega
        exact ⟨_,_,_,rfl,⟨⟨_,_,_,hm9,fun _=>⟨rfl,rfl,rfl⟩⟩,(HGA.out.trans (Goes.below b _ _ HB7.out)).trans hg9,fun _=>⟨_,_,rfl,fun args V=>by kernel_rfl,tmore_any (by rw [hr9.block _ hlt (fun e=>hne (by injection e))];exact HQ7.out) (HM7.out.O.kept hr9 (.inr (own_kind HM7.out.O HM7.out.X (by decide))))⟩⟩⟩
 ·by_cases h0:op=0
  ·subst h0
   have q1:(st.op != 0)=true:=by simpa using ho
   have HRV:Sl (mored most st fin 0 (bytes s)=more most fin st.op (st.text++bytes s)):=⟨by
    show (if decide ((0:Int)=0)≠st.begun then _ else _)=_
    rw [hb]
    rfl
   ⟩
   have HON:Sl (st.op≠0):=⟨ho⟩
   obtain ⟨n,hn⟩:∃ n,st.text.length=n:=⟨_,rfl⟩
   have hn8:n≤1048576:=by have:=HLEN.out;omega
   obtain ⟨a0,k0,hv0⟩:=HM1.out.slice
   rw [hn] at hv0
   subst hv0
   obtain ⟨c0,_,c2,_,_,_⟩:=HM1.out.cells
   obtain ⟨_,_,_,_,_,_,_,f7⟩:=bx8 HF1.out
   obtain ⟨d,hd⟩:∃ d:Int,most-(n:Int)=d:=⟨_,rfl⟩
   have hl1:=HLO.out
   have hl2:=HHI.out
   have z1:IntKind.i64.wrap (most-(n:Int))=d:=by rw [IntKind.wrap_i64];omega
   have z2:wrap64 (most-(n:Int))=d:=by unfold wrap64;omega
   have HTL:Sl ((st.text:List Nat).length≤2000000):=⟨by omega⟩
   have hll:(((st.text++bytes s:List Nat).length:Nat):Int)=n+s.size:=by rw [List.length_append,bytes_length,hn];omega
   by_cases hlong:most<(((st.text++bytes s:List Nat).length:Nat):Int)
   ·have q3:((s.size:Int)>d)=True:=eq_true (by omega)
    have HES:Sl (r=(bad 121,none)):=⟨by
     rw [← HR.out]
     rw [HRV.out,more,if_pos hlong]
    ⟩
    clear hlong hll hn hn8 hl1 hl2 hd
    have c0d:W1.drew.cell? ⟨b,0,none⟩=some (.int .i64 most):=c0
    have c2d:W1.drew.cell? ⟨b,2,none⟩=some (.slice a0 n k0):=c2
    have f7d:W1.drew.cell? ⟨g,7,none⟩=some (.string s):=f7
    go_enter Tryz.func113,Tryz.ntmps113
    go_upto_region 1 with fail
    go_still (by kernel_rfl)
    obtain ⟨R1,hR1⟩:∃ R,W1.drew=R:=⟨_,rfl⟩
    have HR1:Below W1.heap.size W1 R1:=by rw [← hR1];exact (Below.refl _ _).drew
    change Exit.then _ _ Exit.normal _ W1.drew
    rw [hR1] at c0d c2d f7d ⊢
    clear hR1
    go_upto_region 4 with fail
    go_still (by kernel_rfl)
    change Exit.then _ _ Exit.normal _ R1.drew
    have HD:Below W1.heap.size W1 R1.drew:=HR1.drew
    go_wp2
    go_ret2
    have HE:=HES.out
    subst HE
    exact ⟨_,_,_,rfl,⟨⟨_,_,_,HM1.out.below HD,fun e=>absurd e (by decide)⟩,Goes.below b _ p (HB1.out.trans (HD.mono HB1.out.size)),fun e=>absurd e (by decide)⟩⟩
   ·have q3:((s.size:Int)>d)=False:=eq_false (by omega)
    have HLG:=Sl.mk (Int.not_lt.1 hlong)
    have HRR:Sl (r=more most fin st.op (st.text++bytes s)):=⟨by rw [← HR.out,HRV.out]⟩
    clear hlong hll hn hn8 hl1 hl2 hd
    have c0d:W1.drew.cell? ⟨b,0,none⟩=some (.int .i64 most):=c0
    have c2d:W1.drew.cell? ⟨b,2,none⟩=some (.slice a0 n k0):=c2
    have f7d:W1.drew.cell? ⟨g,7,none⟩=some (.string s):=f7
    go_enter Tryz.func113,Tryz.ntmps113
    go_upto_region 1 with fail
    go_still (by kernel_rfl)
    obtain ⟨R1,hR1⟩:∃ R,W1.drew=R:=⟨_,rfl⟩
    have HR1:Below W1.heap.size W1 R1:=by rw [← hR1];exact (Below.refl _ _).drew
    change Exit.then _ _ Exit.normal _ W1.drew
    rw [hR1] at c0d c2d f7d ⊢
    clear hR1
    go_upto_region 4 with fail
    go_still (by kernel_rfl)
    change Exit.then _ _ Exit.normal _ R1.drew
    have HV:Sl (Below W1.heap.size W1 R1.drew):=⟨HR1.drew⟩
    clear HR1 c0d c2d f7d
    go_upto_region 8 with fail
    obtain ⟨W5,hW5⟩:∃ V,R1.drew=V:=⟨_,rfl⟩
    rw [hW5] at HV ⊢
    have HMV:=Sl.mk (HM1.out.below HV.out)
    have HGV:Sl (Goes W1 W5 b (.slice a0 n k0) p (.slice a0 n k0) p):=⟨Goes.below b _ p HV.out⟩
    have HFV:Sl (W5.heap[g]? = some (.cells #[.bool fin,.int .i64 0,.bool m,.int .u8 ((ka:Nat):Int),.int .u8 ((kb:Nat):Int),.int .u8 ((kc:Nat):Int),.int .u8 ((kd:Nat):Int),.string s] 61 (0,0))):=⟨below_key HF1.out HV.out⟩
    obtain ⟨cp,hcp⟩:∃ c,p=.pointer (some ⟨c,0,none⟩):=by obtain ⟨c,hc,_⟩:=HM1.out.C HON.out;exact ⟨c,hc⟩
    subst hcp
    obtain ⟨f50,_,_,_,_,_,_,f57⟩:=bx8 HFV.out
    go_still_tail 7,(by kernel_rfl)
    change wpList _ _ _ _ _ W5.drew
    clear f50 f57
    have HD8:Below W5.heap.size W5 W5.drew:=(Below.refl _ _).drew
    have HM8:=HMV.out.below HD8
    have HG8:=HGV.out.trans (Goes.below b _ _ HD8)
    have hF8:W5.drew.heap[g]? = some (.cells #[.bool fin,.int .i64 0,.bool m,.int .u8 ((ka:Nat):Int),.int .u8 ((kb:Nat):Int),.int .u8 ((kc:Nat):Int),.int .u8 ((kd:Nat):Int),.string s] 61 (0,0)):=HFV.out
    have CA:=add_any HM8 HON.out HG.out s fin HS.out HTL.out _ (chkS_ok st.op fin st.text (bytes s))
    have HN8:Sl (¬ Mine b _ _ g):=⟨fun e=>by
     have h1:=HNG.out g
     rcases HG8.mine g e with h2 | h2
     ·have:=h1 h2
      have:=HGS.out
      omega
     ·have:=(Array.getElem?_eq_some_iff.1 HF1.out).1
      omega⟩
    have HGs8:=Sl.mk HG8
    have HFs8:=Sl.mk hF8
    clear HM8 HG8 hF8 HD8
    go_wp2_with fail
    refine CA.mono ?_
    rintro e w6 ⟨v6,rfl,HM6,HG6⟩
    clear CA
    have HF6:Sl (w6.heap[g]? = some (.cells #[.bool fin,.int .i64 0,.bool m,.int .u8 ((ka:Nat):Int),.int .u8 ((kb:Nat):Int),.int .u8 ((kc:Nat):Int),.int .u8 ((kd:Nat):Int),.string s] 61 (0,0))):=⟨by rw [HG6.out.kept.block g (Array.getElem?_eq_some_iff.1 HFs8.out).1 HN8.out];exact HFs8.out⟩
    have HGA:=Sl.mk ((Goes.below b _ _ HB1.out).trans (HGs8.out.trans HG6.out))
    obtain ⟨k,hk⟩:∃ k,okT st.op fin (st.text++bytes s)=k:=⟨_,rfl⟩
    have HK:=Sl.mk hk
    obtain ⟨f0,_,_,_,_,_,_,_⟩:=bx8 HF6.out
    rw [hk]
    clear hk HG6 HGs8 HFs8 HN8
    cases k with
    | false =>
      have HES:Sl (r=(bad 122,none)):=⟨by
       rw [HRR.out,more,if_neg (Int.not_lt.2 HLG.out),if_pos HK.out]⟩
      go_wp2
      go_ret2
      have HE:=HES.out
      subst HE
      exact ⟨_,_,_,rfl,⟨⟨_,_,_,HM6.out,fun e=>absurd e (by decide)⟩,HGA.out,fun e=>absurd e (by decide)⟩⟩
    | true =>
      cases fin with
      | false =>
        have HES:Sl (r=(⟨0,false,true,st.op,st.text++bytes s⟩,none)):=⟨by
         rw [HRR.out,more,if_neg (Int.not_lt.2 HLG.out),if_neg (by rw [HK.out];decide),if_neg (by decide)]⟩
        go_wp2
        go_ret2
        have HE:=HES.out
        subst HE
        exact ⟨_,_,_,rfl,⟨⟨_,_,_,HM6.out,fun _=>⟨rfl,rfl,chkS_add _ _ _⟩⟩,HGA.out,fun _=>rfl⟩⟩
      | true =>
        have HES:Sl (r=(M0,some ⟨st.op,0,st.text++bytes s⟩)):=⟨by
         rw [HRR.out,more,if_neg (Int.not_lt.2 HLG.out),if_neg (by rw [HK.out];decide),if_pos rfl]⟩
        obtain ⟨a6,n6,k6,rfl⟩:∃ a n k,v6=.slice a n k:=by obtain ⟨a,k,e⟩:=HM6.out.slice;exact ⟨a,_,k,e⟩
        obtain ⟨_,y1,y2,y3,_,_⟩:=HM6.out.cells
        have HRG:Sl (w6.rangeAt b 1 [.int .i64 st.op,.slice a6 n6 k6,.pointer (some ⟨cp,0,none⟩)]):=⟨fun j u hu=>by
         match j,hu with
         | 0,hu=>injection hu with hu;subst hu;exact y1
         | 1,hu=>injection hu with hu;subst hu;exact y2
         | 2,hu=>injection hu with hu;subst hu;exact y3⟩
        obtain ⟨w7,hw7⟩:∃ V,(w6.alloc (.cells #[.int .i64 0,.slice none 0 0,.pointer none] 122)).setRow w6.heap.size #[.int .i64 st.op,.slice a6 n6 k6,.pointer (some ⟨cp,0,none⟩)]=V:=⟨_,rfl⟩
        have HB7:Sl (Below w6.heap.size w6 w7):=⟨by rw [← hw7];exact below_setRow ((Below.refl _ _).alloc (Nat.le_refl _) _) (Nat.le_refl _) _⟩
        have HQ7:Sl (w7.heap[w6.heap.size]? = some (.cells #[.int .i64 st.op,.slice a6 n6 k6,.pointer (some ⟨cp,0,none⟩)] 122 (0,0))):=⟨by rw [← hw7];exact setRow_heap _ _ _ _ _ _ (alloc_new _ _ _ rfl)⟩
        have HM7:=Sl.mk (HM6.out.below HB7.out)
        obtain ⟨_,x1,x2,x3,_,_⟩:=HM7.out.cells
        have z1:=HM7.out.froz 1
        have z2:=HM7.out.froz 2
        have z3:=HM7.out.froz 3
        have HI:=msg_info (cs:=#[.int .i64 st.op,.slice a6 n6 k6,.pointer (some ⟨cp,0,none⟩)]) rfl
        have HAL:Sl ((#[.int .i64 st.op,.slice a6 n6 k6,.pointer (some ⟨cp,0,none⟩)]:Array Value).all (·.oneCell')=true):=⟨msg_all _ _ _ _ _⟩
        clear y1 y2 y3
        go_upto_region 13 with (first | (refine wpList_load_mid rfl 122 (.tmp 58) rfl b 1 rfl [.int .i64 st.op,.slice a6 n6 k6,.pointer (some ⟨cp,0,none⟩)] _ HRG.out Tryz.underlying122 rfl HI ?_) | (refine wpList_store_row rfl 122 (.tmp 8) (.tmp 59) rfl w6.heap.size #[.int .i64 st.op,.slice a6 n6 k6,.pointer (some ⟨cp,0,none⟩)] rfl rfl 122 #[.int .i64 0,.slice none 0 0,.pointer none] (alloc_new _ _ _ rfl) HI rfl HAL.out ?_))
        rw [hw7]
        clear hw7 HI
        go_wp2
        go_ret2
        have HE:=HES.out
        subst HE
        obtain ⟨hm9,hg9,hr9⟩:=wiped HM7.out (grown_refl _ _) HM7.out.X
        have hlt:=(Array.getElem?_eq_some_iff.1 HQ7.out).1
        have hne:w6.heap.size≠b:=by have:=HM6.out.lt;omega
        exact ⟨_,_,_,rfl,⟨⟨_,_,_,hm9,fun _=>⟨rfl,rfl,rfl⟩⟩,(HGA.out.trans (Goes.below b _ _ HB7.out)).trans hg9,fun _=>⟨_,_,rfl,fun args V=>by kernel_rfl,tmore_any (by rw [hr9.block _ hlt (fun e=>hne (by injection e))];exact HQ7.out) (HM7.out.O.kept hr9 (.inr (own_kind HM7.out.O HM7.out.X (by decide))))⟩⟩⟩
  ·skip
   have HES:Sl (r=(bad 120,none)):=⟨by
    rw [← HR.out]
    show (if decide (op=0)≠st.begun then _ else _)=_
    rw [hb,decide_eq_false h0]
    rfl
   ⟩
   have q1:(st.op != 0)=true:=by simpa using ho
   have q2:(op != 0)=true:=by simpa using h0
   go_enter Tryz.func113,Tryz.ntmps113
   go_upto_region 1 with fail
   go_still (by kernel_rfl)
   have HD:Below W1.heap.size W1 W1.drew:=(Below.refl _ _).drew
   go_wp2
   go_ret2
   have HE:=HES.out
   subst HE
   exact ⟨_,_,_,rfl,⟨⟨_,_,_,HM1.out.below HD,fun e=>absurd e (by decide)⟩,Goes.below b _ p (HB1.out.trans (HD.mono HB1.out.size)),fun e=>absurd e (by decide)⟩⟩
end
end Go.Proofs.YtlahonjmfecikaaGreatDoor.Msg
set_option maxRecDepth 100000
namespace Go.Proofs.YtlahonjmfecikaaGreatDoor.Msg
open Go.RowKit UtfPlain MsgPlain Fra Utf Cls
open FramePlain (Fr form chk ctl zero4 form_cases)
open ClosePlain (getC)
theorem step_bad {most:Int} {st:Ms} {f:Fr} (h:form f=false):MsgPlain.step most st f=(bad 120,none):=if_pos h
theorem step_tell {most:Int} {st:Ms} {f:Fr} (h:form f=true) (ho:f.op=9∨f.op=10):MsgPlain.step most st f=(st,some ⟨f.op,0,f.data⟩):=by
 unfold MsgPlain.step
 rw [if_neg (by rw [h];decide),if_pos ho]
theorem step_end {most:Int} {st:Ms} {f:Fr} (h:form f=true) (ho:f.op=8):MsgPlain.step most st f=ended (getC f.data):=by
 unfold MsgPlain.step
 rw [if_neg (by rw [h];decide),if_neg (by omega),if_pos ho]
 rfl
theorem step_mored {most:Int} {st:Ms} {f:Fr} (h:form f=true) (ho:¬ (f.op=9∨f.op=10)) (h8:¬ f.op=8):MsgPlain.step most st f=mored most st f.fin f.op f.data:=by
 unfold MsgPlain.step
 rw [if_neg (by rw [h];decide),if_neg ho,if_neg h8]
 rfl
section
variable {w0 W:World} {b:Nat} {most:Int} {st:Ms} {v p:Value}
set_option maxHeartbeats 1000000 in
theorem read_any (h:MacS w0 W b most st v p) (he:st.err=0) (hov:st.over=false) (hg:Utf.Globs w0) (fin:Bool) (op:Int) (m:Bool) (ka kb kc kd:Nat) (s:ByteArray) (hk:Small 256 [ka,kb,kc,kd]) (hs:s.size≤100000) :
 Calls Tryz.prog 84 #[.pointer (some ⟨b,0,none⟩),(.agg #[.bool fin,.int .i64 op,.bool m,.int .u8 ((ka:Nat):Int),.int .u8 ((kb:Nat):Int),.int .u8 ((kc:Nat):Int),.int .u8 ((kd:Nat):Int),.string s])] W fun e w'=>∃ v' p' tv,e=.returned (.tuple #[tv,.int .i64 ((MsgPlain.step most st (⟨fin,op,m,[ka,kb,kc,kd],bytes s⟩:Fr)).1.err:Int)])∧Sl (Went w0 W w' b most (MsgPlain.step most st (⟨fin,op,m,[ka,kb,kc,kd],bytes s⟩:Fr)) v p v' p' tv):=by
 obtain ⟨r,hr⟩:∃ r,MsgPlain.step most st (⟨fin,op,m,[ka,kb,kc,kd],bytes s⟩:Fr)=r:=⟨_,rfl⟩
 rw [hr]
 obtain ⟨W1,hW1⟩:∃ V,W.alloc (.cells #[.bool fin,.int .i64 op,.bool m,.int .u8 ((ka:Nat):Int),.int .u8 ((kb:Nat):Int),.int .u8 ((kc:Nat):Int),.int .u8 ((kd:Nat):Int),.string s] 61)=V:=⟨_,rfl⟩
 have HB1:Sl (Below W.heap.size W W1):=⟨by rw [← hW1];exact (Below.refl _ _).alloc (Nat.le_refl _) _⟩
 have HF1:Sl (W1.heap[W.heap.size]? = some (.cells #[.bool fin,.int .i64 op,.bool m,.int .u8 ((ka:Nat):Int),.int .u8 ((kb:Nat):Int),.int .u8 ((kc:Nat):Int),.int .u8 ((kd:Nat):Int),.string s] 61 (0,0))):=⟨by rw [← hW1];exact alloc_new _ _ _ rfl⟩
 obtain ⟨e0,e1,e2,e3,e4,e5,e6,e7⟩:=bx8 HF1.out
 have CK:=check_any fin op m ka kb kc kd s W1 hk
 have HM:=Sl.mk h
 have HG:=Sl.mk hg
 have HS:=Sl.mk hs
 have HR:=Sl.mk hr
 have HE:=Sl.mk he
 have HO:=Sl.mk hov
 clear hr hg hs hk h he hov
 cases hf:form (⟨fin,op,m,[ka,kb,kc,kd],bytes s⟩:Fr) with
 | false =>
   rw [Fra.chk_form hf] at CK
   have HES:Sl (r=(bad 120,none)):=⟨by rw [← HR.out];exact step_bad hf⟩
   clear hf
   go_enter Tryz.func84,Tryz.ntmps84
   go_wp2_with fail
   refine CK.mono ?_
   rintro e w2 ⟨rfl,HB2⟩
   clear CK
   go_wp2
   go_ret2
   have HE2:=HES.out
   subst HE2
   have hb:=HB1.out.trans (HB2.out.mono HB1.out.size)
   have hm:=(HM.out.below hb).m
   rw [HE.out,HO.out] at hm
   exact ⟨_,_,_,rfl,⟨⟨_,_,_,hm,fun e=>absurd e (by decide)⟩,Goes.below b _ _ hb,fun e=>absurd e (by decide)⟩⟩
 | true =>
   obtain ⟨k,hk⟩:∃ k,chk (⟨fin,op,m,[ka,kb,kc,kd],bytes s⟩:Fr)=k:=⟨_,rfl⟩
   have hkq:(((k:Nat):Int)==91)=false:=by
    refine beq_eq_false_iff_ne.2 (fun e=>?_)
    have e':k=91:=by omega
    rw [← hk] at e'
    unfold chk at e'
    rw [if_neg (by rw [hf];decide)] at e'
    split at e'<;>cases e'
   rw [hk] at CK
   have HF:=Sl.mk hf
   clear hk hf
   by_cases hp:op=9∨op=10
   ·have HES:Sl (r=(st,some ⟨op,0,bytes s⟩)):=⟨by rw [← HR.out];exact step_tell HF.out hp⟩
    rcases hp with rfl | rfl
    all_goals
     go_enter Tryz.func84,Tryz.ntmps84
     go_wp2_with fail
     refine CK.mono ?_
     rintro e w2 ⟨rfl,HB2⟩
     clear CK
     have HF2:Sl (w2.heap[W.heap.size]? = some (.cells _ 61 (0,0))):=⟨below_key HF1.out HB2.out⟩
     obtain ⟨_,g1,_,_,_,_,_,_⟩:=bx8 HF2.out
     go_wp2
     go_ret2
     have HE2:=HES.out
     subst HE2
     have hb:=HB1.out.trans (HB2.out.mono HB1.out.size)
     have hm:=(HM.out.below hb).m
     rw [HE.out] at hm
     exact ⟨_,_,_,by rw [HE.out];rfl,⟨⟨_,_,_,hm,fun _=>⟨rfl,rfl,rfl⟩⟩,Goes.below b _ _ hb,fun _=>⟨_,_,rfl,fun args V=>by kernel_rfl,tread_any HF2.out (by have:=HS.out;omega)⟩⟩⟩
   ·have n9:(op==9)=false:=beq_eq_false_iff_ne.2 (fun e=>hp (.inl e))
    have n10:(op==10)=false:=beq_eq_false_iff_ne.2 (fun e=>hp (.inr e))
    by_cases h8:op=8
    ·subst h8
     have HES:Sl (r=ended (getC (bytes s))):=⟨by rw [← HR.out];exact step_end HF.out rfl⟩
     clear hp
     go_enter Tryz.func84,Tryz.ntmps84
     go_wp2_with fail
     refine CK.mono ?_
     rintro e w2 ⟨rfl,HB2⟩
     clear CK
     have HF2:Sl (w2.heap[W.heap.size]? = some (.cells _ 61 (0,0))):=⟨below_key HF1.out HB2.out⟩
     obtain ⟨_,g1,_,_,_,_,_,g7⟩:=bx8 HF2.out
     have hb:=HB1.out.trans (HB2.out.mono HB1.out.size)
     have hm:=(HM.out.below hb).m
     rw [HE.out,HO.out] at hm
     have HBB:=Sl.mk hb
     have CE:=end_any hm HG.out s (by have:=HS.out;omega)
     clear hm hb
     go_wp2_with fail
     refine CE.mono ?_
     rintro e w3 ⟨v',p',tv,rfl,HWT⟩
     clear CE
     go_wp2
     go_ret2
     have HE2:=HES.out
     subst HE2
     exact ⟨_,_,_,rfl,⟨HWT.out.before HBB.out⟩⟩
    ·have n8:(op==8)=false:=beq_eq_false_iff_ne.2 h8
     have HES:Sl (r=mored most st fin op (bytes s)):=⟨by rw [← HR.out];exact step_mored HF.out hp h8⟩
     have hop:0≤op∧op≤2:=by
      rcases (form_cases HF.out).1 with h | ⟨h1,h2,_⟩
      ·exact h
      ·exact absurd (show op=8∨op=9∨op=10 from by have h1':8≤op:=h1;have h2':op≤10:=h2;omega) (fun e=>e.elim h8 hp)
     have HOP:=Sl.mk hop
     clear hp h8 hop
     go_enter Tryz.func84,Tryz.ntmps84
     go_wp2_with fail
     refine CK.mono ?_
     rintro e w2 ⟨rfl,HB2⟩
     clear CK
     have HF2:Sl (w2.heap[W.heap.size]? = some (.cells _ 61 (0,0))):=⟨below_key HF1.out HB2.out⟩
     obtain ⟨g0,g1,g2,g3,g4,g5,g6,g7⟩:=bx8 HF2.out
     have HBB:=Sl.mk (HB1.out.trans (HB2.out.mono HB1.out.size))
     have CE:=more_any (HM.out.below HBB.out) HE.out HO.out HG.out fin op m ka kb kc kd s HOP.out HS.out
     clear e0 e1 e2 e3 e4 e5 e6 e7
     go_wp2_with fail
     refine CE.mono ?_
     rintro e w3 ⟨v',p',tv,rfl,HWT⟩
     clear CE
     go_wp2
     go_ret2
     have HE2:=HES.out
     subst HE2
     exact ⟨_,_,_,rfl,⟨HWT.out.before HBB.out⟩⟩
end
end Go.Proofs.YtlahonjmfecikaaGreatDoor.Msg
