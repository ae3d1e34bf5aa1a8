/- Texts, joined. -/
import Derived.Test.YtlahonjmfecikaaGreatDoorXd
import Derived.Laws.IdiomArrays
set_option maxRecDepth 100000
set_option maxHeartbeats 64000000
set_option linter.unusedVariables false
set_option linter.unusedSimpArgs false
open Go.Proofs.Tryz
namespace Go.Proofs.YtlahonjmfecikaaGreatDoor.jo
open Go.RowKit jS
open aC (Fr dn)
open aj (Cf Lg)
open jG (bM gU gQ)
open aC (aT size nI dF bn)
section
variable {V:World} {u:Value} {l':List Fr}
section
variable {w0 W W':World} {L sb mb rb rp:Nat} {tv kv qv:Value} {c:Cf} {l:Lg}
theorem bH.XE (h:bH w0 W L sb mb rb rp tv kv qv c l) {g:Nat} (hg:W.grownBy V (some g)) (he:kv.ownBlock=some g) (hu:∀ k,u.ownBlock=some k→k=g) (hr:iF V w0.heap.size u l') :
 bH w0 (V.setCell ⟨L,6,none⟩ u) L sb mb rb rp tv u qv c {l with aQ:=l'}∧bY W (V.setCell ⟨L,6,none⟩ u) L rb rp tv kv qv tv u qv:=by
 obtain ⟨n1,n2,n3,n4,n5,n6,n7,n8,n9⟩:=h.qj;have lp:g≠L:=fun e=>n4 (e ▸ he)
 have hX:V.heap[L]? = W.heap[L]?:=hg.block L h.lt (fun e=>lp (by injection e with e;exact e.symm));have tW:=aH V L 6 u;have W4:u.ownBlock≠some L:=fun e=>lp (hu L e).symm
 refine h.step (m:={l with aQ:=l'}) ((bM.grown (S:=fun j=>j=L∨kv.ownBlock=some j∨qv.ownBlock=some j) hg (fun k e=>by injection e with e;subst e;exact .inr (.inl he))).trans (bM.grown (S:=fun j=>j=L) tW (fun k e=>by injection e with e;exact e.symm)) (fun j _ e=>.inl e)) ?_ rfl ?_ ?_ ?_ h.dr (fun k e=>.inl e) (fun k e=>.inl (by rw [hu k e];exact he)) (fun k e=>.inl e) (fun k e e2=>absurd (h.T.Ja e).2.2 (by omega)) (fun k e _ e2=>by rw [hu k e2];exact he) (fun k e _ e2=>e2) (fun k e e2=>by rw [hu k e] at e2;have:=h.C.lt he;omega)
 ·rw [lF _ _ _ _ _ _ (hX.trans h.X)];rfl
 ·exact h.T.kept fun k e=>by
   obtain ⟨a1,a2,a3,a4,a5⟩:=h.tn k e;rw [pI _ _ _ _ a1];exact hg.block k (h.T.Ja e).2.2 (fun e2=>by injection e2 with e2;subst e2;exact a4 he)
 ·exact hr.grown tW (fun j e e2=>W4 (e.trans e2))
 ·refine h.D.block fun j e=>?_
  rw [pI _ _ _ _ (fun (e2:j=L)=>n5 (e2 ▸ e))];exact hg.block j (h.D.lt e) (fun e2=>by injection e2 with e2;subst e2;exact h.cn _ he e)
theorem bH.XF (h:bH w0 W L sb mb rb rp tv kv qv c l) {g:Nat} (hg:W.grownBy V (some g)) (he:qv.ownBlock=some g) (hu:∀ k,u.ownBlock=some k→k=g) (hr:iF V w0.heap.size u l') :
 bH w0 (V.setCell ⟨L,7,none⟩ u) L sb mb rb rp tv kv u c {l with rest:=l'}∧bY W (V.setCell ⟨L,7,none⟩ u) L rb rp tv kv qv tv kv u:=by
 obtain ⟨n1,n2,n3,n4,n5,n6,n7,n8,n9⟩:=h.qj;have lp:g≠L:=fun e=>n5 (e ▸ he)
 have hX:V.heap[L]? = W.heap[L]?:=hg.block L h.lt (fun e=>lp (by injection e with e;exact e.symm));have tW:=aH V L 7 u;have W4:u.ownBlock≠some L:=fun e=>lp (hu L e).symm
 refine h.step (m:={l with rest:=l'}) ((bM.grown (S:=fun j=>j=L∨kv.ownBlock=some j∨qv.ownBlock=some j) hg (fun k e=>by injection e with e;subst e;exact .inr (.inr he))).trans (bM.grown (S:=fun j=>j=L) tW (fun k e=>by injection e with e;exact e.symm)) (fun j _ e=>.inl e)) ?_ rfl ?_ ?_ ?_ h.dr (fun k e=>.inl e) (fun k e=>.inl e) (fun k e=>.inl (by rw [hu k e];exact he)) (fun k e e2=>absurd (h.T.Ja e).2.2 (by omega)) (fun k e _ e2=>e2) (fun k e _ e2=>by rw [hu k e2];exact he) (fun k e e2=>absurd (h.C.lt e) (by omega))
 ·rw [lF _ _ _ _ _ _ (hX.trans h.X)];rfl
 ·exact h.T.kept fun k e=>by
   obtain ⟨a1,a2,a3,a4,a5⟩:=h.tn k e;rw [pI _ _ _ _ a1];exact hg.block k (h.T.Ja e).2.2 (fun e2=>by injection e2 with e2;subst e2;exact a5 he)
 ·refine h.C.block fun j e=>?_
  rw [pI _ _ _ _ (fun (e2:j=L)=>n4 (e2 ▸ e))];exact hg.block j (h.C.lt e) (fun e2=>by injection e2 with e2;subst e2;exact h.cn _ e he)
 ·exact hr.grown tW (fun j e e2=>W4 (e.trans e2))
theorem Jd (V:World) (a:Option Addr) (n cap:Nat) (hk:1≤n) (X:Int) (hX:X=1):(Instr.slice 34 (.slice a n cap) (some (.int .i64 X)) none none).run prog V=.ok (.slice (iL.kG a 1 cap) (n-1) (cap-1)) V:=by
 subst hX;exact iL.zx V a n cap 1 hk
theorem KP (h:bH w0 W L sb mb rb rp tv kv qv c l) (hc:l.aQ=[]) (hr:l.rest=[]) :
 Calls prog 119 #[.pointer (some ⟨L,4,none⟩)] W fun e w'=>e=.returned (.tuple #[.agg zZ,.bool false])∧Sl (Below W.heap.size W w'):=by
 obtain ⟨wa,cz⟩:=zX (W.alloc (.cells zZ 61));have HB:Sl (Below W.heap.size W wa):=⟨by rw [← cz];exact (dW _ _).alloc (aY _) _⟩;have hH:wa.heap[W.heap.size]? = some (.cells zZ 61 (0,0)):=by rw [← cz];exact aI _ _ _ rfl
 have mE:=h.below HB.ah;have HC:=mE.C;have HD:=mE.D;rw [hc] at HC;rw [hr] at HD;obtain rfl:=HC.nil;obtain rfl:=HD.nil;obtain ⟨-,-,-,-,-,-,c6,c7,-⟩:=mE.cells;obtain ⟨wb,gR,Mb,Hb⟩:∃ V,wa.setRow W.heap.size zZ=V∧Sl (Below W.heap.size W V)∧Sl (V.heap[W.heap.size]? = some (.cells zZ 61 (0,0))):=⟨_,rfl,⟨below_setRow HB.ah (aY _) _⟩,⟨gY _ _ _ _ _ _ hH⟩⟩;have HI:(prog.info? 61).map (·.size)=some (zZ:Array Value).size:=by kernel_rfl
 have dx:(zZ:Array Value).all (·.oneCell')=true:=by simp [Value.oneCell']
 clear h mE HC HD hc hr HB;go_enter func119,ntmps119;go_upto_region 1 with fail
 (try rw [cz]);clear cz;go_wp2_with (refine fG rfl 61 (.tmp 2) (.tmp 23) rfl W.heap.size zZ rfl rfl 61 zZ hH HI rfl dx ?_)
 (try rw [gR]);(try simp only [Exit.inBlock,Exit.then]);refine gX (qJ rfl _ _ W.heap.size 61 zZ (0,0) rfl Hb.ah rfl) rfl ?_;exact ⟨rfl,Mb⟩
theorem Pq (h:bH w0 W L sb mb rb rp tv kv qv c l) (aN:Bool) (op:Int) (m:Bool) (ka kb kc kd:Nat) (s:ByteArray) (cs:List Fr) (hc:l.aQ=(⟨aN,op,m,[ka,kb,kc,kd],bytes s⟩:Fr) :: cs) (hl:cs.length≤1000000) :
 Calls prog 119 #[.pointer (some ⟨L,4,none⟩)] W fun e w'=>∃ u,e=.returned (.tuple #[(.agg (zV aN op m ka kb kc kd s)),.bool true])∧Sl (bH w0 w' L sb mb rb rp tv u qv c {l with aQ:=cs})∧Sl (bY W w' L rb rp tv kv qv tv u qv):=by
 obtain ⟨wa,cz,HB,hH⟩:=zY W zZ 61;have mE:=h.below HB;have me:Sl (∀ j,EU L rb rp tv kv qv j→w0.heap.size≤j∧j<W.heap.size):=⟨fun j e=>h.lu e⟩;have lz:=Sl.mk (bY.below L rb rp tv kv qv HB);have lO:=Sl.mk h.low.size;have HR:=mE.C;rw [hc] at HR;obtain ⟨g,off,cap,rfl,db⟩:=HR.one;obtain ⟨n,hn⟩:=zX cs.length;rw [hn] at HR db mE hl lz me ⊢;have HN:=Sl.mk hn;obtain ⟨AI,-⟩:=HR.range;obtain ⟨-,-,-,-,-,-,c6,c7,-⟩:=mE.cells;have zt:g<wa.heap.size:=HR.lt rfl;have lp:g≠L:=fun e=>mE.qj.2.2.2.1 (by rw [← e];rfl)
 have q:∀ j u,(cv (⟨aN,op,m,[ka,kb,kc,kd],bytes s⟩:Fr))[j]? = some u→wa.cell? ⟨g,off+j,none⟩=some u:=AI;have q0:wa.cell? ⟨g,off,none⟩=some (.bool aN):=q 0 _ rfl;have q1:wa.cell? ⟨g,off+1,none⟩=some (.int .i64 op):=q 1 _ rfl;have q2:wa.cell? ⟨g,off+2,none⟩=some (.bool m):=q 2 _ rfl;have q3:wa.cell? ⟨g,off+3,none⟩=some (.int .u8 ((ka:Nat):Int)):=q 3 _ rfl;have q4:wa.cell? ⟨g,off+4,none⟩=some (.int .u8 ((kb:Nat):Int)):=q 4 _ rfl;have q5:wa.cell? ⟨g,off+5,none⟩=some (.int .u8 ((kc:Nat):Int)):=q 5 _ rfl;have q6:wa.cell? ⟨g,off+6,none⟩=some (.int .u8 ((kd:Nat):Int)):=q 6 _ rfl;have q7:wa.cell? ⟨g,off+7,none⟩=some (.string s):=by
  have:=q 7 (.string (aF (bytes s))) rfl;rw [bT] at this;exact this
 obtain ⟨wb,gR,nQ,PH⟩:=iL.tX wa (zV aN op m ka kb kc kd s);have HI:(prog.info? 61).map (·.size)=some ((zV aN op m ka kb kc kd s):Array Value).size:=gK.pU _ _ _ _ _ _ _ _;have Zw:(prog.info? 61).map (·.size)=some (zZ:Array Value).size:=by kernel_rfl
 have mI:(zZ:Array Value).all (·.oneCell')=true:=by simp [Value.oneCell']
 have eK:=mE.below nQ.ah;have ew:=HR.below nQ.ah;have m5:=Sl.mk (lz.ah.trans (bY.below L rb rp tv (.slice (some ⟨g,off,none⟩) (n+1) cap) qv nQ.ah));have PJ:wb.heap[W.heap.size]? = some (.cells zZ 61 (0,0)):=ay hH nQ.ah;obtain ⟨m6,qi⟩:=ew.Zv;obtain ⟨-,B0⟩:=ew.range;have B1:=Sl.mk B0;obtain ⟨-,-,-,-,-,-,d6,d7,-⟩:=eK.cells;obtain ⟨wc,sz⟩:=zX (wb.setCells g off I8);rw [sz] at m6 qi;have ry:wb.setCells g off [.bool false,.int .i64 0,.bool false,.int .u8 0,.int .u8 0,.int .u8 0,.int .u8 0,.string {data:=#[]}]=wc:=sz;clear sz AI q HR mE;have Ix:wc.heap[L]? = wb.heap[L]?:=m6.block L eK.lt (fun e=>lp (by injection e with e;exact e.symm));have e6:wc.cell? ⟨L,6,none⟩=some (.slice (some ⟨g,off,none⟩) (n+1) cap):=by rw [DV (w:=wb) Ix];exact d6
 have f6:wc.frozen? ⟨L,6,none⟩=false:=by rw [World.frozen?_of_block (w:=wb) Ix];exact eK.fF 6
 have hgb:g<wb.heap.size:=ew.lt rfl;have hLb:=eK.lt;have Zx:wc.heap[wa.heap.size]? = some (.cells (zV aN op m ka kb kc kd s) 61 (0,0)):=by
  rw [m6.block _ (zl PH.ah) (fun e=>by injection e with e;omega)];exact PH.ah
 have hgW:g<W.heap.size:=(me.ah g (.inr (.inr (.inr (.inr (.inl rfl)))))).2;have hLW:L<W.heap.size:=(me.ah L (.inl rfl)).2;have Zy:wc.heap[W.heap.size]? = some (.cells zZ 61 (0,0)):=by
  rw [m6.block _ (zl PJ) (fun e=>by injection e with e;omega)];exact PJ
 have aeN:W.heap.size≤wa.heap.size:=HB.size;have sg:((n:Int)+1>0)=True:=eq_true (by omega);have eW:((n:Int)+1==0)=false:=mJ.2 (by omega);have lR:∀ V,(Instr.slice 34 (.slice (some ⟨g,off,none⟩) (n+1) cap) (some (.int .i64 1)) none none).run prog V=.ok (.slice (iL.kG (some ⟨g,off,none⟩) 1 cap) n (cap-1)) V:=fun V=>Jd V (some ⟨g,off,none⟩) (n+1) cap (by omega) 1 rfl
 have iv:=Sl.mk eK;have PP:=Sl.mk qi;have mf:=Sl.mk m6;have pE:=Sl.mk Ix;have yq:=Sl.mk Zx;have yv:=Sl.mk Zy;clear m6 qi Ix Zx Zy ew PJ B0 nQ PH HB;clear h eK hc hH;by_cases hz:n=0
 ·subst hz
  obtain rfl:cs=[]:=yA HN.ah;obtain ⟨a2,Bs⟩:=zX (iL.kG (some ⟨g,off,none⟩) 1 cap);rw [Bs] at lR;have B4:(wc.setCell ⟨L,6,none⟩ (.slice a2 0 (cap-1))).heap[L]? = some (.cells #[.int .i64 (c.bh:Int),.int .i64 (c.bR:Int),.pointer (some ⟨sb,0,none⟩),.pointer (some ⟨mb,0,none⟩),.pointer (some ⟨rb,0,none⟩),tv,(.slice a2 0 (cap-1)),qv,.bool (!c.af),.int .u32 (l.bu:Int),.int .i64 (l.ag:Int),.bool l.am] 80 (0,0)):=by rw [lF _ _ _ _ _ _ (pE.ah.trans iv.ah.X)];rfl
  obtain ⟨wd,kI⟩:=zX (wc.setCell ⟨L,6,none⟩ (.slice a2 0 (cap-1)));have fS:wc.grownBy wd (some L):=by rw [← kI];exact aH _ _ _ _
  rw [kI] at B4;have i6:wd.cell? ⟨L,6,none⟩=some (.slice a2 0 (cap-1)):=by rw [jg _ _ _ _ _ _ B4];rfl
  have j6:wd.frozen? ⟨L,6,none⟩=false:=kT _ _ _ _ _ B4;have PQ:(wd.setCell ⟨L,6,none⟩ (.slice none 0 0)).heap[L]? = some (.cells #[.int .i64 (c.bh:Int),.int .i64 (c.bR:Int),.pointer (some ⟨sb,0,none⟩),.pointer (some ⟨mb,0,none⟩),.pointer (some ⟨rb,0,none⟩),tv,(.slice none 0 0),qv,.bool (!c.af),.int .u32 (l.bu:Int),.int .i64 (l.ag:Int),.bool l.am] 80 (0,0)):=by rw [lF _ _ _ _ _ _ B4];rfl
  obtain ⟨we,t6⟩:=zX (wd.setCell ⟨L,6,none⟩ (.slice none 0 0));have eg:wd.grownBy we (some L):=by rw [← t6];exact aH _ _ _ _
  rw [t6] at PQ;have yy:∀ k,k<wb.heap.size→k≠g→k≠L→we.heap[k]? = wb.heap[k]?:=fun k hk h1 h2=>by
   have s1:=mf.ah.size;have s2:=fS.size;rw [eg.block k (by omega) (fun e=>h2 (by injection e with e)),fS.block k (by omega) (fun e=>h2 (by injection e with e)),mf.ah.block k hk (fun e=>h1 (by injection e with e))]
  have Fu:bM (fun j=>j=L∨(Value.slice (some ⟨g,off,none⟩) (0+1) cap).ownBlock=some j∨qv.ownBlock=some j) wb we :=
   ((bM.grown (S:=fun j=>j=L∨(Value.slice (some ⟨g,off,none⟩) (0+1) cap).ownBlock=some j∨qv.ownBlock=some j) mf.ah (fun k e=>by injection e with e;subst e;exact .inr (.inl rfl))).trans (bM.grown (S:=fun j=>j=L) fS (fun k e=>by injection e with e;exact e.symm)) (fun j _ e=>.inl e)).trans (bM.grown (S:=fun j=>j=L) eg (fun k e=>by injection e with e;exact e.symm)) (fun j _ e=>.inl e)
  obtain ⟨cV,mi⟩:=iv.ah.step (m:={l with aQ:=[]}) (kv':=.slice none 0 0)  Fu PQ rfl (iv.ah.T.kept fun k e=>by
   obtain ⟨a1,a2,a3,a4,a5⟩:=iv.ah.tn k e;exact yy k (iv.ah.T.Ja e).2.2 (fun e2=>a4 (by rw [e2];rfl)) a1) (sF _ _) (iv.ah.D.block fun k e=>yy k (iv.ah.D.lt e) (fun e2=>iv.ah.cn g rfl (e2 ▸ e)) (fun e2=>iv.ah.qj.2.2.2.2.1 (e2 ▸ e))) iv.ah.dr (fun k e=>.inl e) (fun k e=>by cases e) (fun k e=>.inl e) (fun k e e2=>absurd (iv.ah.T.Ja e).2.2 (by omega)) (fun k e _ e2=>by cases e2) (fun k e _ e2=>e2) (fun k e e2=>by cases e)
  have lc:=Sl.mk cV;have iS:=Sl.mk (m5.ah.trans mi);have Ca:Sl (we.heap[wa.heap.size]? = some (.cells (zV aN op m ka kb kc kd s) 61 (0,0))):=⟨by
   have s1:=(zl yq.ah);rw [eg.block _ (by have:=fS.size;omega) (fun e=>by injection e with e;omega),fS.block _ s1 (fun e=>by injection e with e;omega)];exact yq.ah⟩
  have Cd:Sl (we.heap[W.heap.size]? = some (.cells zZ 61 (0,0))):=⟨by
   have s1:=(zl yv.ah);rw [eg.block _ (by have:=fS.size;omega) (fun e=>by injection e with e;omega),fS.block _ s1 (fun e=>by injection e with e;omega)];exact yv.ah⟩
  have P0:Sl (∀ j,EU L rb rp tv (.slice none 0 0) qv j→j<W.heap.size):=⟨fun j e=>(me.ah j (by
   rcases e with e | e | e | e | e | e
   ·exact .inl e
   ·exact .inr (.inl e)
   ·exact .inr (.inr (.inl e))
   ·exact .inr (.inr (.inr (.inl e)))
   ·cases e
   ·exact .inr (.inr (.inr (.inr (.inr e)))))).2⟩
  clear cV mi Fu yy B4 PQ fS eg iv PP mf pE yq yv m5;go_enter func119,ntmps119;go_upto_region 1 with fail
  (try rw [cz]);clear cz;go_upto_region 7 with (refine fG rfl 61 (.tmp 5) (.tmp 28) rfl wa.heap.size (zV aN op m ka kb kc kd s) rfl rfl 61 zZ (gK.dQ wa _) HI rfl (gK.aZ _ _ _ _ _ _ _ _) ?_)
  (try rw [gR]);clear gR c6 c7 q0 q1 q2 q3 q4 q5 q6 q7;go_upto_region 8 with (refine wpList_store_mid rfl 61 (.tmp 33) (.tmp 32) rfl g off zZ rfl rfl B1.ah Zw mI ?_)
  (try rw [ry]);clear ry d6 d7;go_upto_region 9 with fail
  (try rw [kI]);clear kI e6 f6;go_upto_region 11 with fail
  (try rw [t6]);clear t6 i6 j6;obtain ⟨b0,b1,b2,b3,b4,b5,b6,b7⟩:=gK.bG Ca.ah;obtain ⟨wz,fq⟩:=zX (we.setRow W.heap.size (zV aN op m ka kb kc kd s));have m6:we.grownBy wz (some W.heap.size):=by rw [← fq];exact bZ _ _ _
  have Cg:wz.heap[W.heap.size]? = some (.cells (zV aN op m ka kb kc kd s) 61 (0,0)):=by rw [← fq];exact gY _ _ _ _ _ _ Cd.ah
  have lv:bM (fun j=>j=W.heap.size) we wz:=bM.grown m6 (fun j e=>by injection e with e;exact e.symm);have Qf:=Sl.mk (lc.ah.pZ lv (fun j e=>by
   have h1:=P0.ah j e;omega) (lv.up lc.ah.low (fun j e=>by have:=lO.ah;omega) lc.ah.low.size))
  have lh:=Sl.mk (iS.ah.fH lv (fun j e=>by omega));have Qt:=Sl.mk Cg;clear m6 Cg lv lc iS Ca;go_wp2_with (refine fG rfl 61 (.tmp 2) (.tmp 47) rfl W.heap.size (zV aN op m ka kb kc kd s) rfl rfl 61 zZ Cd.ah HI rfl (gK.aZ _ _ _ _ _ _ _ _) ?_)
  (try rw [fq]);(try simp only [Exit.inBlock,Exit.then]);refine gX (qJ rfl _ _ W.heap.size 61 (zV aN op m ka kb kc kd s) (0,0) rfl Qt.ah rfl) rfl ?_;exact ⟨_,rfl,Qf,lh⟩
 ·have sC:0<cs.length:=by have:=HN.ah;omega
  have fk:iL.kG (some ⟨g,off,none⟩) 1 cap=some ⟨g,off+8,none⟩:=by
   unfold iL.kG;rw [if_neg (by omega)];simp [DD]
  rw [fk] at lR;have eA:=PP.ah sC;rw [HN.ah] at eA;obtain ⟨cV,mi⟩:=iv.ah.XE (u:=.slice (some ⟨g,off+8,none⟩) n (cap-1)) mf.ah rfl (fun k e=>by
   have e:some g=some k:=e;injection e with e;exact e.symm) eA
  obtain ⟨wd,kI⟩:=zX (wc.setCell ⟨L,6,none⟩ (.slice (some ⟨g,off+8,none⟩) n (cap-1)));have fS:wc.grownBy wd (some L):=by rw [← kI];exact aH _ _ _ _
  rw [kI] at cV mi;have hq:((n:Int)==0)=false:=mJ.2 (by omega);obtain ⟨-,-,-,-,-,-,i6,i7,-⟩:=cV.cells;have lc:=Sl.mk cV;have iS:=Sl.mk (m5.ah.trans mi);have Ca:Sl (wd.heap[wa.heap.size]? = some (.cells (zV aN op m ka kb kc kd s) 61 (0,0))):=⟨by
   rw [fS.block _ (zl yq.ah) (fun e=>by injection e with e;omega)];exact yq.ah⟩
  have Cd:Sl (wd.heap[W.heap.size]? = some (.cells zZ 61 (0,0))):=⟨by
   rw [fS.block _ (zl yv.ah) (fun e=>by injection e with e;omega)];exact yv.ah⟩
  have P0:Sl (∀ j,EU L rb rp tv (.slice (some ⟨g,off+8,none⟩) n (cap-1)) qv j→j<W.heap.size):=⟨fun j e=>(me.ah j e).2⟩;clear cV mi eA fS iv PP mf pE yq yv m5;go_enter func119,ntmps119;go_upto_region 1 with fail
  (try rw [cz]);clear cz;go_upto_region 7 with (refine fG rfl 61 (.tmp 5) (.tmp 28) rfl wa.heap.size (zV aN op m ka kb kc kd s) rfl rfl 61 zZ (gK.dQ wa _) HI rfl (gK.aZ _ _ _ _ _ _ _ _) ?_)
  (try rw [gR]);clear gR c6 c7 q0 q1 q2 q3 q4 q5 q6 q7;go_upto_region 8 with (refine wpList_store_mid rfl 61 (.tmp 33) (.tmp 32) rfl g off zZ rfl rfl B1.ah Zw mI ?_)
  (try rw [ry]);clear ry d6 d7;go_upto_region 9 with fail
  (try rw [kI]);clear kI e6 f6;go_upto_region 11 with fail
  clear i6 i7 hq;obtain ⟨b0,b1,b2,b3,b4,b5,b6,b7⟩:=gK.bG Ca.ah;obtain ⟨wz,fq⟩:=zX (wd.setRow W.heap.size (zV aN op m ka kb kc kd s));have m6:wd.grownBy wz (some W.heap.size):=by rw [← fq];exact bZ _ _ _
  have Cg:wz.heap[W.heap.size]? = some (.cells (zV aN op m ka kb kc kd s) 61 (0,0)):=by rw [← fq];exact gY _ _ _ _ _ _ Cd.ah
  have lv:bM (fun j=>j=W.heap.size) wd wz:=bM.grown m6 (fun j e=>by injection e with e;exact e.symm);have Qf:=Sl.mk (lc.ah.pZ lv (fun j e=>by
   have h1:=P0.ah j e;omega) (lv.up lc.ah.low (fun j e=>by have:=lO.ah;omega) lc.ah.low.size))
  have lh:=Sl.mk (iS.ah.fH lv (fun j e=>by omega));have Qt:=Sl.mk Cg;clear m6 Cg lv lc iS Ca;go_wp2_with (refine fG rfl 61 (.tmp 2) (.tmp 47) rfl W.heap.size (zV aN op m ka kb kc kd s) rfl rfl 61 zZ Cd.ah HI rfl (gK.aZ _ _ _ _ _ _ _ _) ?_)
  (try rw [fq]);(try simp only [Exit.inBlock,Exit.then]);refine gX (qJ rfl _ _ W.heap.size 61 (zV aN op m ka kb kc kd s) (0,0) rfl Qt.ah rfl) rfl ?_;exact ⟨_,rfl,Qf,lh⟩
theorem KQ (h:bH w0 W L sb mb rb rp tv kv qv c l) (aN:Bool) (op:Int) (m:Bool) (ka kb kc kd:Nat) (s:ByteArray) (cs:List Fr) (sr:l.aQ=[]) (hc:l.rest=(⟨aN,op,m,[ka,kb,kc,kd],bytes s⟩:Fr) :: cs) (hl:cs.length≤1000000) :
 Calls prog 119 #[.pointer (some ⟨L,4,none⟩)] W fun e w'=>∃ u,e=.returned (.tuple #[(.agg (zV aN op m ka kb kc kd s)),.bool true])∧Sl (bH w0 w' L sb mb rb rp tv kv u c {l with rest:=cs})∧Sl (bY W w' L rb rp tv kv qv tv kv u):=by
 obtain ⟨wa,cz,HB,hH⟩:=zY W zZ 61;have mE:=h.below HB;have me:Sl (∀ j,EU L rb rp tv kv qv j→w0.heap.size≤j∧j<W.heap.size):=⟨fun j e=>h.lu e⟩;have lz:=Sl.mk (bY.below L rb rp tv kv qv HB);have lO:=Sl.mk h.low.size;have HR:=mE.D;rw [hc] at HR;have HC:=mE.C;rw [sr] at HC;obtain rfl:=HC.nil;clear HC;obtain ⟨g,off,cap,rfl,db⟩:=HR.one;obtain ⟨n,hn⟩:=zX cs.length;rw [hn] at HR db mE hl lz me ⊢;have HN:=Sl.mk hn;obtain ⟨AI,-⟩:=HR.range;obtain ⟨-,-,-,-,-,-,c6,c7,-⟩:=mE.cells;have zt:g<wa.heap.size:=HR.lt rfl;have lp:g≠L:=fun e=>mE.qj.2.2.2.2.1 (by rw [← e];rfl)
 have q:∀ j u,(cv (⟨aN,op,m,[ka,kb,kc,kd],bytes s⟩:Fr))[j]? = some u→wa.cell? ⟨g,off+j,none⟩=some u:=AI;have q0:wa.cell? ⟨g,off,none⟩=some (.bool aN):=q 0 _ rfl;have q1:wa.cell? ⟨g,off+1,none⟩=some (.int .i64 op):=q 1 _ rfl;have q2:wa.cell? ⟨g,off+2,none⟩=some (.bool m):=q 2 _ rfl;have q3:wa.cell? ⟨g,off+3,none⟩=some (.int .u8 ((ka:Nat):Int)):=q 3 _ rfl;have q4:wa.cell? ⟨g,off+4,none⟩=some (.int .u8 ((kb:Nat):Int)):=q 4 _ rfl;have q5:wa.cell? ⟨g,off+5,none⟩=some (.int .u8 ((kc:Nat):Int)):=q 5 _ rfl;have q6:wa.cell? ⟨g,off+6,none⟩=some (.int .u8 ((kd:Nat):Int)):=q 6 _ rfl;have q7:wa.cell? ⟨g,off+7,none⟩=some (.string s):=by
  have:=q 7 (.string (aF (bytes s))) rfl;rw [bT] at this;exact this
 obtain ⟨wb,gR,nQ,PH⟩:=iL.tX wa (zV aN op m ka kb kc kd s);have HI:(prog.info? 61).map (·.size)=some ((zV aN op m ka kb kc kd s):Array Value).size:=gK.pU _ _ _ _ _ _ _ _;have Zw:(prog.info? 61).map (·.size)=some (zZ:Array Value).size:=by kernel_rfl
 have mI:(zZ:Array Value).all (·.oneCell')=true:=by simp [Value.oneCell']
 have eK:=mE.below nQ.ah;have ew:=HR.below nQ.ah;have m5:=Sl.mk (lz.ah.trans (bY.below L rb rp tv (.slice none 0 0) (.slice (some ⟨g,off,none⟩) (n+1) cap) nQ.ah));have PJ:wb.heap[W.heap.size]? = some (.cells zZ 61 (0,0)):=ay hH nQ.ah;obtain ⟨m6,qi⟩:=ew.Zv;obtain ⟨-,B0⟩:=ew.range;have B1:=Sl.mk B0;obtain ⟨-,-,-,-,-,-,d6,d7,-⟩:=eK.cells;obtain ⟨wc,sz⟩:=zX (wb.setCells g off I8);rw [sz] at m6 qi;have ry:wb.setCells g off [.bool false,.int .i64 0,.bool false,.int .u8 0,.int .u8 0,.int .u8 0,.int .u8 0,.string {data:=#[]}]=wc:=sz;clear sz AI q HR mE;have Ix:wc.heap[L]? = wb.heap[L]?:=m6.block L eK.lt (fun e=>lp (by injection e with e;exact e.symm));have e7:wc.cell? ⟨L,7,none⟩=some (.slice (some ⟨g,off,none⟩) (n+1) cap):=by rw [DV (w:=wb) Ix];exact d7
 have f7:wc.frozen? ⟨L,7,none⟩=false:=by rw [World.frozen?_of_block (w:=wb) Ix];exact eK.fF 7
 have hgb:g<wb.heap.size:=ew.lt rfl;have hLb:=eK.lt;have Zx:wc.heap[wa.heap.size]? = some (.cells (zV aN op m ka kb kc kd s) 61 (0,0)):=by
  rw [m6.block _ (zl PH.ah) (fun e=>by injection e with e;omega)];exact PH.ah
 have hgW:g<W.heap.size:=(me.ah g (.inr (.inr (.inr (.inr (.inr rfl)))))).2;have hLW:L<W.heap.size:=(me.ah L (.inl rfl)).2;have Zy:wc.heap[W.heap.size]? = some (.cells zZ 61 (0,0)):=by
  rw [m6.block _ (zl PJ) (fun e=>by injection e with e;omega)];exact PJ
 have aeN:W.heap.size≤wa.heap.size:=HB.size;have sg:((n:Int)+1>0)=True:=eq_true (by omega);have eW:((n:Int)+1==0)=false:=mJ.2 (by omega);have lR:∀ V,(Instr.slice 34 (.slice (some ⟨g,off,none⟩) (n+1) cap) (some (.int .i64 1)) none none).run prog V=.ok (.slice (iL.kG (some ⟨g,off,none⟩) 1 cap) n (cap-1)) V:=fun V=>Jd V (some ⟨g,off,none⟩) (n+1) cap (by omega) 1 rfl
 have iv:=Sl.mk eK;have PP:=Sl.mk qi;have mf:=Sl.mk m6;have pE:=Sl.mk Ix;have yq:=Sl.mk Zx;have yv:=Sl.mk Zy;clear m6 qi Ix Zx Zy ew PJ B0 nQ PH HB;clear h eK hc hH sr;by_cases hz:n=0
 ·subst hz
  obtain rfl:cs=[]:=yA HN.ah;obtain ⟨a2,Bs⟩:=zX (iL.kG (some ⟨g,off,none⟩) 1 cap);rw [Bs] at lR;have B4:(wc.setCell ⟨L,7,none⟩ (.slice a2 0 (cap-1))).heap[L]? = some (.cells #[.int .i64 (c.bh:Int),.int .i64 (c.bR:Int),.pointer (some ⟨sb,0,none⟩),.pointer (some ⟨mb,0,none⟩),.pointer (some ⟨rb,0,none⟩),tv,(.slice none 0 0),(.slice a2 0 (cap-1)),.bool (!c.af),.int .u32 (l.bu:Int),.int .i64 (l.ag:Int),.bool l.am] 80 (0,0)):=by rw [lF _ _ _ _ _ _ (pE.ah.trans iv.ah.X)];rfl
  obtain ⟨wd,kI⟩:=zX (wc.setCell ⟨L,7,none⟩ (.slice a2 0 (cap-1)));have fS:wc.grownBy wd (some L):=by rw [← kI];exact aH _ _ _ _
  rw [kI] at B4;have i7:wd.cell? ⟨L,7,none⟩=some (.slice a2 0 (cap-1)):=by rw [jg _ _ _ _ _ _ B4];rfl
  have j7:wd.frozen? ⟨L,7,none⟩=false:=kT _ _ _ _ _ B4;have PQ:(wd.setCell ⟨L,7,none⟩ (.slice none 0 0)).heap[L]? = some (.cells #[.int .i64 (c.bh:Int),.int .i64 (c.bR:Int),.pointer (some ⟨sb,0,none⟩),.pointer (some ⟨mb,0,none⟩),.pointer (some ⟨rb,0,none⟩),tv,(.slice none 0 0),(.slice none 0 0),.bool (!c.af),.int .u32 (l.bu:Int),.int .i64 (l.ag:Int),.bool l.am] 80 (0,0)):=by rw [lF _ _ _ _ _ _ B4];rfl
  obtain ⟨we,t6⟩:=zX (wd.setCell ⟨L,7,none⟩ (.slice none 0 0));have eg:wd.grownBy we (some L):=by rw [← t6];exact aH _ _ _ _
  rw [t6] at PQ;have yy:∀ k,k<wb.heap.size→k≠g→k≠L→we.heap[k]? = wb.heap[k]?:=fun k hk h1 h2=>by
   have s1:=mf.ah.size;have s2:=fS.size;rw [eg.block k (by omega) (fun e=>h2 (by injection e with e)),fS.block k (by omega) (fun e=>h2 (by injection e with e)),mf.ah.block k hk (fun e=>h1 (by injection e with e))]
  have Fu:bM (fun j=>j=L∨(Value.slice none 0 0).ownBlock=some j∨(Value.slice (some ⟨g,off,none⟩) (0+1) cap).ownBlock=some j) wb we :=
   ((bM.grown (S:=fun j=>j=L∨(Value.slice none 0 0).ownBlock=some j∨(Value.slice (some ⟨g,off,none⟩) (0+1) cap).ownBlock=some j) mf.ah (fun k e=>by injection e with e;subst e;exact .inr (.inr rfl))).trans (bM.grown (S:=fun j=>j=L) fS (fun k e=>by injection e with e;exact e.symm)) (fun j _ e=>.inl e)).trans (bM.grown (S:=fun j=>j=L) eg (fun k e=>by injection e with e;exact e.symm)) (fun j _ e=>.inl e)
  obtain ⟨cV,mi⟩:=iv.ah.step (m:={l with rest:=[]}) (kv':=.slice none 0 0) (cQ:=.slice none 0 0) Fu PQ rfl (iv.ah.T.kept fun k e=>by
   obtain ⟨a1,a2,a3,a4,a5⟩:=iv.ah.tn k e;exact yy k (iv.ah.T.Ja e).2.2 (fun e2=>a5 (by rw [e2];rfl)) a1) (iv.ah.C.block fun k e=>by cases e) (sF _ _) iv.ah.dr (fun k e=>.inl e) (fun k e=>.inl e) (fun k e=>by cases e) (fun k e e2=>absurd (iv.ah.T.Ja e).2.2 (by omega)) (fun k e _ e2=>e2) (fun k e _ e2=>by cases e2) (fun k e e2=>by cases e)
  have lc:=Sl.mk cV;have iS:=Sl.mk (m5.ah.trans mi);have Ca:Sl (we.heap[wa.heap.size]? = some (.cells (zV aN op m ka kb kc kd s) 61 (0,0))):=⟨by
   have s1:=(zl yq.ah);rw [eg.block _ (by have:=fS.size;omega) (fun e=>by injection e with e;omega),fS.block _ s1 (fun e=>by injection e with e;omega)];exact yq.ah⟩
  have Cd:Sl (we.heap[W.heap.size]? = some (.cells zZ 61 (0,0))):=⟨by
   have s1:=(zl yv.ah);rw [eg.block _ (by have:=fS.size;omega) (fun e=>by injection e with e;omega),fS.block _ s1 (fun e=>by injection e with e;omega)];exact yv.ah⟩
  have P0:Sl (∀ j,EU L rb rp tv (.slice none 0 0) (.slice none 0 0) j→j<W.heap.size):=⟨fun j e=>(me.ah j (by
   rcases e with e | e | e | e | e | e
   ·exact .inl e
   ·exact .inr (.inl e)
   ·exact .inr (.inr (.inl e))
   ·exact .inr (.inr (.inr (.inl e)))
   ·cases e
   ·cases e)).2⟩
  clear cV mi Fu yy B4 PQ fS eg iv PP mf pE yq yv m5;go_enter func119,ntmps119;go_upto_region 1 with fail
  (try rw [cz]);clear cz;go_upto_region 7 with (refine fG rfl 61 (.tmp 5) (.tmp 28) rfl wa.heap.size (zV aN op m ka kb kc kd s) rfl rfl 61 zZ (gK.dQ wa _) HI rfl (gK.aZ _ _ _ _ _ _ _ _) ?_)
  (try rw [gR]);clear gR c6 c7 q0 q1 q2 q3 q4 q5 q6 q7;go_upto_region 8 with (refine wpList_store_mid rfl 61 (.tmp 33) (.tmp 32) rfl g off zZ rfl rfl B1.ah Zw mI ?_)
  (try rw [ry]);clear ry d6 d7;go_upto_region 9 with fail
  (try rw [kI]);clear kI e7 f7;go_upto_region 11 with fail
  (try rw [t6]);clear t6 i7 j7;obtain ⟨b0,b1,b2,b3,b4,b5,b6,b7⟩:=gK.bG Ca.ah;obtain ⟨wz,fq⟩:=zX (we.setRow W.heap.size (zV aN op m ka kb kc kd s));have m6:we.grownBy wz (some W.heap.size):=by rw [← fq];exact bZ _ _ _
  have Cg:wz.heap[W.heap.size]? = some (.cells (zV aN op m ka kb kc kd s) 61 (0,0)):=by rw [← fq];exact gY _ _ _ _ _ _ Cd.ah
  have lv:bM (fun j=>j=W.heap.size) we wz:=bM.grown m6 (fun j e=>by injection e with e;exact e.symm);have Qf:=Sl.mk (lc.ah.pZ lv (fun j e=>by
   have h1:=P0.ah j e;omega) (lv.up lc.ah.low (fun j e=>by have:=lO.ah;omega) lc.ah.low.size))
  have lh:=Sl.mk (iS.ah.fH lv (fun j e=>by omega));have Qt:=Sl.mk Cg;clear m6 Cg lv lc iS Ca;go_wp2_with (refine fG rfl 61 (.tmp 2) (.tmp 47) rfl W.heap.size (zV aN op m ka kb kc kd s) rfl rfl 61 zZ Cd.ah HI rfl (gK.aZ _ _ _ _ _ _ _ _) ?_)
  (try rw [fq]);(try simp only [Exit.inBlock,Exit.then]);refine gX (qJ rfl _ _ W.heap.size 61 (zV aN op m ka kb kc kd s) (0,0) rfl Qt.ah rfl) rfl ?_;exact ⟨_,rfl,Qf,lh⟩
 ·have sC:0<cs.length:=by have:=HN.ah;omega
  have fk:iL.kG (some ⟨g,off,none⟩) 1 cap=some ⟨g,off+8,none⟩:=by
   unfold iL.kG;rw [if_neg (by omega)];simp [DD]
  rw [fk] at lR;have eA:=PP.ah sC;rw [HN.ah] at eA;obtain ⟨cV,mi⟩:=iv.ah.XF (u:=.slice (some ⟨g,off+8,none⟩) n (cap-1)) mf.ah rfl (fun k e=>by
   have e:some g=some k:=e;injection e with e;exact e.symm) eA
  obtain ⟨wd,kI⟩:=zX (wc.setCell ⟨L,7,none⟩ (.slice (some ⟨g,off+8,none⟩) n (cap-1)));have fS:wc.grownBy wd (some L):=by rw [← kI];exact aH _ _ _ _
  rw [kI] at cV mi;have hq:((n:Int)==0)=false:=mJ.2 (by omega);obtain ⟨-,-,-,-,-,-,i6,i7,-⟩:=cV.cells;have lc:=Sl.mk cV;have iS:=Sl.mk (m5.ah.trans mi);have Ca:Sl (wd.heap[wa.heap.size]? = some (.cells (zV aN op m ka kb kc kd s) 61 (0,0))):=⟨by
   rw [fS.block _ (zl yq.ah) (fun e=>by injection e with e;omega)];exact yq.ah⟩
  have Cd:Sl (wd.heap[W.heap.size]? = some (.cells zZ 61 (0,0))):=⟨by
   rw [fS.block _ (zl yv.ah) (fun e=>by injection e with e;omega)];exact yv.ah⟩
  have P0:Sl (∀ j,EU L rb rp tv (.slice none 0 0) (.slice (some ⟨g,off+8,none⟩) n (cap-1)) j→j<W.heap.size):=⟨fun j e=>(me.ah j e).2⟩;clear cV mi eA fS iv PP mf pE yq yv m5;go_enter func119,ntmps119;go_upto_region 1 with fail
  (try rw [cz]);clear cz;go_upto_region 7 with (refine fG rfl 61 (.tmp 5) (.tmp 28) rfl wa.heap.size (zV aN op m ka kb kc kd s) rfl rfl 61 zZ (gK.dQ wa _) HI rfl (gK.aZ _ _ _ _ _ _ _ _) ?_)
  (try rw [gR]);clear gR c6 c7 q0 q1 q2 q3 q4 q5 q6 q7;go_upto_region 8 with (refine wpList_store_mid rfl 61 (.tmp 33) (.tmp 32) rfl g off zZ rfl rfl B1.ah Zw mI ?_)
  (try rw [ry]);clear ry d6 d7;go_upto_region 9 with fail
  (try rw [kI]);clear kI e7 f7;go_upto_region 11 with fail
  clear i6 i7 hq;obtain ⟨b0,b1,b2,b3,b4,b5,b6,b7⟩:=gK.bG Ca.ah;obtain ⟨wz,fq⟩:=zX (wd.setRow W.heap.size (zV aN op m ka kb kc kd s));have m6:wd.grownBy wz (some W.heap.size):=by rw [← fq];exact bZ _ _ _
  have Cg:wz.heap[W.heap.size]? = some (.cells (zV aN op m ka kb kc kd s) 61 (0,0)):=by rw [← fq];exact gY _ _ _ _ _ _ Cd.ah
  have lv:bM (fun j=>j=W.heap.size) wd wz:=bM.grown m6 (fun j e=>by injection e with e;exact e.symm);have Qf:=Sl.mk (lc.ah.pZ lv (fun j e=>by
   have h1:=P0.ah j e;omega) (lv.up lc.ah.low (fun j e=>by have:=lO.ah;omega) lc.ah.low.size))
  have lh:=Sl.mk (iS.ah.fH lv (fun j e=>by omega));have Qt:=Sl.mk Cg;clear m6 Cg lv lc iS Ca;go_wp2_with (refine fG rfl 61 (.tmp 2) (.tmp 47) rfl W.heap.size (zV aN op m ka kb kc kd s) rfl rfl 61 zZ Cd.ah HI rfl (gK.aZ _ _ _ _ _ _ _ _) ?_)
  (try rw [fq]);(try simp only [Exit.inBlock,Exit.then]);refine gX (qJ rfl _ _ W.heap.size 61 (zV aN op m ka kb kc kd s) (0,0) rfl Qt.ah rfl) rfl ?_;exact ⟨_,rfl,Qf,lh⟩
end
end
open aj (dN dD mv fill put D5 Aj lC)
section
variable {c:Cf} {l:Lg} {f:Fr} {cs:List Fr}
section
variable {w0 W W':World} {L sb mb rb rp:Nat} {tv kv qv:Value} {c:Cf} {l:Lg}
theorem bH.tail (h:bH w0 W L sb mb rb rp tv kv qv c l) (u:Value) (bs:List Nat) (hT:jq W w0.heap.size u bs) (hu:∀ k,qh u=some k→k≠L∧k≠rb∧k≠rp∧kv.ownBlock≠some k∧qv.ownBlock≠some k):bH w0 (W.setCell ⟨L,5,none⟩ u) L sb mb rb rp u kv qv c {l with tail:=bs} :=
 h.set 5 u (m:={l with tail:=bs}) rfl rfl hT h.C h.D h.dr hu h.cn
def TT (W:World) (L i:Nat):Nat:=match W.cell? ⟨L,i,none⟩ with
 | some (.slice _ n _)=>n
 | _=>0
def CS (L:Nat) (W:World):Nat:=TT W L 6+TT W L 7
theorem bH.CS (h:bH w0 W L sb mb rb rp tv kv qv c l):CS L W=l.aQ.length+l.rest.length:=by
 obtain ⟨-,-,-,-,-,-,c6,c7,-⟩:=h.cells;obtain ⟨a,x,e1⟩:=h.C.slice;obtain ⟨b,y,e2⟩:=h.D.slice;unfold jo.CS TT;rw [c6,c7,e1,e2]
theorem yX {n:Nat} (ht:(fill c l).tail=[]) (hc:l.aQ=f :: cs):mv c (n+1) l=mv c n (put c {fill c l with aQ:=cs} f):=by
 rw [mv,if_neg (fun e=>e ht)];have:∀ x:List Fr,x=f :: cs→(match x,l.rest with
  | f :: cs,_=>mv c n (put c {fill c l with aQ:=cs} f)
  | [],f :: r=>mv c n (put c {fill c l with rest:=r} f)
  | [],[]=>fill c l)=mv c n (put c {fill c l with aQ:=cs} f):=fun x e=>by subst e;rfl
 exact this _ hc
theorem uo {n:Nat} (ht:(fill c l).tail=[]) (hc:l.aQ=[]) (hr:l.rest=f :: cs):mv c (n+1) l=mv c n (put c {fill c l with rest:=cs} f):=by
 rw [mv,if_neg (fun e=>e ht)];have:∀ x y:List Fr,x=[]→y=f :: cs→(match x,y with
  | f :: cs,_=>mv c n (put c {fill c l with aQ:=cs} f)
  | [],f :: r=>mv c n (put c {fill c l with rest:=r} f)
  | [],[]=>fill c l)=mv c n (put c {fill c l with rest:=cs} f):=fun x y e e2=>by subst e e2;rfl
 exact this _ _ hc hr
theorem AX {n:Nat} (ht:(fill c l).tail≠[]):mv c n l=fill c l:=by
 cases n with
 | zero=>rfl
 | succ n=>rw [mv,if_pos ht]
theorem CW (h:D5 f∨∃ ae,ae≤65536∧Aj ae f):∃ aN,∃ k:Nat,∃ m,∃ ka kb kc kd:Nat,∃ s,f=(⟨aN,(k:Int),m,[ka,kb,kc,kd],bytes s⟩:Fr)∧aU 256 [ka,kb,kc,kd]∧dF f=true∧s.size≤65536:=by
 have hz:f.af=false∧f.key=bn∧(∀ y∈f.data,y<256)∧dF f=true∧f.data.length≤65536∧0≤f.op:=by
  rcases h with h | ⟨ae,hm,h⟩
  ·have ho:8≤f.op∧f.op≤10:=by rcases h.op with e | e | e<;>omega
   exact ⟨h.af,h.key,h.fO,aC.jC ⟨.inr ⟨ho.1,ho.2,h.aN,h.len⟩,.inr h.key⟩,by have:=h.len;omega,by omega⟩
  ·have ho:0≤f.op∧f.op≤2:=by rcases h.op with e | e | e<;>omega
   exact ⟨h.af,h.key,h.fO,aC.jC ⟨.inl ho,.inr h.key⟩,by have:=h.len;omega,ho.1⟩
 obtain ⟨h1,h2,h3,h4,h5,h6⟩:=hz;refine ⟨f.aN,f.op.toNat,f.af,0,0,0,0,aF f.data,?_,fun x hx=>by simp at hx;omega,h4,by rw [cZ];exact h5⟩;obtain ⟨aN,op,m,key,data⟩:=f;simp only at h1 h2 h3 h6;rw [dm data h3,h2,show ((op.toNat:Nat):Int)=op by omega];rfl
theorem bY.KT {V:World} {t1 k1 q1:Value} (h:bY W V L rb rp tv kv qv t1 k1 q1) (i:Nat) (u:Value) {t2:Value} (ht:∀ k,qh t2=some k→W.heap.size≤k):bY W (V.setCell ⟨L,i,none⟩ u) L rb rp tv kv qv t2 k1 q1 :=
 ⟨h.kept.trans (bM.grown (S:=fun k=>k=L) (aH V L i u) (fun k e=>by injection e with e;exact e.symm)) (fun j _ e=>.inl e),fun k e=>by
  rcases e with e | e | e | e | e | e
  ·exact .inl (.inl e)
  ·exact .inl (.inr (.inl e))
  ·exact .inl (.inr (.inr (.inl e)))
  ·exact .inr (ht k e)
  ·exact h.dy k (.inr (.inr (.inr (.inr (.inl e)))))
  ·exact h.dy k (.inr (.inr (.inr (.inr (.inr e)))))⟩
structure MV (w0 W W1:World) (L sb mb rb rp:Nat) (tv kv qv:Value) (c:Cf) (l:Lg) (n:Nat) (l1:Lg) (t1 k1 q1:Value):Prop where
 vu:bH w0 W1 L sb mb rb rp t1 k1 q1 c l1
 ou:bY W W1 L rb rp tv kv qv t1 k1 q1
 du:n=l1.aQ.length+l1.rest.length
 eq:mv c n l1=mv c (l.aQ.length+l.rest.length) l
 aQ:∀ f∈l1.aQ,D5 f
 rest:∀ f∈l1.rest,Aj c.bR f
 fO:aU 256 l1.tail
 len:l1.tail.length≤100000
 rq:n≤1000000
theorem Pv (l:List Nat) (n m:Nat) (h:min l.length n=m):l.take n=l.take m∧l.drop n=l.drop m:=by
 subst h;by_cases hl:l.length≤n
 ·rw [LX hl,nC hl,Xj hl,List.take_length,List.drop_length];exact ⟨rfl,rfl⟩
 ·rw [Nat.min_eq_right (by omega)];exact ⟨rfl,rfl⟩
theorem qO {P:Program} {md:Region.Mode} {aR:Array Oper} {Q:Exit→Act→World→Prop} {S:World→Prop} {D:Nat→Bool} {fuel:Nat} {ai:Array Bool} {a:Act} {w:World} {d:Option Tmp} {op:Op} {g:Option (Nat×Bool)} (i:Nat) (f:FuncId) (args:Array Value) (hi:pR aR i d op g) (hw:jc aR a g=true)
 (hr:Region.ready md aR ai=[i]) (hy:∀ o:Oper,o.op=op→(execOp a.eval o).run P w=.ok (.enter f args) w)
 (h:Calls P f args w fun e w'=>∃ v,e=.returned v∧S w'∧gq P md aR Q S D fuel (ai.setIfInBounds i true) (a.put d v) w'):gq P md aR Q S D (fuel+1) ai a w:=by
 obtain ⟨o,ho,hd,cY,hg⟩:=uX hi;refine rW hr (by simp) (fun k hk=>?_);rw [uF] at hk;subst hk;refine wpOp_step ho (fun K hK=>?_);rw [if_pos (fJ hg hw)];unfold Oper.wp;rw [hy o cY,Oper.upon_enter];refine h.mono ?_;rintro e w' ⟨v,rfl,Yy,h'⟩;rw [hd];exact hK _ _ ⟨fun _=>Yy,h'⟩
theorem yY (h:bH w0 W L sb mb rb rp tv kv qv c l) (hg:jF.bD w0) (hi:lC c l) (ht:l.tail.length≤100000) (bB:aU 256 l.tail) (hf:c.bR≤65536) (hn:l.aQ.length+l.rest.length≤1000000) :
 Calls prog 90 #[.pointer (some ⟨L,4,none⟩)] W fun e w'=>∃ cP kv' cQ,e=.returned (.tuple #[])∧Sl (bH w0 w' L sb mb rb rp cP kv' cQ c (aj.move c l))∧Sl (bY W w' L rb rp tv kv qv cP kv' cQ):=by
 have cA:Sl (MV w0 W W L sb mb rb rp tv kv qv c l (l.aQ.length+l.rest.length) l tv kv qv):=⟨⟨h,bY.below L rb rp tv kv qv (dW _ _),rfl,rfl,hi.aQ,hi.rest,bB,ht,hn⟩⟩;have HF:=Sl.mk hf;have qu:=Sl.mk hg
 show Calls prog 90 #[.pointer (some ⟨L,4,none⟩)] W fun e w'=>∃ cP kv' cQ,e=.returned (.tuple #[])∧Sl (bH w0 w' L sb mb rb rp cP kv' cQ c (mv c (l.aQ.length+l.rest.length) l))∧Sl (bY W w' L rb rp tv kv qv cP kv' cQ)
 clear h hi ht bB hf hn hg;go_enter func90,ntmps90;go_wp2;go_loopw [] (fun wr=>∃ (n:Nat) (l1:Lg) (t1 k1 q1:Value),Sl (MV w0 W wr L sb mb rb rp tv kv qv c l n l1 t1 k1 q1)) (fun wr=>CS L wr)
 case atStart=>exact ⟨_,_,_,_,_,cA⟩
 case round =>
  obtain ⟨n,l1,t1,k1,q1,HM⟩:=hrel;clear cA;obtain ⟨xi,ct,rfl,Bu⟩:=HM.ah.vu.T.slice;have Mf:=Sl.mk HM.ah.vu.CS;obtain ⟨tl,Mg⟩:=zX l1.tail.length;rw [Mg] at HM Bu;have o6:=Sl.mk Mg;have aeO:tl≤100000:=by have:=HM.ah.len;omega
  obtain ⟨mm,Ze⟩:=zX (min tl (c.ah-l1.aK.length));obtain ⟨GE,hdp⟩:=Pv l1.tail (c.ah-l1.aK.length) mm (by rw [Mg];exact Ze);have At:=Sl.mk GE;have HDP:=Sl.mk hdp;have hmt:mm≤tl:=by omega
  have PT:Sl (∀ V,Below wr.heap.size wr V→Calls prog 118 #[.pointer (some ⟨rb,0,none⟩),.slice xi tl ct] V fun e w'=>e=.returned (.int .i64 (mm:Int))∧Sl (OT.kH w' rb rp c.ah (l1.aK++l1.tail.take mm))∧Sl (mO V w' rb rp)):=⟨fun V k =>
   (OT.nD w0 V rb rp c.ah mm l1.aK l1.tail _ (HM.ah.vu.low.trans (k.mono HM.ah.vu.low.size)) HM.ah.vu.B.2.1 HM.ah.vu.B.2.2 (HM.ah.vu.below k).R ((HM.ah.vu.below k).T.ace fun j e=>(HM.ah.vu.tn j e).2.2.1) HM.ah.fO HM.ah.len (by rw [o6.ah];exact Ze)).mono fun _ _ ⟨e1,e2,e3,_⟩=>⟨e1,e2,e3⟩⟩
  obtain ⟨-,-,-,-,c4,c5,-⟩:=HM.ah.vu.cells;have IA:=HM.ah.vu.lt;obtain ⟨kn1,kn2,-⟩:=HM.ah.vu.qj;clear Mg GE hdp Ze;go_upto_region 0 with fail
  refine zH (S:=fun V=>V.cell? ⟨L,4,none⟩=some (.pointer (some ⟨rb,0,none⟩))∧V.cell? ⟨L,5,none⟩=some (.slice xi tl ct)) (D:=fun k=>k==17) (by kernel_rfl) (fun Rw aM=>?_);have al:Rw.cell? ⟨L,4,none⟩=some (.pointer (some ⟨rb,0,none⟩))∧Rw.cell? ⟨L,5,none⟩=some (.slice xi tl ct):=⟨(aM.cell (p:=⟨L,4,none⟩) IA).trans c4,(aM.cell (p:=⟨L,5,none⟩) IA).trans c5⟩;refine zP 0 (some 4) (.move (.tmp 0)) _ al ?_;simp only [zA,zB,zS];refine zP 1 (some 5) (.move (.tmp 0)) _ al ?_;simp only [zA,zB,zS];refine zP 2 (some 6) (.nilCheck (.tmp 5)) _ al ?_;simp only [zA,zB,zS];refine zP 3 (some 7) (.fieldAddr 76 (.tmp 6) 1) _ al ?_;simp only [zA,zB,zS];refine zU 4 (some 8) (.load 49 (.tmp 7)) _ al ?_ (hy:=fun o' ho W hS=>by have d5:=hS.2;simp only [execOp,ho];go_simp;try rfl);simp only [zA,zB,zS];refine zP 5 (some 9) (.move (.tmp 0)) _ al ?_;simp only [zA,zB,zS];refine zP 6 (some 10) (.nilCheck (.tmp 9)) _ al ?_;simp only [zA,zB,zS];refine zP 7 (some 11) (.fieldAddr 76 (.tmp 10) 0) _ al ?_;simp only [zA,zB,zS];refine zU 8 (some 12) (.load 74 (.tmp 11)) _ al ?_ (hy:=fun o' ho W hS=>by have d4:=hS.1;simp only [execOp,ho];go_simp;try rfl);simp only [zA,zB,zS];refine zP 9 (some 13) (.move (.tmp 0)) _ al ?_;simp only [zA,zB,zS];refine zP 10 (some 14) (.nilCheck (.tmp 13)) _ al ?_;simp only [zA,zB,zS];refine zP 11 (some 15) (.fieldAddr 76 (.tmp 14) 1) _ al ?_;simp only [zA,zB,zS];refine zU 12 (some 16) (.load 49 (.tmp 15)) _ al ?_ (hy:=fun o' ho W hS=>by have d5:=hS.2;simp only [execOp,ho];go_simp;try rfl);simp only [zA,zB,zS];refine qO (d:=some 17) (op:=.call {callee:=Callee.value (Operand.func 118),args:=#[Operand.tmp 12,Operand.tmp 16],argTypes:=#[74,49]}) (g:=none) 13 118 #[.pointer (some ⟨rb,0,none⟩),.slice xi tl ct] rfl (by kernel_rfl) (by kernel_rfl) ?y13 ?_;case y13=>intro o' ho;simp only [execOp,ho];go_simp;try rfl
  refine (PT.ah Rw aM).mono ?_;rintro e w2 ⟨rfl,ew,x8⟩;have bw:w2.heap[L]? = Rw.heap[L]?:=x8.ah.block L (NQ IA aM.size) kn1 kn2;have cT:w2.cell? ⟨L,4,none⟩=some (.pointer (some ⟨rb,0,none⟩))∧w2.cell? ⟨L,5,none⟩=some (.slice xi tl ct):=⟨by rw [DV (w:=Rw) bw];exact al.1,by rw [DV (w:=Rw) bw];exact al.2⟩;refine ⟨_,rfl,cT,?_⟩;simp only [zA,zB,zS];refine zP 14 (some 18) (.slice 49 (.tmp 8) (some (.tmp 17)) none none) (.slice (jy xi mm ct) (tl-mm) (ct-mm)) cT ?_ (hy:=fun o' ho W=>jS.vk ho rfl rfl hmt);simp only [zA,zB,zS];refine zP 15 (some 19) (.nilCheck (.tmp 4)) _ cT ?_;simp only [zA,zB,zS];refine zP 16 (some 20) (.fieldAddr 76 (.tmp 19) 1) _ cT ?_;simp only [zA,zB,zS];obtain ⟨eK,dE⟩:=(HM.ah.vu.below aM).aK (m:={l1 with aK:=l1.aK++l1.tail.take mm}) x8.ah ew.ah rfl rfl rfl rfl rfl rfl;obtain ⟨hT3,Hx⟩:=eK.T.from mm hmt;have nl:=eK.tail _ _ hT3 (fun k e=>eK.tn k (Hx k e));have f5:w2.frozen? ⟨L,5,none⟩=false:=eK.fF 5;have s5:w2.cell? ⟨L,5,none⟩=some (.slice xi tl ct):=cT.2;have dt:=Sl.mk (((HM.ah.ou.trans (bY.below L rb rp _ _ _ aM)).trans dE).trans (sG w2 L rb rp _ _ _ 5 (.slice (jy xi mm ct) (tl-mm) (ct-mm)) (cP:=.slice (jy xi mm ct) (tl-mm) (ct-mm)) (fun k e=>.inl (Hx k e)) (fun k e=>.inl e) (fun k e=>.inl e)));obtain ⟨rr,pt⟩:=zX (tl-mm);rw [pt] at nl dt;rw [pt];obtain ⟨w3,cH⟩:=zX (w2.setCell ⟨L,5,none⟩ (.slice (jy xi mm ct) rr (ct-mm)));refine kU (d:=none) (op:=.store 49 (Operand.tmp 20) (Operand.tmp 18)) (g:=none) (t:=0) 17 (w2.setCell ⟨L,5,none⟩ (.slice (jy xi mm ct) rr (ct-mm))) rfl (by kernel_rfl) (by kernel_rfl) ?y17 (by kernel_rfl) ?_;case y17=>intro o' ho ht;simp only [execOp,ho];go_simp;try rfl
  simp only [Act.put];rw [cH];rw [cH] at nl dt;refine zF (by kernel_rfl) ?_;have QP:Sl (bH w0 w3 L sb mb rb rp (.slice (jy xi mm ct) rr (ct-mm)) k1 q1 c (fill c l1)):=⟨by
   unfold aj.fill;rw [At.ah,HDP.ah];exact nl⟩
  have oR:Sl ((fill c l1).tail.length=rr):=⟨by
   show (l1.tail.drop (c.ah-l1.aK.length)).length=rr
   rw [HDP.ah,iP,o6.ah];exact pt⟩
  clear nl x8 ew bw cT al aM PT eK dE hT3 Hx f5 s5 c4 c5 pt At HDP cH hmt aeO o6;obtain ⟨-,-,-,-,-,d5,-⟩:=QP.ah.cells;by_cases Ek:0<rr
  ·have hq:((rr:Int)>0)=True:=eq_true (by omega)
   have Mh:(0<rr)=True:=eq_true Ek;have Zz:Sl (mv c (l.aQ.length+l.rest.length) l=fill c l1):=⟨by
    rw [← HM.ah.eq];exact AX (fun e=>by have:=oR.ah;rw [e,Eg] at this;omega)⟩
   clear HM Ek;go_wp2;(try simp only [Exit.inBlock,Exit.then]);refine gX (results_none rfl _ _ _) rfl ?_;rw [Zz.ah];exact ⟨_,_,_,rfl,QP,dt⟩
  ·obtain rfl:rr=0:=by omega
   have hq:(((0:Nat):Int)>0)=False:=dR (by omega);have HT0:Sl ((fill c l1).tail=[]):=⟨yA oR.ah⟩;have cU:l1.aQ.length≤1000000∧l1.rest.length≤1000000:=by have:=HM.ah.rq;have:=HM.ah.du;omega
   cases hc:l1.aQ with
   | cons f cs =>
     have QQ:=HM.ah.aQ f (by rw [hc];exact rD);obtain ⟨aN,k,m,ka,kb,kc,kd,s,rfl,Dr,vv,gh⟩:=CW (f:=f) (.inl QQ);have W7:=Sl.mk QQ;have NX:=Pq QP.ah aN (k:Int) m ka kb kc kd s cs hc (by rw [hc] at cU;rw [jE] at cU;omega);clear QQ;go_upto_region 2 with fail
     go_wp2_with fail
     refine NX.mono ?_;rintro e w4 ⟨u,rfl,pj,oF⟩;clear NX d5;obtain ⟨w5,dq,ch,sL⟩:=iL.tX w4 (zV aN (k:Int) m ka kb kc kd s);have vx:(prog.info? 61).map (·.size)=some ((zV aN (k:Int) m ka kb kc kd s):Array Value).size:=gK.pU _ _ _ _ _ _ _ _;go_upto_region 3 with (refine fG rfl 61 (.tmp 2) (.tmp 30) rfl w4.heap.size (zV aN (k:Int) m ka kb kc kd s) rfl rfl 61 zZ (gK.dQ w4 _) vx rfl (gK.aZ _ _ _ _ _ _ _ _) ?_)
     (try rw [dq]);clear dq vx;have mj:=Sl.mk (pj.ah.below ch.ah);have gw:=Sl.mk ((dt.ah.trans oF.ah).trans (bY.below L rb rp _ _ _ ch.ah));obtain ⟨b0,b1,b2,b3,b4,b5,b6,b7⟩:=gK.bG sL.ah;have OB:=CQ mj.ah qu.ah aN k m ka kb kc kd s Dr vv gh;clear pj oF ch sL dt Dr vv gh;go_wp2_with fail
     refine OB.mono ?_;rintro e w6 ⟨g,n6,nW,rfl,eg,IH,oS,gL⟩;clear OB b0 b1 b2 b3 b4 b5 b6 b7;have ZA:∀ j,qh (.slice (some ⟨g,0,none⟩) n6 nW)=some j→j=g:=fun j e=>by
      rw [lg] at e;split at e
      ·cases e
      ·injection e with e;exact e.symm
     have ml:∀ j,EU L rb rp (.slice (jy xi mm ct) 0 (ct-mm)) u q1 j→j<w5.heap.size:=fun j e=>(mj.ah.lu e).2
     have t7:=oS.ah.tail _ _ IH.ah (fun j e=>by
      have hj:=ZA j e;have a1:=ml L (.inl rfl);have a2:=ml rb (.inr (.inl rfl));have a3:=ml rp (.inr (.inr (.inl rfl)));refine ⟨by omega,by omega,by omega,fun e2=>?_,fun e2=>?_⟩
      ·have:=ml j (.inr (.inr (.inr (.inr (.inl e2)))));omega
      ·have:=ml j (.inr (.inr (.inr (.inr (.inr e2)))));omega)
     have f5:=oS.ah.fF 5;obtain ⟨-,-,-,-,-,s5,-⟩:=oS.ah.cells;have gH:=Sl.mk (gw.ah.trans (gL.ah.KT 5 (.slice (some ⟨g,0,none⟩) n6 nW) (t2:=.slice (some ⟨g,0,none⟩) n6 nW) (fun j e=>by have:=ZA j e;omega)));obtain ⟨w7,gk⟩:=zX (w6.setCell ⟨L,5,none⟩ (.slice (some ⟨g,0,none⟩) n6 nW));rw [gk] at t7 gH;obtain ⟨np,W8⟩:∃ np,n=np+1:=⟨n-1,by have:=HM.ah.du;rw [hc,jE] at this;omega⟩;subst W8;have Q0:=HM.ah.du;have vy:=HM.ah.rq;rw [hc,jE] at Q0;have IN:=aj.D5.ah (c:=c) W7.ah (dD c (fill c l1).bu);have L5:=t7.CS;have et:Sl (MV w0 W w7 L sb mb rb rp tv kv qv c l np (put c {fill c l1 with aQ:=cs} (⟨aN,(k:Int),m,[ka,kb,kc,kd],bytes s⟩:Fr)) (.slice (some ⟨g,0,none⟩) n6 nW) u q1):=⟨{
      vu:=t7.xH rfl rfl rfl rfl rfl rfl rfl
      ou:=gH.ah
      du:=by show np=cs.length+l1.rest.length;omega
      eq:=by rw [← HM.ah.eq];exact (yX HT0.ah hc).symm
      aQ:=fun x hx=>HM.ah.aQ x (by rw [hc];exact uK _ hx)
      rest:=HM.ah.rest
      fO:=IN.KH HF.ah
      len:=by
       have h1:=aj.AU IN HF.ah;have h2:=IN.len;have h3:=HF.ah
       show (aT (dN c (dD c (fill c l1).bu) (⟨aN,(k:Int),m,[ka,kb,kc,kd],bytes s⟩:Fr))).length≤100000
       omega
      rq:=by omega}⟩
     have Q6:CS L w7<CS L wr:=by
      rw [L5,Mf.ah]
      show cs.length+l1.rest.length<_;rw [hc,jE];omega
     clear oS IH gL gw ml L5 IN t7;go_wp2;(try rw [gk]);exact ⟨⟨np,_,_,_,_,et⟩,Q6⟩
   | nil =>
     cases hcr:l1.rest with
     | cons f cs =>
       have QQ:=HM.ah.rest f (by rw [hcr];exact rD);obtain ⟨aN,k,m,ka,kb,kc,kd,s,rfl,Dr,vv,gh⟩:=CW (f:=f) (.inr ⟨c.bR,HF.ah,QQ⟩);have W7:=Sl.mk QQ;have NX:=KQ QP.ah aN (k:Int) m ka kb kc kd s cs hc hcr (by rw [hcr] at cU;rw [jE] at cU;omega);clear QQ;go_upto_region 2 with fail
       go_wp2_with fail
       refine NX.mono ?_;rintro e w4 ⟨u,rfl,pj,oF⟩;clear NX d5;obtain ⟨w5,dq,ch,sL⟩:=iL.tX w4 (zV aN (k:Int) m ka kb kc kd s);have vx:(prog.info? 61).map (·.size)=some ((zV aN (k:Int) m ka kb kc kd s):Array Value).size:=gK.pU _ _ _ _ _ _ _ _;go_upto_region 3 with (refine fG rfl 61 (.tmp 2) (.tmp 30) rfl w4.heap.size (zV aN (k:Int) m ka kb kc kd s) rfl rfl 61 zZ (gK.dQ w4 _) vx rfl (gK.aZ _ _ _ _ _ _ _ _) ?_)
       (try rw [dq]);clear dq vx;have mj:=Sl.mk (pj.ah.below ch.ah);have gw:=Sl.mk ((dt.ah.trans oF.ah).trans (bY.below L rb rp _ _ _ ch.ah));obtain ⟨b0,b1,b2,b3,b4,b5,b6,b7⟩:=gK.bG sL.ah;have OB:=CQ mj.ah qu.ah aN k m ka kb kc kd s Dr vv gh;clear pj oF ch sL dt Dr vv gh;go_wp2_with fail
       refine OB.mono ?_;rintro e w6 ⟨g,n6,nW,rfl,eg,IH,oS,gL⟩;clear OB b0 b1 b2 b3 b4 b5 b6 b7;have ZA:∀ j,qh (.slice (some ⟨g,0,none⟩) n6 nW)=some j→j=g:=fun j e=>by
        rw [lg] at e;split at e
        ·cases e
        ·injection e with e;exact e.symm
       have ml:∀ j,EU L rb rp (.slice (jy xi mm ct) 0 (ct-mm)) k1 u j→j<w5.heap.size:=fun j e=>(mj.ah.lu e).2
       have t7:=oS.ah.tail _ _ IH.ah (fun j e=>by
        have hj:=ZA j e;have a1:=ml L (.inl rfl);have a2:=ml rb (.inr (.inl rfl));have a3:=ml rp (.inr (.inr (.inl rfl)));refine ⟨by omega,by omega,by omega,fun e2=>?_,fun e2=>?_⟩
        ·have:=ml j (.inr (.inr (.inr (.inr (.inl e2)))));omega
        ·have:=ml j (.inr (.inr (.inr (.inr (.inr e2)))));omega)
       have f5:=oS.ah.fF 5;obtain ⟨-,-,-,-,-,s5,-⟩:=oS.ah.cells;have gH:=Sl.mk (gw.ah.trans (gL.ah.KT 5 (.slice (some ⟨g,0,none⟩) n6 nW) (t2:=.slice (some ⟨g,0,none⟩) n6 nW) (fun j e=>by have:=ZA j e;omega)));obtain ⟨w7,gk⟩:=zX (w6.setCell ⟨L,5,none⟩ (.slice (some ⟨g,0,none⟩) n6 nW));rw [gk] at t7 gH;obtain ⟨np,W8⟩:∃ np,n=np+1:=⟨n-1,by have:=HM.ah.du;rw [hcr,jE] at this;omega⟩;subst W8;have Q0:=HM.ah.du;have vy:=HM.ah.rq;rw [hc,hcr,jE,Eg] at Q0;have IN:=aj.Aj.ah (c:=c) W7.ah (dD c (fill c l1).bu);have L5:=t7.CS;have et:Sl (MV w0 W w7 L sb mb rb rp tv kv qv c l np (put c {fill c l1 with rest:=cs} (⟨aN,(k:Int),m,[ka,kb,kc,kd],bytes s⟩:Fr)) (.slice (some ⟨g,0,none⟩) n6 nW) k1 u):=⟨{
        vu:=t7.xH rfl rfl rfl rfl rfl rfl rfl
        ou:=gH.ah
        du:=by show np=l1.aQ.length+cs.length;rw [hc,Eg];omega
        eq:=by rw [← HM.ah.eq];exact (uo HT0.ah hc hcr).symm
        aQ:=HM.ah.aQ
        rest:=fun x hx=>HM.ah.rest x (by rw [hcr];exact uK _ hx)
        fO:=IN.KH HF.ah
        len:=by
         have h1:=aj.AU IN HF.ah;have h2:=IN.len;have h3:=HF.ah
         show (aT (dN c (dD c (fill c l1).bu) (⟨aN,(k:Int),m,[ka,kb,kc,kd],bytes s⟩:Fr))).length≤100000
         omega
        rq:=by omega}⟩
       have Q6:CS L w7<CS L wr:=by
        rw [L5,Mf.ah]
        show l1.aQ.length+cs.length<_;rw [hcr,jE];omega
       clear oS IH gL gw ml L5 IN t7;go_wp2;(try rw [gk]);exact ⟨⟨np,_,_,_,_,et⟩,Q6⟩
     | nil =>
       have NX:=KP QP.ah hc hcr;have Zz:Sl (mv c (l.aQ.length+l.rest.length) l=fill c l1):=⟨by
        rw [← HM.ah.eq,HM.ah.du,hc,hcr];rfl⟩
       clear HM;go_upto_region 2 with fail
       go_wp2_with fail
       refine NX.mono ?_;rintro e w4 ⟨rfl,br⟩;clear NX d5;obtain ⟨w5,dq,ch,sL⟩:=iL.tX w4 zZ;have vx:(prog.info? 61).map (·.size)=some (zZ:Array Value).size:=by kernel_rfl
       have mI:(zZ:Array Value).all (·.oneCell')=true:=by simp [Value.oneCell']
       go_upto_region 3 with (refine fG rfl 61 (.tmp 2) (.tmp 30) rfl w4.heap.size zZ rfl rfl 61 zZ (gK.dQ w4 _) vx rfl mI ?_)
       (try rw [dq]);clear dq vx mI;have mj:=(QP.ah.below br.ah).below ch.ah;have f5:=mj.fF 5;obtain ⟨-,-,-,-,-,s5,-⟩:=mj.cells;have oS:=Sl.mk ((mj.tail (.slice none 0 0) [] (I9 _ _) (fun k e=>by cases e)).xH (m:=fill c l1) rfl HT0.ah rfl rfl rfl rfl rfl);have gL:=Sl.mk (((dt.ah.trans (bY.below L rb rp _ _ _ br.ah)).trans (bY.below L rb rp _ _ _ ch.ah)).KT 5 (.slice none 0 0) (t2:=.slice none 0 0) (fun k e=>by cases e));obtain ⟨w6,iB⟩:=zX (w5.setCell ⟨L,5,none⟩ (.slice none 0 0));rw [iB] at oS gL;clear mj br ch dt QP sL;go_wp2;(try rw [iB]);(try simp only [Exit.inBlock,Exit.then]);refine gX (results_none rfl _ _ _) rfl ?_;rw [Zz.ah];exact ⟨_,_,_,rfl,oS,gL⟩
end
end
open aj (gV kV qL)
section
variable {m:Lg}
section
variable {w0 W W':World} {L sb mb rb rp:Nat} {tv kv qv:Value} {c:Cf} {l:Lg}
theorem Px {Wa:World} (ha:bH w0 Wa L sb mb rb rp tv kv qv c l) (hb:Below Wa.heap.size Wa W) (hg:jF.bD w0) {v:Value} (hv:iF W w0.heap.size v m.rest) (fk:∀ k,v.ownBlock=some k→Wa.heap.size≤k) (e1:m.aK=l.aK) (e2:m.tail=l.tail) (e3:m.aQ=l.aQ) (e5:m.bu=l.bu) (e6:m.ag=l.ag) (e7:m.am=l.am) (hi:lC c m) (ht:m.tail.length≤100000) (bB:aU 256 m.tail) (hf:c.bR≤65536) (hn:m.aQ.length+m.rest.length≤1000000) :
 Calls prog 56 #[.pointer (some ⟨L,4,none⟩),v] W fun e w'=>∃ cP kv' cQ,e=.returned (.tuple #[])∧Sl (bH w0 w' L sb mb rb rp cP kv' cQ c (aj.move c m))∧Sl (bY Wa w' L rb rp tv kv qv cP kv' cQ):=by
 have h:=ha.below hb;have HO:∀ j,EU L rb rp tv kv qv j→j<Wa.heap.size:=fun j e=>(ha.lu e).2
 have Ra:=h.set 7 v (m:=m) (cP:=tv) (kv':=kv) (cQ:=v) (by rw [e5,e6,e7];rfl) e1 (by rw [e2];exact h.T) (by rw [e3];exact h.C) hv (by rw [e5];exact h.dr) (fun k e=>by
  obtain ⟨a1,a2,a3,a4,a5⟩:=h.tn k e;exact ⟨a1,a2,a3,a4,fun e2=>by have:=HO k (.inr (.inr (.inr (.inl e))));have:=fk k e2;omega⟩) (fun k e e2=>by have:=HO k (.inr (.inr (.inr (.inr (.inl e)))));have:=fk k e2;omega)
 have fh:bY Wa (W.setCell ⟨L,7,none⟩ v) L rb rp tv kv qv tv kv v:=by
  have k0:=bY.below L rb rp tv kv qv hb;exact ⟨k0.kept.trans (bM.grown (S:=fun k=>k=L) (aH W L 7 v) (fun k e=>by injection e with e;exact e.symm)) (fun j _ e=>.inl e),fun k e=>by
   rcases e with e | e | e | e | e | e
   ·exact .inl (.inl e)
   ·exact .inl (.inr (.inl e))
   ·exact .inl (.inr (.inr (.inl e)))
   ·exact .inl (.inr (.inr (.inr (.inl e))))
   ·exact .inl (.inr (.inr (.inr (.inr (.inl e)))))
   ·exact .inr (fk k e)⟩
 obtain ⟨a,x,rfl⟩:=hv.slice;obtain ⟨V,hV⟩:=zX (W.setCell ⟨L,7,none⟩ (.slice a m.rest.length x));rw [hV] at Ra fh;obtain ⟨-,-,-,-,-,-,-,c7,-⟩:=h.cells;have f7:=h.fF 7;have T:=yY Ra hg hi ht bB hf hn;have HG:=Sl.mk fh;obtain ⟨n,pD⟩:=zX m.rest.length;rw [pD] at hV T HG ⊢;clear ha hb hg h HO Ra fh hv fk hi ht bB hf hn pD;go_enter func56,ntmps56;go_upto_region 1 with fail
 (try rw [hV]);go_wp2_with fail
 refine T.mono ?_;rintro e w2 ⟨t2,k2,q2,rfl,HL,dE⟩;clear T;go_wp2;go_end0
 exact ⟨_,_,_,rfl,HL,⟨HG.ah.trans dE.ah⟩⟩
theorem bH.acp (h:bH w0 W L sb mb rb rp tv kv qv c l) {V:World} {u:Value} (hg:W.grownBy V kv.ownBlock) (hu:u.ownBlock=kv.ownBlock∨u.ownBlock=some W.heap.size) (hr:iF V w0.heap.size u m.aQ) (e1:m.aK=l.aK) (e2:m.tail=l.tail) (e4:m.rest=l.rest) (e5:m.bu=l.bu) (e6:m.ag=l.ag) (e7:m.am=l.am) :
 bH w0 (V.setCell ⟨L,6,none⟩ u) L sb mb rb rp tv u qv c m∧bY W (V.setCell ⟨L,6,none⟩ u) L rb rp tv kv qv tv u qv:=by
 obtain ⟨n1,n2,n3,n4,n5,n6,n7,n8,n9⟩:=h.qj;have bz:=h.lt;have hX:V.heap[L]? = W.heap[L]?:=hg.block L bz (fun e=>n4 e.symm);have tW:=aH V L 6 u;have hul:u.ownBlock≠some L:=fun e=>by
  rcases hu with h1 | h1
  ·exact n4 (h1.symm.trans e)
  ·rw [h1] at e;injection e with e;omega
 refine h.step (m:=m) ((bM.grown (S:=fun j=>j=L∨kv.ownBlock=some j∨qv.ownBlock=some j) hg (fun k e=>.inr (.inl e))).trans (bM.grown (S:=fun j=>j=L) tW (fun k e=>by injection e with e;exact e.symm)) (fun j _ e=>.inl e)) ?_ e1 ?_ ?_ ?_ (by rw [e5];exact h.dr) (fun k e=>.inl e) (fun k e=>?_) (fun k e=>.inl e) (fun k e e2=>absurd (h.T.Ja e).2.2 (by omega)) (fun k e hl e2=>?_) (fun k e _ e2=>e2) (fun k e e2=>fun e3=>by have:=h.D.lt e3;omega)
 ·rw [lF _ _ _ _ _ _ (hX.trans h.X),e5,e6,e7];rfl
 ·rw [e2]
  exact h.T.kept fun k e=>by
   obtain ⟨a1,a2,a3,a4,a5⟩:=h.tn k e;rw [pI _ _ _ _ a1];exact hg.block k (h.T.Ja e).2.2 (fun e2=>a4 e2.symm)
 ·exact hr.grown tW (fun j e e2=>hul (e.trans e2))
 ·rw [e4]
  refine h.D.block fun j e=>?_
  rw [pI _ _ _ _ (fun (e2:j=L)=>n5 (e2 ▸ e))];exact hg.block j (h.D.lt e) (fun e2=>h.cn _ e2.symm e)
 ·rcases hu with h1 | h1
  ·exact .inl (h1.symm.trans e)
  ·rw [h1] at e;injection e with e;exact .inr (by omega)
 ·rcases hu with h1 | h1
  ·exact h1.symm.trans e2
  ·rw [h1] at e2;injection e2 with e2;omega
theorem qP (h:bH w0 W L sb mb rb rp tv kv qv c l) (hg:jF.bD w0) (op:Int) (d:ByteArray) (e1:m.aK=l.aK) (e2:m.tail=l.tail) (e3:m.aQ=l.aQ++[gV op (bytes d)]) (e4:m.rest=l.rest) (e5:m.bu=l.bu) (e6:m.ag=l.ag) (e7:m.am=l.am) (hi:lC c m) (ht:m.tail.length≤100000) (bB:aU 256 m.tail) (hf:c.bR≤65536) (hn:m.aQ.length+m.rest.length≤1000000) :
 Calls prog 58 #[.pointer (some ⟨L,4,none⟩),.int .i64 op,.string d] W fun e w'=>∃ cP kv' cQ,e=.returned (.tuple #[])∧Sl (bH w0 w' L sb mb rb rp cP kv' cQ c (aj.move c m))∧Sl (bY W w' L rb rp tv kv qv cP kv' cQ):=by
 obtain ⟨-,-,-,-,-,-,c6,-⟩:=h.cells;obtain ⟨X,hX,HX,ZB⟩:=zY W #[.bool true,.int .i64 op,.bool false,.int .u8 0,.int .u8 0,.int .u8 0,.int .u8 0,.string d] 61;have hL:=h.below HX;have bt:l.aQ.length+1≤1000000:=by rw [e3,jB,Fv] at hn;omega
 obtain ⟨v1,w1,fX,mu,gA,cM⟩:=hL.C.add (mP (f:=gV op (bytes d)) ZB (by simp [cv,gV,bT,bn])) bt hL.low.size;rw [← e3] at mu;obtain ⟨hL2,hG2⟩:=hL.acp gA cM mu e1 e2 e4 e5 e6 e7;have f6:w1.frozen? ⟨L,6,none⟩=false:=by rw [World.frozen?_of_block (w:=X) (gA.block L hL.lt (fun e=>hL.qj.2.2.2.1 e.symm))];exact hL.fF 6
 have s6:w1.cell? ⟨L,6,none⟩=some kv:=by rw [DV (w:=X) (gA.block L hL.lt (fun e=>hL.qj.2.2.2.1 e.symm))];exact hL.cells.2.2.2.2.2.2.1
 obtain ⟨av,nv,cw,rfl⟩:∃ a n c,v1=.slice a n c:=by obtain ⟨a,c,h⟩:=mu.slice;exact ⟨a,_,c,h⟩
 obtain ⟨V,hV⟩:=zX (w1.setCell ⟨L,6,none⟩ (.slice av nv cw));rw [hV] at hL2 hG2;have T:=yY hL2 hg hi ht bB hf hn;have HG:=Sl.mk ((bY.below L rb rp tv kv qv HX).trans hG2);obtain ⟨ak,nk,ck,rfl⟩:∃ a n c,kv=.slice a n c:=by obtain ⟨a,c,h⟩:=h.C.slice;exact ⟨a,_,c,h⟩
 clear h hg HX ZB hL bt mu gA cM hL2 hG2 hi ht bB hf hn;go_enter func58,ntmps58;go_upto_region 1 with (at_builtin;refine iL.fK rfl (.tmp 10) (.tmp 14) 34 34 rfl rfl _ _ (.slice av nv cw) w1 rfl rfl (by first | exact fX | (rw [hX];exact fX)) ?_)
 (try rw [hV]);go_wp2_with fail
 refine T.mono ?_;rintro e w2 ⟨t2,k2,q2,rfl,HL,dE⟩;clear T;go_wp2;go_end0
 exact ⟨_,_,_,rfl,HL,⟨HG.ah.trans dE.ah⟩⟩
theorem bH.XG (h:bH w0 W L sb mb rb rp tv kv qv c l):bH w0 (W.setCell ⟨L,7,none⟩ (.slice none 0 0)) L sb mb rb rp tv kv (.slice none 0 0) c {l with rest:=[]}∧bY W (W.setCell ⟨L,7,none⟩ (.slice none 0 0)) L rb rp tv kv qv tv kv (.slice none 0 0) :=
 ⟨h.set 7 _ (m:={l with rest:=[]}) rfl rfl h.T h.C (sF _ _) h.dr (fun k e=>by obtain ⟨a1,a2,a3,a4,a5⟩:=h.tn k e;exact ⟨a1,a2,a3,a4,fun e=>by cases e⟩) (fun k _ e=>by cases e),sG W L rb rp tv kv qv 7 _ (fun _ e=>.inl e) (fun _ e=>.inl e) (fun _ e=>by cases e)⟩
theorem TU (h:bH w0 W L sb mb rb rp tv kv qv c l) (hg:jF.bD w0) (d:ByteArray) (e1:m.aK=l.aK) (e2:m.tail=l.tail) (e3:m.aQ=l.aQ++[gV 8 (bytes d)]) (e4:m.rest=[]) (e5:m.bu=l.bu) (e6:m.ag=l.ag) (e7:m.am=l.am) (hi:lC c m) (ht:m.tail.length≤100000) (bB:aU 256 m.tail) (hf:c.bR≤65536) (hn:m.aQ.length+m.rest.length≤1000000) :
 Calls prog 61 #[.pointer (some ⟨L,4,none⟩),.string d] W fun e w'=>∃ cP kv' cQ,e=.returned (.tuple #[])∧Sl (bH w0 w' L sb mb rb rp cP kv' cQ c (aj.move c m))∧Sl (bY W w' L rb rp tv kv qv cP kv' cQ):=by
 obtain ⟨-,-,-,-,-,-,-,c7,-⟩:=h.cells;have f7:=h.fF 7;obtain ⟨hL,hG⟩:=h.XG;obtain ⟨V,hV⟩:=zX (W.setCell ⟨L,7,none⟩ (.slice none 0 0));rw [hV] at hL hG;have T:=qP hL hg 8 d (m:=m) e1 e2 e3 e4 e5 e6 e7 hi ht bB hf hn;have HG:=Sl.mk hG;obtain ⟨ak,nk,ck,rfl⟩:∃ a n c,qv=.slice a n c:=by obtain ⟨a,c,h⟩:=h.D.slice;exact ⟨a,_,c,h⟩
 clear h hg hL hG hi ht bB hf hn;go_enter func61,ntmps61;go_upto_region 1 with fail
 (try rw [hV]);go_wp2_with fail
 refine T.mono ?_;rintro e w2 ⟨t2,k2,q2,rfl,HL,dE⟩;clear T;go_wp2;go_end0
 exact ⟨_,_,_,rfl,HL,⟨HG.ah.trans dE.ah⟩⟩
theorem Py (h:bH w0 W L sb mb rb rp tv kv qv c l) (hg:jF.bD w0) (z:Int) (ah:List Nat) (ho:l.aK.take z.toNat=ah) (k:Nat) (hk:ah.length=k) (e1:m.aK=l.aK.drop z.toNat) (e2:m.tail=l.tail) (e3:m.aQ=l.aQ) (e4:m.rest=l.rest) (e5:m.bu=l.bu) (e6:m.ag=l.ag) (e7:m.am=l.am) (hi:lC c m) (ht:m.tail.length≤100000) (bB:aU 256 m.tail) (hf:c.bR≤65536) (hn:m.aQ.length+m.rest.length≤1000000) :
 Calls prog 62 #[.pointer (some ⟨L,4,none⟩),.int .i64 z] W fun e w'=>∃ cP kv' cQ,e=.returned (.slice (some ⟨W.heap.size,0,none⟩) k k)∧Sl (fA w' W.heap.size ah)∧Sl (bH w0 w' L sb mb rb rp cP kv' cQ c (aj.move c m))∧Sl (bY W w' L rb rp tv kv qv cP kv' cQ):=by
 obtain ⟨-,-,-,-,c4,-⟩:=h.cells;have T1:=OT.tZ w0 W rb rp c.ah k l.aK ah (l.aK.drop z.toNat) z h.low h.B.2.1 h.B.2.2 h.R ho hk rfl;have HO:Sl (∀ j,EU L rb rp tv kv qv j→j<W.heap.size):=⟨fun j e=>(h.lu e).2⟩;have H:=Sl.mk h;have qu:=Sl.mk hg;have cN:Sl (lC c m∧m.tail.length≤100000∧aU 256 m.tail∧c.bR≤65536∧m.aQ.length+m.rest.length≤1000000):=⟨hi,ht,bB,hf,hn⟩;have HE:Sl (m.aK=l.aK.drop z.toNat∧m.tail=l.tail∧m.aQ=l.aQ∧m.rest=l.rest∧m.bu=l.bu∧m.ag=l.ag∧m.am=l.am):=⟨e1,e2,e3,e4,e5,e6,e7⟩;clear h hg hi ht bB hf hn e1 e2 e3 e4 e5 e6 e7 ho hk;go_enter func62,ntmps62;go_wp2_with fail
 refine T1.mono ?_;rintro e w2 ⟨rfl,HR,HQ,HT,-⟩;obtain ⟨hL,hG⟩:=H.ah.aK (m:=m) HT.ah (by rw [HE.ah.1];exact HQ.ah) HE.ah.2.1 HE.ah.2.2.1 HE.ah.2.2.2.1 HE.ah.2.2.2.2.1 HE.ah.2.2.2.2.2.1 HE.ah.2.2.2.2.2.2;have T2:=yY hL qu.ah cN.ah.1 cN.ah.2.1 cN.ah.2.2.1 cN.ah.2.2.2.1 cN.ah.2.2.2.2;have HG:=Sl.mk hG;clear T1 hL hG HT HQ c4;go_wp2_with fail
 refine T2.mono ?_;rintro e w3 ⟨t2,k2,q2,rfl,HL,dE⟩;have UV:Sl (fA w3 W.heap.size ah):=⟨by
  unfold fA;rw [dE.ah.kept.block _ HR.ah.lt (fun e=>JK _ (HO.ah _ e))];exact HR.ah⟩
 clear T2 HR;go_wp2;go_ret;exact ⟨_,_,_,rfl,UV,HL,⟨HG.ah.trans dE.ah⟩⟩
end
end
open Go.WideShapes Go.ChangeShapes KU
section
variable {W:World}
structure Ac where
 kind:Int
 op:Int
 ao:Int
 n:Int
 s:ByteArray
def Ac0:Ac:=⟨0,0,0,0,ByteArray.empty⟩
def ac (x:Ac):List Value:=[.int .i64 x.kind,.int .i64 x.op,.int .i64 x.ao,.int .i64 x.n,.string x.s]
structure WV (x:Ac):Prop where
 s:x.s.size≤maxLen
 n:-9223372036854775808≤x.n∧x.n≤9223372036854775807
def UI (W:World) (v:Value) (es:List Ac):Prop :=
 ∃ (a:Option Addr) (cap sb so:Nat),v=.slice a es.length cap∧es.length≤cap∧(0<es.length→a=some ⟨sb,so,none⟩)∧∀ i,i<es.length→∀ j,j<5→W.cell? ⟨sb,so+i*5+j,none⟩=(ac (es.getD i Ac0))[j]?
theorem abY {α:Type} {l:List α} (h:l.length=5):∃ a b c d e,l=[a,b,c,d,e] :=
 match l,h with
 | [a,b,c,d,e],_=>⟨a,b,c,d,e,rfl⟩
theorem LK {H:Type} {enc:TypeId×Value→H} {base fuel:Nat} {sp:Nat→Bool} {eU:Bool} {cs:List Value} {x:DataW H×List MemPlace}
 (hf:DataW.trod enc prog W base sp eU fuel 40 cs=some x):∃ e,cs=ac e∧WV e:=by
 obtain ⟨xs,n,_,hx,hl,RO,hf⟩:=DataW.trod_struct underlying40 hf;have c3:prog.cellsOf 3=1:=by kernel_rfl
 have c9:prog.cellsOf 9=1:=by kernel_rfl
 have cf:prog.cellsOf 40=5:=by kernel_rfl
 rw [cf] at hl
 match xs,RO with
 | [y0,y1,y2,y3,y4],_ =>
   have h0:DataW.trod enc prog W base sp eU n 3 ((cs.drop 0).take (prog.cellsOf 3))=some y0:=hf 0 _ rfl;have h1:DataW.trod enc prog W base sp eU n 3 ((cs.drop 1).take (prog.cellsOf 3))=some y1:=hf 1 _ rfl;have h2:DataW.trod enc prog W base sp eU n 3 ((cs.drop 2).take (prog.cellsOf 3))=some y2:=hf 2 _ rfl;have h3:DataW.trod enc prog W base sp eU n 3 ((cs.drop 3).take (prog.cellsOf 3))=some y3:=hf 3 _ rfl;have h4:DataW.trod enc prog W base sp eU n 9 ((cs.drop 4).take (prog.cellsOf 9))=some y4:=hf 4 _ rfl;obtain ⟨a0,a1,a2,a3,a4,cU⟩:=abY hl;rw [cU] at h0 h1 h2 h3 h4;rw [c3] at h0 h1 h2 h3;rw [c9] at h4;simp only [Af,WY,yB,QH] at h0 h1 h2 h3 h4;obtain ⟨f0,g0,_,w0⟩:=FM underlying3 h0;obtain ⟨f1,g1,_,w1⟩:=FM underlying3 h1;obtain ⟨f2,g2,_,w2⟩:=FM underlying3 h2;obtain ⟨f3,g3,_,w3⟩:=FM underlying3 h3;obtain ⟨f4,g4,_,w4⟩:=DataW.trod_string underlying9 h4;simp only [List.cons.injEq,and_true] at g0 g1 g2 g3 g4;subst g0 g1 g2 g3 g4;exact ⟨⟨f0,f1,f2,f3,f4⟩,cU,w4,bounds_i64 w3⟩
theorem Dv {H:Type} {enc:TypeId×Value→H} {ad:Option Addr} {len cap:Nat} {d:DataW H} {p:List MemPlace} (h:DataW.Trod enc prog W 0 (fun _=>true) true 27 (.slice ad len cap) d p) :
 ∃ l,UI W (.slice ad len cap) l∧(∀ e∈l,WV e)∧l.length≤maxLen:=by
 obtain ⟨fuel,hf⟩:=h;have cf:prog.cellsOf 40=5:=by kernel_rfl
 rcases DataW.trod_slice underlying27 hf with ⟨cU,_⟩ | ⟨a,ZM,fd,el,rest,n,_,cU,_,hb,hl,hm,hz,bL,_⟩
 ·simp [Value.cells] at cU
  obtain ⟨rfl,rfl,rfl⟩:=cU;exact ⟨[],⟨none,0,0,0,rfl,by simp,fun h=>by simp at h,fun i hi=>by simp at hi⟩,fun f hf=>by simp at hf,by simp⟩
 ·simp [Value.cells] at cU
  obtain ⟨rfl,rfl,rfl⟩:=cU;rw [cf] at bL;have gO:∀ i,i<len→∃ x,el[i]? = some x:=fun i hi=>⟨el[i]'(by omega),lD (by omega)⟩
  by_cases h0:len=0
  ·subst h0
   exact ⟨[],⟨some a,cap,0,0,rfl,by simp,fun h=>by simp at h,fun i hi=>by simp at hi⟩,fun f hf=>by simp at hf,by simp⟩
  ·have li:a.spot=none:=by
    obtain ⟨x,hx⟩:=gO 0 (by omega);have hc:=bL 0 (by omega);rw [hx,Option.bind_eq_some_iff] at hc;obtain ⟨cs,cU,_⟩:=hc;obtain ⟨_,bt,RT⟩:=World.cells?_some cU;have:=RT 0 (by omega);rw [lD (by omega)] at this;simpa [Addr.add] using World.cell?_spot this
   obtain ⟨b,off,spot⟩:=a;simp only at li;subst li;obtain ⟨l,un,hp⟩:=xK Ac0 len (fun i e=>WV e∧∀ j,j<5→W.cell? ⟨b,off+i*5+j,none⟩=(ac e)[j]?) (fun i hi=>by
    obtain ⟨x,hx⟩:=gO i hi;have hc:=bL i hi;rw [hx,DD,Option.bind_eq_some_iff] at hc;obtain ⟨cs,cU,hd⟩:=hc;obtain ⟨_,bt,RT⟩:=World.cells?_some cU;obtain ⟨e,he,ep⟩:=LK hd;subst he;refine ⟨e,ep,fun j hj=>?_⟩;have:=RT j hj;rw [DD] at this;exact this)
   refine ⟨l,⟨some ⟨b,off,none⟩,cap,b,off,by rw [un],by rw [un];omega,fun _=>rfl,fun i hi=>(hp i (by omega)).2⟩,fun e he=>?_,by rw [un];omega⟩;obtain ⟨i,hi,rfl⟩:=QK he;have:=(hp i (by omega)).1;rwa [iw,lD hi] at this
end
end Go.Proofs.YtlahonjmfecikaaGreatDoor.jo
namespace aj
open aC (Fr dn dF aQ bn aT)
open aA (Ev Ms M0 run jv vP)
open aG (eY iy dI bI dS)
section
variable {c:Cf} {l:Lg}
theorem yX:type_of% @Go.Proofs.YtlahonjmfecikaaGreatDoor.jo.yX:=@Go.Proofs.YtlahonjmfecikaaGreatDoor.jo.yX
theorem uo:type_of% @Go.Proofs.YtlahonjmfecikaaGreatDoor.jo.uo:=@Go.Proofs.YtlahonjmfecikaaGreatDoor.jo.uo
theorem Nj {n:Nat} (hc:l.aQ=[]) (hr:l.rest=[]):mv c n l=fill c l:=by
 cases n with
 | zero=>rfl
 | succ n =>
   rw [mv];split
   ·rfl
   ·have:∀ x y:List Fr,x=[]→y=[]→(match x,y with
     | f :: cs,_=>mv c n (put c {fill c l with aQ:=cs} f)
     | [],f :: r=>mv c n (put c {fill c l with rest:=r} f)
     | [],[]=>fill c l)=fill c l:=fun x y e e2=>by subst e e2;rfl
    exact this _ _ hc hr
theorem AX {n:Nat} (ht:(fill c l).tail≠[]):mv c n l=fill c l:=by
 cases n with
 | zero=>rfl
 | succ n=>rw [mv,if_pos ht]
theorem TV (c:Cf):∀ (n:Nat) (l:Lg) (b:Bool) (d:List Nat),mv c n {l with am:=b,gy:=d}={mv c n l with am:=b,gy:=d}
 | 0,_,_,_=>rfl
 | n+1,l,b,d=>by
   by_cases ht:(fill c l).tail≠[]
   ·rw [AX ht,AX (l:={l with am:=b,gy:=d}) ht];rfl
   ·have mL:(fill c l).tail=[]:=DI ht
    have key:∀ x y,l.aQ=x→l.rest=y→mv c (n+1) {l with am:=b,gy:=d}={mv c (n+1) l with am:=b,gy:=d}:=fun x y hx hy=>by
     cases x with
     | cons f cs =>
       rw [yX mL hx,yX (l:={l with am:=b,gy:=d}) mL hx];exact TV c n (put c {fill c l with aQ:=cs} f) b d
     | nil =>
       cases y with
       | cons f r =>
         rw [uo mL hx hy,uo (l:={l with am:=b,gy:=d}) mL hx hy];exact TV c n (put c {fill c l with rest:=r} f) b d
       | nil=>rw [Nj hx hy,Nj (l:={l with am:=b,gy:=d}) hx hy];rfl
    exact key _ _ rfl rfl
theorem VR (c:Cf) (l:Lg) (b:Bool) (d:List Nat):move c {l with am:=b,gy:=d}={move c l with am:=b,gy:=d}:=TV c _ l b d
theorem Pz (ht:l.tail≠[]) (hr:l.aK.length=c.ah):move c l=l:=by
 have hf:fill c l=l:=by
  unfold fill;rw [hr,Nat.sub_self,QH,Af,yC]
 unfold move;cases hn:l.aQ.length+l.rest.length with
 | zero=>exact hf
 | succ n=>rw [mv,if_pos (by rw [hf];exact ht)];exact hf
theorem xI (d:List Nat):∀ (l:List Fr) (i:Nat),i<l.length→(l.getD i dn).op=10→(∀ j,j<i→(l.getD j dn).op≠10)→kV d l=l.set i {l.getD i dn with data:=d}∧(l.any fun f=>decide (f.op=10))=true
 | [],i,hi,_,_=>absurd hi (Fz _)
 | f :: l,0,_,h,_=>by
   have h:f.op=10:=h;unfold kV;rw [if_pos h];exact ⟨rfl,by simp [h]⟩
 | f :: l,i+1,hi,h,hb=>by
   have h0:¬ f.op=10:=hb 0 (Nat.succ_pos _);obtain ⟨e1,e2⟩:=xI d l i (by simpa using hi) h (fun j hj=>hb (j+1) (by omega));unfold kV;rw [if_neg h0,e1];refine ⟨rfl,?_⟩;rw [List.any_cons,e2,Bool.or_true]
theorem GL (l:List Fr) (h:∀ j,j<l.length→(l.getD j dn).op≠10):(l.any fun f=>decide (f.op=10))=false:=by
 rw [List.any_eq_false];intro f hf;obtain ⟨i,hi,rfl⟩:=QK hf;have:=h i hi;rw [iw,lD hi] at this;simpa using this
theorem CX:∀ (l:List Fr),∃ i,i≤l.length∧(∀ j,j<i→(l.getD j dn).op≠10)∧(i<l.length→(l.getD i dn).op=10)
 | []=>⟨0,aY _,fun j hj=>absurd hj (Fz _),fun h=>absurd h (JK _)⟩
 | f :: l=>by
   by_cases h:f.op=10
   ·exact ⟨0,ku _,fun j hj=>absurd hj (Fz _),fun _=>h⟩
   ·obtain ⟨i,h1,h2,h3⟩:=CX l
    refine ⟨i+1,by simpa using h1,fun j hj=>?_,fun hi=>h3 (by simpa using hi)⟩;cases j with
    | zero=>exact h
    | succ j=>exact h2 j (by omega)
theorem TW {s:List Nat} (h:(iy s).2.2=0):(iy s).1=1005∨dS (iy s).1=true:=by
 match s,h with
 | [],_=>exact .inl rfl
 | [_],h=>cases h
 | x :: y :: l,h =>
   rw [aG.vZ] at h ⊢;by_cases h1:123<l.length∨dS ((256*x+y:Nat):Int)=false
   ·rw [if_pos h1] at h;cases h
   rw [if_neg h1] at h ⊢;by_cases h2:aG.jc l=false
   ·rw [if_pos h2] at h;cases h
   rw [if_neg h2];exact .inr (by simpa using fun e=>h1 (.inr e))
theorem PC (ae:Int) {st:Ms} (h8:st.cg=true→st.op≠8) (f:Fr):∀ x,(aA.step ae st f).2=some x→x.op=8→x.ao=1005∨dS x.ao=true:=by
 intro x hx cY;unfold aA.step at hx;by_cases a1:dF f=false
 ·rw [if_pos a1] at hx;cases hx
 rw [if_neg a1] at hx;by_cases a2:f.op=9∨f.op=10
 ·rw [if_pos a2] at hx
  injection hx with hx
  rw [← hx] at cY;have cY:f.op=8:=cY;omega
 rw [if_neg a2] at hx;by_cases a3:f.op=8
 ·rw [if_pos a3] at hx
  by_cases a4:(iy f.data).2.2=0
  ·rw [if_pos a4] at hx
   injection hx with hx
   rw [← hx];exact TW a4
  ·rw [if_neg a4] at hx;cases hx
 rw [if_neg a3] at hx;by_cases a4:decide (f.op=0)≠st.cg
 ·rw [if_pos a4] at hx;cases hx
 rw [if_neg a4] at hx;obtain ⟨o,ho⟩:∃ o,(if st.cg=true then st.op else f.op)=o:=⟨_,rfl⟩;have L3:o≠8:=by
  rw [← ho];by_cases hb:st.cg=true
  ·rw [if_pos hb];exact h8 hb
  ·rw [if_neg hb];exact a3
 rw [ho] at hx;unfold aA.dY at hx;by_cases a5:ae<((st.aT++f.data).length:Int)
 ·rw [if_pos a5] at hx;cases hx
 rw [if_neg a5] at hx;by_cases a6:aA.wu o f.aN (st.aT++f.data)=false
 ·rw [if_pos a6] at hx;cases hx
 rw [if_neg a6] at hx;by_cases a7:f.aN=true
 ·rw [if_pos a7] at hx
  injection hx with hx
  rw [← hx] at cY;exact absurd cY L3
 ·rw [if_neg a7] at hx;cases hx
end
section
variable {c:Cf} {x:Lg} {f:Fr} {cs r:List Fr}
theorem Un (c:Cf) (n:Nat) (x:Lg) (ht:(fill c x).tail≠[]):mv c n x=fill c x:=by
 cases n with
 | zero=>rfl
 | succ n=>unfold mv;rw [if_pos ht]
theorem Uo (c:Cf) (n:Nat) (x:Lg) (h1:x.aQ=[]) (h2:x.rest=[]):mv c n x=fill c x:=by
 cases n with
 | zero=>rfl
 | succ n=>unfold mv;rw [h1,h2];split<;>rfl
theorem Wl {n:Nat} (ht:(fill c x).tail=[]) (h:x.aQ=f :: cs) (hn:x.aQ.length+x.rest.length≤n):∃ m,n=m+1∧mv c n x=mv c m (put c {fill c x with aQ:=cs} f)∧cs.length+x.rest.length≤m:=by
 rw [h,jE] at hn;obtain ⟨m,rfl⟩:∃ m,n=m+1:=⟨n-1,by omega⟩;refine ⟨m,rfl,?_,by omega⟩
 conv=>lhs;unfold mv
 rw [if_neg (fun e=>e ht),h]
theorem Up {n:Nat} (ht:(fill c x).tail=[]) (h:x.aQ=[]) (h2:x.rest=f :: r) (hn:x.aQ.length+x.rest.length≤n):∃ m,n=m+1∧mv c n x=mv c m (put c {fill c x with rest:=r} f)∧x.aQ.length+r.length≤m:=by
 rw [h,h2,jE,Eg] at hn;obtain ⟨m,rfl⟩:∃ m,n=m+1:=⟨n-1,by omega⟩;refine ⟨m,rfl,?_,by rw [h,Eg];omega⟩
 conv=>lhs;unfold mv
 rw [if_neg (fun e=>e ht),h,h2]
theorem Ur (h:lC c x) (ht:(fill c x).tail=[]) (hc:x.aQ=f :: cs):lC c (put c {fill c x with aQ:=cs} f)∧AQ c (dN c (dD c x.bu) f):=by
 have hf:=oD h;have hb:=hf.bytes;rw [ht,yC] at hb;have rS:D5 f:=h.aQ f (by rw [hc];exact rD);refine ⟨⟨?_,fun g hg=>?_,fun g hg=>h.aQ g (by rw [hc];exact uK _ hg),h.rest,hf.aK⟩,rS.ah _⟩
 ·show (fill c x).cj++(fill c x).aK++_=(x.bE++[_]).flatMap aT
  rw [hb,List.flatMap_append];simp;rfl
 ·rcases sN.1 hg with hg | hg
  ·exact h.bE g hg
  ·rw [uF] at hg;rw [hg];exact rS.ah _
theorem Qa (h:lC c x) (ht:(fill c x).tail=[]) (hr:x.rest=f :: r):lC c (put c {fill c x with rest:=r} f)∧AQ c (dN c (dD c x.bu) f):=by
 have hf:=oD h;have hb:=hf.bytes;rw [ht,yC] at hb;have fk:Aj c.bR f:=h.rest f (by rw [hr];exact rD);refine ⟨⟨?_,fun g hg=>?_,h.aQ,fun g hg=>h.rest g (by rw [hr];exact uK _ hg),hf.aK⟩,fk.ah _⟩
 ·show (fill c x).cj++(fill c x).aK++_=(x.bE++[_]).flatMap aT
  rw [hb,List.flatMap_append];simp;rfl
 ·rcases sN.1 hg with hg | hg
  ·exact h.bE g hg
  ·rw [uF] at hg;rw [hg];exact fk.ah _
theorem Ny {r t:List Nat} (h:r++t=x.aK++x.tail) (h1:x.aK.length≤r.length) (h2:r.length≤c.ah) (h3:t=[]∨c.ah≤r.length):r=(fill c x).aK∧t=(fill c x).tail:=by
 show r=x.aK++x.tail.take (c.ah-x.aK.length)∧t=x.tail.drop (c.ah-x.aK.length)
 have hl:=lG List.length h;rw [jB,jB] at hl;have hr:r=(x.aK++x.tail).take r.length:=by rw [← h,List.take_left]
 have ht:t=(x.aK++x.tail).drop r.length:=by rw [← h,List.drop_left]
 have e1:x.aK.take r.length=x.aK:=nC h1;have e2:x.aK.drop r.length=[]:=Xj h1;rw [List.take_append,e1] at hr;rw [List.drop_append,e2,List.nil_append] at ht;rcases h3 with h3 | h3
 ·rw [h3,Eg] at hl
  rw [nC (by omega)] at hr;rw [nC (by omega),Xj (by omega)];exact ⟨hr,h3⟩
 ·rw [show c.ah-x.aK.length=r.length-x.aK.length by omega]
  exact ⟨hr,ht⟩
end
open aV (one all jL jK)
open aA (gI)
section
variable {c:Cf} {l:Lg} {G b:List Nat} {F:List Fr}
def fP (c:Cf) (G:List Nat):List Fr×Nat×Nat:=all G c.af (bQ c:Int)
structure DR (c:Cf) (l:Lg) (G:List Nat) (F:List Fr):Prop where
 fO:∀ y∈G,y<256
 bO:l.bO=if (fP c G).2.1=0 then G.drop (G.length-(fP c G).2.2) else []
 ci:l.ci=(fP c G).2.1
 ms:l.ms=(run (c.bh:Int) M0 F).1
 go:l.dA=false→l.ag=0→F=(fP c G).1
theorem WC (c:Cf) (d:Nat):DR c (L0 d) [] []:=⟨fun _ hy=>absurd hy pJ,rfl,rfl,rfl,fun _ _=>rfl⟩
theorem DR.WE {m:Lg} (h:DR c l G F) (k:rC l m):DR c m G F :=
 ⟨h.fO,by rw [k.bO];exact h.bO,by rw [k.ci];exact h.ci,by rw [k.ms];exact h.ms,fun e1 e2=>h.go (by rw [← k.dA];exact e1) (by rw [← k.ag];exact e2)⟩
theorem DR.kept (h:DR c l G F):l.bO.length+l.ms.aT.length=(if (fP c G).2.1=0 then (fP c G).2.2 else 0)+(run (c.bh:Int) M0 F).1.aT.length:=by
 rw [h.bO,h.ms];have hl:=jK c.af (bQ c:Int) _ G (aY _) h.fO;have hl:(fP c G).2.2≤G.length:=hl;split
 ·rw [iP];omega
 ·rfl
theorem DR.dY (h:DR c l G F) (hr:jO c l) (hb:∀ y∈b,y<256):fP c (G++b)=(F++(fP c (l.bO++b)).1,(fP c (l.bO++b)).2):=by
 have h0:(fP c G).2.1=0:=by rw [← h.ci];exact hr.ci
 have h1:=jL c.af (bQ c:Int) b hb _ G (aY _) h.fO;have hB:=h.bO;rw [if_pos h0] at hB;unfold fP at h0 hB ⊢;rw [h1,if_pos h0,← hB,h.go hr.dA hr.ag];rfl
theorem DR.iM (_:DR c l G F) (hr:jO c l) (hb:∀ y∈b,y<256) :
 aj.iM c l b=((if (jZ c l.ms (dJ c l b) [] (fP c (l.bO++b)).1).2.2=true then (jZ c l.ms (dJ c l b) [] (fP c (l.bO++b)).1).1 else if (fP c (l.bO++b)).2.1≠0 then fail c (jZ c l.ms (dJ c l b) [] (fP c (l.bO++b)).1).1 (fP c (l.bO++b)).2.1 else (jZ c l.ms (dJ c l b) [] (fP c (l.bO++b)).1).1),(jZ c l.ms (dJ c l b) [] (fP c (l.bO++b)).1).2.1):=by
 have hs:∀ y∈l.bO++b,y<256:=fun y hy=>by
  rcases sN.1 hy with hy | hy
  ·exact hr.fO y hy
  ·exact hb y hy
 have hd:=uq c (fP c (l.bO++b)).1 l.ms (dJ c l b) [] hr.bj hr.aL hr.yo (uh c.af (bQ c:Int) _ _ (aY _) hs);rw [hd];have e1:(dJ c l b).ms=(run (c.bh:Int) l.ms (fP c (l.bO++b)).1).1:=rfl;have e2:rY c l b=(run (c.bh:Int) l.ms (fP c (l.bO++b)).1).2:=rfl;have e3:(dJ c l b).ci=(fP c (l.bO++b)).2.1:=rfl;unfold aj.iM;rw [if_neg (fun e=>e.elim (fun e=>by rw [hr.dA] at e;cases e) (fun e=>e hr.ag))];unfold jX;rw [e1,e2,e3];simp only [List.nil_append];by_cases h1:(run (c.bh:Int) l.ms (fP c (l.bO++b)).1).1.bj=0
 ·by_cases h2:(run (c.bh:Int) l.ms (fP c (l.bO++b)).1).1.aL=true
  ·simp [h1,h2]
  ·simp [h1,h2]
 ·simp [h1]
theorem DR.fed (h:DR c l G F) (hr:jO c l) (hb:∀ y∈b,y<256) {F':List Fr} (h1:(run (c.bh:Int) M0 F').1=(run (c.bh:Int) M0 (fP c (G++b)).1).1)
 (h2:(aj.iM c l b).1.dA=false→(aj.iM c l b).1.ag=0→F'=(fP c (G++b)).1):DR c (aj.iM c l b).1 (G++b) F':=by
 obtain ⟨_,_,f3,f4,f5,_⟩:=qN hr b hb;have hm:=h.dY hr hb;have vt:(G++b).length-(fP c (l.bO++b)).2.2=G.length-l.bO.length+((l.bO++b).length-(fP c (l.bO++b)).2.2)∧G.drop (G.length-l.bO.length)=l.bO:=by
  have h0:(fP c G).2.1=0:=by rw [← h.ci];exact hr.ci
  have hl:(fP c G).2.2≤G.length:=jK c.af (bQ c:Int) _ G (aY _) h.fO;have hB:=h.bO;rw [if_pos h0] at hB;have fe:l.bO.length=(fP c G).2.2:=by rw [hB,iP];omega
  have hs:∀ y∈l.bO++b,y<256:=fun y hy=>by
   rcases sN.1 hy with hy | hy
   ·exact hr.fO y hy
   ·exact hb y hy
  have h3:(fP c (l.bO++b)).2.2≤(l.bO++b).length:=jK c.af (bQ c:Int) _ _ (aY _) hs;rw [jB] at h3 ⊢;rw [jB];exact ⟨by omega,by rw [fe];exact hB.symm⟩
 refine ⟨fun y hy=>?_,?_,?_,?_,h2⟩
 ·rcases sN.1 hy with hy | hy
  ·exact h.fO y hy
  ·exact hb y hy
 ·rw [f3,hm]
  show (if (fP c (l.bO++b)).2.1=0 then (l.bO++b).drop ((l.bO++b).length-(fP c (l.bO++b)).2.2) else [])=if (fP c (l.bO++b)).2.1=0 then (G++b).drop ((G++b).length-(fP c (l.bO++b)).2.2) else []
  split
  ·have hx:(G++b).drop (G.length-l.bO.length)=l.bO++b:=by rw [List.drop_append_of_le_length (Nat.sub_le _ _),vt.2]
   rw [vt.1,← QN,hx]
  ·rfl
 ·rw [f4,hm];rfl
 ·rw [f5,h1,hm,gI,← h.ms];rfl
end
open aA (Ar jw)
section
variable {c:Cf} {l:Lg} {A:List Fr} {es:List Ev} {R:Lg×List Ev×Bool} {i:Nat}
structure uJ (c:Cf) (A:List Fr) (i:Nat) (l:Lg) (es:List Ev) (R:Lg×List Ev×Bool):Prop where
 bj:(run (c.bh:Int) M0 (A.take i)).1.bj=0
 aL:(run (c.bh:Int) M0 (A.take i)).1.aL=false
 aN:jZ c (run (c.bh:Int) M0 (A.take i)).1 l es (A.drop i)=R
theorem uJ.start {G:List Nat} {F gs:List Fr} (h:DR c l G F) (hr:jO c l) (m:Lg):uJ c (F++gs) F.length m [] (jZ c l.ms m [] gs):=by
 have e1:(F++gs).take F.length=F:=List.take_left' rfl;have e2:(F++gs).drop F.length=gs:=List.drop_left' rfl;refine ⟨?_,?_,?_⟩
 ·rw [e1,← h.ms];exact hr.bj
 ·rw [e1,← h.ms];exact hr.aL
 ·rw [e1,e2,← h.ms]
theorem uJ.gy (h:uJ c A A.length l es R):R=(l,es,false):=by
 have:=h.aN;rw [List.drop_length] at this;exact this.symm
theorem uJ.step (h:uJ c A i l es R) (hi:i<A.length) (hs:∀ f∈A,∀ y∈f.data,y<256) :
 ((run (c.bh:Int) M0 (A.take (i+1))).1.bj≠0∧R=(fail c l (run (c.bh:Int) M0 (A.take (i+1))).1.bj,es,true)) ∨
 ((run (c.bh:Int) M0 (A.take (i+1))).1.bj=0∧(run (c.bh:Int) M0 (A.take (i+1))).2.length=(run (c.bh:Int) M0 (A.take i)).2.length∧uJ c A (i+1) l es R) ∨
 ((run (c.bh:Int) M0 (A.take (i+1))).1.bj=0∧∃ x,(run (c.bh:Int) M0 (A.take (i+1))).2=(run (c.bh:Int) M0 (A.take i)).2++[x]∧(x.op=9→x.data.length≤125)∧(∀ y∈x.data,y<256) ∧
  ((x.op=9∧uJ c A (i+1) (lV c l x.data) es R)∨(x.op=8∧(run (c.bh:Int) M0 (A.take (i+1))).1.aL=true∧R=((bU c {l with dA:=true} (bI x.ao) []).1,es++[x],true))∨(x.op≠9∧x.op≠8∧uJ c A (i+1) l (es++[x]) R))):=by
 obtain ⟨he,ho,hf⟩:=h;have ht:A.take (i+1)=A.take i++[A[i]]:=by rw [List.take_succ_eq_append_getElem hi]
 have hd:A.drop i=A[i] :: A.drop (i+1):=List.drop_eq_getElem_cons hi;have eQ:∀ f∈A.take i,∀ y∈f.data,y<256:=fun f hf=>hs f (Hf hf)
 have agj:∀ f∈A.take (i+1),∀ y∈f.data,y<256:=fun f hf=>hs f (Hf hf)
 have km:vP (c.bh:Int) (run (c.bh:Int) M0 (A.take i)).1:=aA.wE (by omega) _ (aA.JS (by omega)) eQ;have mS:=GK (ae:=(c.bh:Int)) (by omega) (A.take (i+1)) (aA.JS (by omega)) agj;have h1:run (c.bh:Int) M0 (A.take (i+1))=((aA.step (c.bh:Int) (run (c.bh:Int) M0 (A.take i)).1 A[i]).1,(run (c.bh:Int) M0 (A.take i)).2++(aA.step (c.bh:Int) (run (c.bh:Int) M0 (A.take i)).1 A[i]).2.toList):=by
  rw [ht,gI,Ar,aA.oL (c.bh:Int) he ho]
 rw [hd] at hf;have h8:=yQ (c.bh:Int) ho (fun hb=>by rcases km.op hb with e | e<;>omega) A[i];have ve:=aA.wF (ae:=(c.bh:Int)) (f:=A[i]) he;unfold jZ at hf;obtain ⟨⟨s',o⟩,hr⟩:∃ r,aA.step (c.bh:Int) (run (c.bh:Int) M0 (A.take i)).1 A[i]=r:=⟨_,rfl⟩;rw [hr] at hf h1 h8 ve;have e1:(run (c.bh:Int) M0 (A.take (i+1))).1=s':=by rw [h1]
 have e2:(run (c.bh:Int) M0 (A.take (i+1))).2=(run (c.bh:Int) M0 (A.take i)).2++o.toList:=by rw [h1]
 simp only at hf h8 ve;by_cases hx:s'.bj≠0
 ·rw [if_pos hx] at hf
  exact .inl ⟨by rw [e1];exact hx,by rw [e1];exact hf.symm⟩
 ·rw [if_neg hx] at hf
  have mU:s'.bj=0:=DI hx;refine .inr ?_;cases o with
  | none =>
    refine .inl ⟨by rw [e1];exact mU,by rw [e2];simp,by rw [e1];exact mU,by rw [e1];exact h8.symm,by rw [e1];exact hf⟩
  | some x =>
    have hxm:x∈(run (c.bh:Int) M0 (A.take (i+1))).2:=by rw [e2];simp
    obtain ⟨p1,p2⟩:=mS x hxm;have IT:decide (x.op=8)=s'.aL:=by simpa using h8
    simp only at hf;refine .inr ⟨by rw [e1];exact mU,x,e2,p1,p2,?_⟩;by_cases a9:x.op=9
    ·rw [if_pos a9] at hf
     exact .inl ⟨a9,by rw [e1];exact mU,by rw [e1,← IT,a9];rfl,by rw [e1];exact hf⟩
    ·rw [if_neg a9] at hf
     by_cases a8:x.op=8
     ·rw [if_pos a8] at hf
      exact .inr (.inl ⟨a8,by rw [e1,← IT,a8];rfl,hf.symm⟩)
     ·rw [if_neg a8] at hf
      exact .inr (.inr ⟨a9,a8,by rw [e1];exact mU,by rw [e1,← IT];exact iQ a8,by rw [e1];exact hf⟩)
theorem zh (ae:Int):∀ (fs:List Fr) (st:Ms),(run ae st fs).2.length≤fs.length
 | [],_=>aY _
 | f :: fs,st=>by
   rw [aA.jv,jB,jE];have h1:=zh ae fs (aA.take ae st f).1;have h2:(aA.take ae st f).2.toList.length≤1:=by cases (aA.take ae st f).2<;>simp
   omega
theorem xN (h:(run (c.bh:Int) M0 (A.take i)).1.bj≠0∨(run (c.bh:Int) M0 (A.take i)).1.aL=true):(run (c.bh:Int) M0 (A.take i)).1=(run (c.bh:Int) M0 A).1:=by
 have h1:(run (c.bh:Int) M0 A).1=(run (c.bh:Int) M0 (A.take i++A.drop i)).1:=by rw [Ee]
 rw [h1,gI,jw _ h]
end
end aj
namespace Go.Proofs.YtlahonjmfecikaaGreatDoor.jo
open Go.RowKit jS
open aC (Fr dn)
open aj (Cf Lg)
open jG (bM gU gQ)
open aj (dN dD mv fill put D5 Aj lC gV kV qL kN iI)
open aC (aT size nI dF bn)
open aG (eY dI bI dS)
section
variable {k:Nat}
section
variable {w0 W W':World} {L sb mb rb rp:Nat} {tv kv qv:Value} {c:Cf} {l:Lg}
theorem VS (fs:List Fr) (v:Value) (w:World) (hv:aS w v fs) (hl:fs.length≤1000000) (hb:∀ j,j<fs.length→(fs.getD j dn).op≠10) :
 Calls prog 115 #[v,.func (.func 114) #[] #[]] w fun e w'=>e=.returned (.int .i64 (-1))∧Sl (Below w.heap.size w w'):=by
 obtain ⟨a,c,rfl⟩:=hv.slice;have HV:=Sl.mk hv;obtain ⟨n,hn⟩:=zX fs.length;rw [hn] at HV hl hb ⊢;have HN:=Sl.mk hn;have HB:=Sl.mk hb;clear hv hn hb ;go_enter func115,ntmps115;go_wp2;go_loopw [8] (fun i' wr=>∃ k:Nat,i'=.int .i64 (k:Int)∧k≤n∧Sl (Below w.heap.size w wr)) (fun i' _=>n-(intOf i').toNat)
 case atStart=>exact ⟨0,rfl,ku _,⟨dW _ _⟩⟩
 case round =>
  obtain ⟨k,rfl,gf,HW⟩:=hrel;by_cases bz:k<n
  ·have hq:((k:Int)<(n:Int))=True:=eq_true (by omega)
   obtain ⟨sb,so,rfl⟩:=HV.ah.cap.2 (by omega);obtain ⟨aN,op,m,ka,kb,kc,kd,s,eh,cY⟩:∃ aN op m,∃ ka kb kc kd:Nat,∃ s,(cv (fs.getD k dn)).toArray=(zV aN op m ka kb kc kd s)∧(fs.getD k dn).op=op:=⟨_,_,_,_,_,_,_,_,rfl,rfl⟩;obtain ⟨c0,c1,c2,c3,c4,c5,c6,c7⟩:=(HV.ah.below HW.ah).XZ k (by rw [HN.ah];omega) eh;clear eh;have eW:op≠10:=by rw [← cY];exact HB.ah k (by omega)
   have WT:=yV aN op m ka kb kc kd s false (mJ.2 eW) wr;clear cY eW;go_wp2_with fail
   refine WT.mono ?_;rintro e w2 ⟨rfl,bk⟩;clear WT c0 c1 c2 c3 c4 c5 c6 c7;go_wp2;exact ⟨⟨k+1,by go_num,by omega,⟨HW.ah.trans (bk.ah.mono HW.ah.size)⟩⟩,by simp [intOf];omega⟩
  ·obtain rfl:k=n:=by omega
   have hq:((k:Int)<(k:Int))=False:=dR (by omega);go_wp2;go_ret;exact ⟨rfl,HW⟩
theorem TY (fs:List Fr) (v:Value) (w:World) (hv:aS w v fs) (hl:fs.length≤1000000) (i:Nat) (hi:i<fs.length) (hb:∀ j,j<i→(fs.getD j dn).op≠10) (Rc:(fs.getD i dn).op=10) :
 Calls prog 115 #[v,.func (.func 114) #[] #[]] w fun e w'=>e=.returned (.int .i64 (i:Int))∧Sl (Below w.heap.size w w'):=by
 obtain ⟨a,c,rfl⟩:=hv.slice;have HV:=Sl.mk hv;obtain ⟨n,hn⟩:=zX fs.length;rw [hn] at HV hl hi ⊢;have HN:=Sl.mk hn;have HB:=Sl.mk hb;have Mi:=Sl.mk Rc;clear hv hn hb Rc;go_enter func115,ntmps115;go_wp2;go_loopw [8] (fun i' wr=>∃ k:Nat,i'=.int .i64 (k:Int)∧k≤i∧Sl (Below w.heap.size w wr)) (fun i' _=>n-(intOf i').toNat)
 case atStart=>exact ⟨0,rfl,ku _,⟨dW _ _⟩⟩
 case round =>
  obtain ⟨k,rfl,gf,HW⟩:=hrel;have hq:((k:Int)<(n:Int))=True:=eq_true (by omega);obtain ⟨sb,so,rfl⟩:=HV.ah.cap.2 (by omega);obtain ⟨aN,op,m,ka,kb,kc,kd,s,eh,cY⟩:∃ aN op m,∃ ka kb kc kd:Nat,∃ s,(cv (fs.getD k dn)).toArray=(zV aN op m ka kb kc kd s)∧(fs.getD k dn).op=op:=⟨_,_,_,_,_,_,_,_,rfl,rfl⟩;obtain ⟨c0,c1,c2,c3,c4,c5,c6,c7⟩:=(HV.ah.below HW.ah).XZ k (by rw [HN.ah];omega) eh;clear eh;by_cases hki:k<i
  ·have eW:op≠10:=by rw [← cY];exact HB.ah k (by omega)
   have WT:=yV aN op m ka kb kc kd s false (mJ.2 eW) wr;clear cY eW;go_wp2_with fail
   refine WT.mono ?_;rintro e w2 ⟨rfl,bk⟩;clear WT c0 c1 c2 c3 c4 c5 c6 c7;go_wp2;exact ⟨⟨k+1,by go_num,by omega,⟨HW.ah.trans (bk.ah.mono HW.ah.size)⟩⟩,by simp [intOf];omega⟩
  ·obtain rfl:k=i:=by omega
   have D2:op=10:=by rw [← cY];exact Mi.ah
   have WT:=yV aN op m ka kb kc kd s true (by rw [D2];rfl) wr;clear cY D2;go_wp2_with fail
   refine WT.mono ?_;rintro e w2 ⟨rfl,bk⟩;clear WT c0 c1 c2 c3 c4 c5 c6 c7;go_wp2;go_ret;exact ⟨rfl,⟨HW.ah.trans (bk.ah.mono HW.ah.size)⟩⟩
def GM (c:Cf) (l:Lg) (d:List Nat):Lg:=if l.aQ.any (fun f=>decide (f.op=10))=true then aj.move c {l with aQ:=kV d l.aQ} else aj.control c l 10 d
theorem GN (hf:kN c l k) (hk:k≤1000) (hc:iI c):lC c l∧l.tail.length≤100000∧aU 256 l.tail∧c.bR≤65536∧l.aQ.length+l.rest.length≤999990:=by
 have h1:=hc.f2;have h2:=hc.m2;have h3:=hf.tail;have h4:=aj.jY.TP hf;have h5:=aj.VO hf;refine ⟨hf.ok.eB,by omega,?_,h1,by omega⟩;have hb:=hf.ok.eB.bytes;intro x hx;refine (aj.xB h1 l.bE hf.ok.eB.bE).2 x ?_;rw [← hb];exact WX _ hx
theorem PE (h:bH w0 W L sb mb rb rp tv kv qv c l) (hg:jF.bD w0) (hf:kN c l k) (hk:k≤1000) (hc:iI c) (d:ByteArray) (hd:d.size≤125) :
 Calls prog 85 #[.pointer (some ⟨L,4,none⟩),.string d] W fun e w'=>∃ cP kv' cQ,e=.returned (.tuple #[])∧Sl (bH w0 w' L sb mb rb rp cP kv' cQ c (GM c l (bytes d)))∧Sl (bY W w' L rb rp tv kv qv cP kv' cQ):=by
 obtain ⟨p1,p2,p3,p4,p5⟩:=GN hf hk hc;obtain ⟨-,-,-,-,-,-,c6,-⟩:=h.cells;obtain ⟨i,hi,hb,Rc⟩:=aj.CX l.aQ;by_cases eV:i<l.aQ.length
 ·obtain ⟨hrp,Ch⟩:=aj.xI (bytes d) l.aQ i eV (Rc eV) hb
  have Ck:l.tail≠[]:=fun e=>by
   have:=(hf.ok.set.2 e).1;rw [this] at eV;exact absurd eV (Fz _)
  have bN:GM c l (bytes d)={l with aQ:=kV (bytes d) l.aQ}:=(if_pos Ch).trans (aj.Pz (l:={l with aQ:=kV (bytes d) l.aQ}) Ck (hf.ok.set.1 Ck));rw [bN];have T:=TY l.aQ kv W h.C.jr (by omega) i eV hb (Rc eV);have HR:=h.C;obtain ⟨g,off,cap,hkv⟩:∃ g off cap,kv=.slice (some ⟨g,off,none⟩) l.aQ.length cap:=by
   rcases h.C with ⟨_,e⟩ | ⟨g,off,cap,cs,e,_⟩
   ·rw [e] at eV;exact absurd eV (Fz _)
   ·exact ⟨g,off,cap,e⟩
  subst hkv;obtain ⟨n,hn⟩:=zX l.aQ.length;rw [hn] at T c6 ⊢;have sB:Sl (i<n):=⟨by omega⟩;have aks:i<n:=by omega
  have hq:((i:Int)≥0)=True:=eq_true (by omega);have H:=Sl.mk h;have ut:=Sl.mk hrp;have HN:=Sl.mk hn;clear h hf hk hc hg p1 p2 p3 p4 p5 hi hb Rc Ch Ck bN HR hrp eV hn;go_enter func85,ntmps85;go_wp2_with fail
  refine T.mono ?_;rintro e w2 ⟨rfl,bk⟩;have H2:=H.ah.below bk.ah;have lx:=H2.C;rw [HN.ah] at H2;obtain ⟨-,-,-,-,-,-,d6,-⟩:=H2.cells;obtain ⟨nc,xt,px,u,hu⟩:=(show iF w2 w0.heap.size (.slice (some ⟨g,off,none⟩) n cap) l.aQ by rw [← HN.ah];exact lx).VP i (by rw [HN.ah];exact sB.ah) d;have gf:=H2.qj;have lp:g≠L:=fun e=>gf.2.2.2.1 (by rw [← e];rfl)
  obtain ⟨V,hV⟩:=zX (w2.setCell ⟨g,off+i*8+7,none⟩ (.string d));rw [hV] at nc xt;obtain ⟨cV,fh⟩:=H2.step (W':=V) (m:={l with aQ:=kV (bytes d) l.aQ}) (cP:=tv) (kv':=.slice (some ⟨g,off,none⟩) n cap) (cQ:=qv) (bM.grown nc (fun j e=>by injection e with e;subst e;exact .inr (.inl rfl))) (by rw [nc.block L H2.lt (fun e=>lp (by injection e with e;exact e.symm))];exact H2.X) rfl (H2.T.kept fun j e=>nc.block j (H2.T.Ja e).2.2 (fun e2=>by injection e2 with e2;subst e2;exact (H2.tn _ e).2.2.2.1 rfl)) (by rw [ut.ah];exact xt) (H2.D.block fun j e=>nc.block j (H2.D.lt e) (fun e2=>by injection e2 with e2;subst e2;exact H2.cn _ rfl e)) H2.dr (fun _ e=>.inl e) (fun _ e=>.inl e) (fun _ e=>.inl e) (fun j e e2=>absurd (H2.T.Ja e).2.2 (by omega)) (fun _ _ _ e=>e) (fun _ _ _ e=>e) (fun j e e2=>absurd (H2.lu (.inr (.inr (.inr (.inr (.inl e)))))).2 (by omega));have HL:=Sl.mk cV;have HG:Sl (bY W V L rb rp tv (.slice (some ⟨g,off,none⟩) n cap) qv tv (.slice (some ⟨g,off,none⟩) n cap) qv):=⟨(bY.below L rb rp _ _ _ bk.ah).trans fh⟩;clear T c6 H2 lx nc xt gf cV fh H bk;go_wp2;(try rw [hV]);(try simp only [Exit.inBlock,Exit.then]);refine gX (results_none rfl _ _ _) rfl ?_;exact ⟨_,_,_,rfl,HL,HG⟩
 ·obtain rfl:i=l.aQ.length:=by omega
  have Ch:=aj.GL l.aQ hb;have bN:GM c l (bytes d)=aj.move c {l with aQ:=l.aQ++[gV 10 (bytes d)]}:=if_neg (by rw [Ch];decide);rw [bN];have T:=VS l.aQ kv W h.C.jr (by omega) hb;obtain ⟨ak,nk,ck,rfl⟩:∃ a n c,kv=.slice a n c:=by obtain ⟨a,c,h⟩:=h.C.slice;exact ⟨a,_,c,h⟩
  have H:=Sl.mk h;have qu:=Sl.mk hg;have cN:Sl (lC c {l with aQ:=l.aQ++[gV 10 (bytes d)]}∧l.tail.length≤100000∧aU 256 l.tail∧c.bR≤65536∧(l.aQ++[gV 10 (bytes d)]).length+l.rest.length≤1000000):=⟨⟨p1.bytes,p1.bE,fun f hf=>by
   rcases sN.1 hf with hf | hf
   ·exact p1.aQ f hf
   ·rw [uF] at hf
    rw [hf];exact ⟨rfl,.inr (.inr rfl),rfl,rfl,by show (bytes d).length≤125;rw [au];exact hd,aJ d⟩,p1.rest,p1.aK⟩,p2,p3,p4,by rw [jB,Fv];omega⟩
  clear h hf hk hc hg p1 p2 p3 p4 p5 hi hb Rc Ch bN eV;go_enter func85,ntmps85;go_wp2_with fail
  refine T.mono ?_;rintro e w2 ⟨rfl,bk⟩;have T2:=qP (H.ah.below bk.ah) qu.ah 10 d (m:={l with aQ:=l.aQ++[gV 10 (bytes d)]}) rfl rfl rfl rfl rfl rfl rfl cN.ah.1 cN.ah.2.1 cN.ah.2.2.1 cN.ah.2.2.2.1 cN.ah.2.2.2.2;clear T c6;go_wp2_with fail
  refine T2.mono ?_;rintro e w3 ⟨t2,k2,q2,rfl,HL,dE⟩;clear T2;go_wp2;go_end0
  exact ⟨_,_,_,rfl,HL,⟨(bY.below L rb rp _ _ _ bk.ah).trans dE.ah⟩⟩
end
end
open aj (qM)
open cO (jr)
section
variable {k:Nat}
section
variable {w0 W W':World} {L sb mb rb rp:Nat} {tv kv qv:Value} {c:Cf} {l:Lg}
theorem PM (h:bH w0 W L sb mb rb rp tv kv qv c l) (hg:jF.bD w0) (hf:kN c l k) (hk:k≤1000) (hc:iI c) (z:Int) (n:Nat) (hn:(l.aK.take z.toNat).length=n) :
 Calls prog 24 #[.pointer (some ⟨L,0,none⟩),.int .i64 z] W fun e w'=>∃ cP kv' cQ,e=.returned (.slice (some ⟨W.heap.size,0,none⟩) n n)∧Sl (fA w' W.heap.size (l.aK.take z.toNat))∧Sl (bH w0 w' L sb mb rb rp cP kv' cQ c (aj.jD c l z).1)∧Sl (bY W w' L rb rp tv kv qv cP kv' cQ):=by
 obtain ⟨p1,p2,p3,p4,p5⟩:=GN hf hk hc;have T:=Py h hg z _ rfl n hn (m:={l with cj:=l.cj++l.aK.take z.toNat,aK:=l.aK.drop z.toNat}) rfl rfl rfl rfl rfl rfl rfl ⟨by
  show l.cj++l.aK.take z.toNat++l.aK.drop z.toNat++l.tail=_
  rw [Ae l.cj,Ee];exact p1.bytes,p1.bE,p1.aQ,p1.rest,by
  show (l.aK.drop z.toNat).length≤_
  rw [iP];have:=p1.aK;omega⟩ p2 p3 p4 (jd p5 (by omega))
 clear h hg hf hk hc p1 p2 p3 p4 p5 hn;go_enter func24,ntmps24;go_wp2_with fail
 refine T.mono ?_;rintro e w2 ⟨t2,k2,q2,rfl,HR,HL,HG⟩;clear T;go_wp2;go_ret;exact ⟨_,_,_,rfl,HR,HL,HG⟩
theorem TZ (hf:kN c l k) (hk:k≤1000) (hc:iI c) (op:Int) (ho:op=8∨op=9∨op=10) (d:List Nat) (hd:d.length≤125) (hs:aU 256 d):lC c {l with aQ:=l.aQ++[gV op d]}∧l.tail.length≤100000∧aU 256 l.tail∧c.bR≤65536∧(l.aQ++[gV op d]).length+l.rest.length≤1000000:=by
 obtain ⟨p1,p2,p3,p4,p5⟩:=GN hf hk hc;exact ⟨⟨p1.bytes,p1.bE,fun f hf=>by
  rcases sN.1 hf with hf | hf
  ·exact p1.aQ f hf
  ·rw [uF] at hf
   rw [hf];exact ⟨rfl,ho,rfl,rfl,hd,hs⟩,p1.rest,p1.aK⟩,p2,p3,p4,by rw [jB,Fv];omega⟩
theorem PN (h:bH w0 W L sb mb rb rp tv kv qv c l) (hg:jF.bD w0) (hf:kN c l k) (hk:k≤1000) (hc:iI c) (cY:l.am=false→l.dA=false∧l.ag=0) (d:ByteArray) (hd:d.size≤1000000) :
 Calls prog 22 #[.pointer (some ⟨L,0,none⟩),.string d] W fun e w'=>∃ cP kv' cQ,e=.returned (.bool (aj.jW c l (bytes d)).2)∧Sl (bH w0 w' L sb mb rb rp cP kv' cQ c (aj.jW c l (bytes d)).1)∧Sl (bY W w' L rb rp tv kv qv cP kv' cQ):=by
 have T:=CP h;have H:=Sl.mk h;have qu:=Sl.mk hg;cases hs:l.am with
 | true =>
   have bN:aj.jW c l (bytes d)=(l,false):=if_pos (.inl hs);rw [bN];rw [hs] at T;clear h hg hf hk hc cY hd bN hs;go_enter func22,ntmps22;go_wp2_with fail
   refine T.mono ?_;rintro e w1 ⟨rfl,rfl⟩;clear T;go_wp2;go_ret;exact ⟨_,_,_,rfl,H,⟨bY.below L rb rp tv kv qv (dW _ _)⟩⟩
 | false =>
   rw [hs] at T;obtain ⟨ju,ym⟩:=cY hs;by_cases hl:125<d.size
   ·have bN:aj.jW c l (bytes d)=(l,false):=if_pos (.inr (.inr (.inr (by rw [au];exact hl))))
    rw [bN];have hq:((d.size:Int)>125)=True:=eq_true (by omega);clear h hg hf hk hc cY hd bN hs hl ju ym;go_enter func22,ntmps22;go_wp2_with fail
    refine T.mono ?_;rintro e w1 ⟨rfl,rfl⟩;clear T;go_wp2;go_ret;exact ⟨_,_,_,rfl,H,⟨bY.below L rb rp tv kv qv (dW _ _)⟩⟩
   ·have bN:aj.jW c l (bytes d)=(aj.move c {l with aQ:=l.aQ++[gV 9 (bytes d)]},true):=if_neg (by
     rw [hs,ju,ym,au];simp;omega)
    rw [bN];have hq:((d.size:Int)>125)=False:=dR (by omega);have cN:=Sl.mk (TZ hf hk hc 9 (.inr (.inl rfl)) (bytes d) (by rw [au];omega) (aJ d));have CL:Sl (∀ V,Calls prog 59 #[.string d] V fun e w'=>e=.returned (.string d)∧Sl (Below V.heap.size V w')):=⟨fun V=>Gh.yO d V hd⟩;clear h hg hf hk hc cY hd bN hs hl ju ym;go_enter func22,ntmps22;go_wp2_with fail
    refine T.mono ?_;rintro e w1 ⟨rfl,rfl⟩;clear T;go_upto_region 3 with fail
    refine zH (S:=fun V=>Below W.heap.size W V) (D:=fun k=>k==5) (by kernel_rfl) (fun Rw aM=>?_);refine zP 0 (some 13) (.move (.tmp 0)) _ aM ?_;simp only [zA,zB,zS];refine zP 1 (some 14) (.nilCheck (.tmp 13)) _ aM ?_;simp only [zA,zB,zS];refine zP 2 (some 15) (.fieldAddr 80 (.tmp 14) 4) _ aM ?_;simp only [zA,zB,zS];refine zP 3 (some 16) (.move (.tmp 1)) _ aM ?_;simp only [zA,zB,zS];refine qO (d:=some 17) (op:=.call {callee:=Callee.value (Operand.func 59),args:=#[Operand.tmp 16],argTypes:=#[9]}) (g:=none) 4 59 #[.string d] rfl (by kernel_rfl) (by kernel_rfl) ?y4 ?_;case y4=>intro o' ho;simp only [execOp,ho];go_simp;try rfl
    refine (CL.ah Rw).mono ?_;rintro e w2 ⟨rfl,bk⟩;have bv:Below W.heap.size W w2:=aM.trans (bk.ah.mono aM.size);refine ⟨_,rfl,bv,?_⟩;simp only [zA,zB,zS];have CT:=qP (H.ah.below bv) qu.ah 9 d (m:={l with aQ:=l.aQ++[gV 9 (bytes d)]}) rfl rfl rfl rfl rfl rfl rfl cN.ah.1 cN.ah.2.1 cN.ah.2.2.1 cN.ah.2.2.2.1 cN.ah.2.2.2.2;refine EK (d:=some 18) (op:=.call {callee:=Callee.value (Operand.func 58),args:=#[Operand.tmp 15,Operand.const (Value.int IntKind.i64 9),Operand.tmp 17],argTypes:=#[76,3,9]}) (g:=none) 5 58 #[.pointer (some ⟨L,4,none⟩),.int .i64 9,.string d] rfl (by kernel_rfl) (by kernel_rfl) ?y5 (by kernel_rfl) ?_;case y5=>intro o' ho;simp only [execOp,ho];go_simp;try rfl
    refine (CT).mono ?_;rintro e w3 ⟨t2,k2,q2,rfl,HL,dt⟩;refine ⟨_,rfl,?_⟩;simp only [zA,zB,zS];refine zF (by kernel_rfl) ?_;clear CT;go_upto_region 4 with fail
    go_wp2;go_ret;exact ⟨_,_,_,rfl,HL,⟨(bY.below L rb rp tv kv qv bv).trans dt.ah⟩⟩
theorem vJ (h:bH w0 W L sb mb rb rp tv kv qv c l) (hg:jF.bD w0) (hf:kN c l k) (hk:k≤1000) (hc:iI c) (hu:oq.bD w0) (ao:Int) (w:ByteArray) :
 Calls prog 23 #[.pointer (some ⟨L,0,none⟩),.int .i64 ao,.string w] W fun e w'=>∃ cP kv' cQ,e=.returned (.bool (aj.bU c l ao (bytes w)).2)∧Sl (bH w0 w' L sb mb rb rp cP kv' cQ c (aj.bU c l ao (bytes w)).1)∧Sl (bY W w' L rb rp tv kv qv cP kv' cQ):=by
 obtain ⟨d,e1,vz⟩:=Gh.Vr ao w;have T:=Gh.nD W W ao w d e1 vz (dW _ _) (hu.below h.low hu.size);have H:=Sl.mk h;have qu:=Sl.mk hg;have HO:Sl (∀ j,EU L rb rp tv kv qv j→j<W.heap.size):=⟨fun j e=>(h.lu e).2⟩;cases hs:l.am with
 | true =>
   have bN:aj.bU c l ao (bytes w)=(l,false):=if_pos (.inl hs);rw [bN];clear h hg hf hk hc hu bN vz;go_enter func23,ntmps23;go_wp2_with fail
   refine T.mono ?_;rintro e w1 ⟨rfl,bi⟩;clear T;have H1:=Sl.mk (H.ah.below bi.ah);obtain ⟨-,-,-,-,-,-,-,-,-,-,-,Iv⟩:=H1.ah.cells;rw [hs] at Iv;clear hs;go_wp2;go_ret;exact ⟨_,_,_,rfl,H1,⟨bY.below L rb rp tv kv qv bi.ah⟩⟩
 | false =>
   by_cases he:e1=0
   ·subst he
    have D2:aj.control c {l with am:=true,rest:=[],gy:=bytes d} 8 (bytes d)={aj.move c {l with rest:=[],aQ:=l.aQ++[gV 8 (bytes d)]} with am:=true,gy:=bytes d}:=aj.VR c {l with rest:=[],aQ:=l.aQ++[gV 8 (bytes d)]} true (bytes d);have bN:aj.bU c l ao (bytes w)=({aj.move c {l with rest:=[],aQ:=l.aQ++[gV 8 (bytes d)]} with am:=true,gy:=bytes d},true):=by
     rw [← D2];unfold aj.bU;rw [vz,if_neg (by rw [hs];simp)]
    clear D2;rw [bN];have bt:=(aG.sW vz).1;have bB:aU 256 (bytes d):=aJ d;have cN:=Sl.mk (TZ hf hk hc 8 (.inl rfl) (bytes d) bt bB);have HIV:Sl (lC c {l with rest:=[],aQ:=l.aQ++[gV 8 (bytes d)]}∧(l.aQ++[gV 8 (bytes d)]).length+([]:List Fr).length≤1000000):=⟨⟨cN.ah.1.bytes,cN.ah.1.bE,cN.ah.1.aQ,fun f hf=>absurd hf pJ,cN.ah.1.aK⟩,by have:=cN.ah.2.2.2.2;rw [Eg];omega⟩;clear h hg hf hk hc hu bN vz bt bB;go_enter func23,ntmps23;go_wp2_with fail
    refine T.mono ?_;rintro e w1 ⟨rfl,bi⟩;clear T;have H1:=Sl.mk (H.ah.below bi.ah);obtain ⟨-,-,-,-,-,-,-,-,-,-,-,Iv⟩:=H1.ah.cells;rw [hs] at Iv;have T2:=TU H1.ah qu.ah d (m:={l with rest:=[],aQ:=l.aQ++[gV 8 (bytes d)]}) rfl rfl rfl rfl rfl rfl rfl HIV.ah.1 cN.ah.2.1 cN.ah.2.2.1 cN.ah.2.2.2.1 HIV.ah.2;clear hs;go_wp2_with fail
    refine T2.mono ?_;rintro e w2 ⟨t2,k2,q2,rfl,eK,dE⟩;clear T2 Iv;have Rd:=eK.ah.set 11 (.bool true) (m:={aj.move c {l with rest:=[],aQ:=l.aQ++[gV 8 (bytes d)]} with am:=true,gy:=bytes d}) (cP:=t2) (kv':=k2) (cQ:=q2) rfl rfl eK.ah.T eK.ah.C eK.ah.D eK.ah.dr eK.ah.tn eK.ah.cn;have f11:=eK.ah.fF 11;obtain ⟨-,-,-,-,-,-,-,-,-,-,-,d11⟩:=eK.ah.cells;have hG3:=(((bY.below L rb rp tv kv qv bi.ah).trans dE.ah)).trans (sG w2 L rb rp t2 k2 q2 11 (.bool true) (fun _ e=>.inl e) (fun _ e=>.inl e) (fun _ e=>.inl e));obtain ⟨V,hV⟩:=zX (w2.setCell ⟨L,11,none⟩ (.bool true));rw [hV] at Rd hG3;have nl:=Sl.mk Rd;have dt:=Sl.mk hG3;clear Rd hG3 eK dE H1 bi;go_wp2;(try rw [hV]);go_ret;exact ⟨_,_,_,rfl,nl,dt⟩
   ·have bN:aj.bU c l ao (bytes w)=(l,false):=if_pos (.inr (by rw [vz];exact he))
    rw [bN];have hq:(((e1:Nat):Int) != 0)=true:=by simpa using he
    have mw:(((e1:Nat):Int)==0)=false:=mJ.2 (by omega);clear h hg hf hk hc hu bN vz he;go_enter func23,ntmps23;go_wp2_with fail
    refine T.mono ?_;rintro e w1 ⟨rfl,bi⟩;clear T;have H1:=Sl.mk (H.ah.below bi.ah);obtain ⟨-,-,-,-,-,-,-,-,-,-,-,Iv⟩:=H1.ah.cells;rw [hs] at Iv;clear hs;go_wp2;go_ret;exact ⟨_,_,_,rfl,H1,⟨bY.below L rb rp tv kv qv bi.ah⟩⟩
theorem EV (h:bH w0 W L sb mb rb rp tv kv qv c l) (hg:jF.bD w0) (hf:kN c l k) (hk:k≤1000) (hc:iI c) (hu:oq.bD w0) (x:Nat) :
 Calls prog 54 #[.pointer (some ⟨L,0,none⟩),.int .i64 (x:Int)] W fun e w'=>∃ cP kv' cQ,e=.returned (.tuple #[])∧Sl (bH w0 w' L sb mb rb rp cP kv' cQ c (aj.fail c l x))∧Sl (bY W w' L rb rp tv kv qv cP kv' cQ):=by
 have f10:=h.fF 10;obtain ⟨-,-,-,-,-,-,-,-,-,-,L7,-⟩:=h.cells;have hL:=h.set 10 (.int .i64 (x:Int)) (m:={l with ag:=x}) (cP:=tv) (kv':=kv) (cQ:=qv) rfl rfl h.T h.C h.D h.dr h.tn h.cn;have hG:=sG W L rb rp tv kv qv 10 (.int .i64 (x:Int)) (fun _ e=>.inl e) (fun _ e=>.inl e) (fun _ e=>.inl e);obtain ⟨V,hV⟩:=zX (W.setCell ⟨L,10,none⟩ (.int .i64 (x:Int)));rw [hV] at hL hG;have T1:=Gh.SK (x:Int) V;have HF:Sl (kN c {l with ag:=x} k):=⟨aj.sD hf (aj.zJ hf.ok ⟨rfl,rfl,rfl,rfl,rfl,rfl,rfl,rfl,rfl⟩) ⟨rfl,rfl,rfl,rfl⟩⟩;have HP:Sl (jF.bD w0∧k≤1000∧iI c∧oq.bD w0):=⟨hg,hk,hc,hu⟩;have HL:=Sl.mk hL;have HG:=Sl.mk hG;clear h hg hf hk hc hu hL hG;go_enter func54,ntmps54;go_upto_region 1 with fail
 (try rw [hV]);go_wp2_with fail
 refine T1.mono ?_;rintro e w1 ⟨rfl,bi⟩;clear T1;have T2:=vJ (HL.ah.below bi.ah) HP.ah.1 HF.ah HP.ah.2.1 HP.ah.2.2.1 HP.ah.2.2.2 (dI (x:Int)) {data:=#[]};go_wp2_with fail
 refine T2.mono ?_;rintro e w2 ⟨t2,k2,q2,rfl,eK,dE⟩;clear T2 f10 L7;go_wp2;go_end0
 exact ⟨_,_,_,rfl,eK,⟨(HG.ah.trans (bY.below L rb rp tv kv qv bi.ah)).trans dE.ah⟩⟩
theorem PO (h:bH w0 W L sb mb rb rp tv kv qv c l) (hg:jF.bD w0) (hf:kN c l k) (hk:k≤1000) (hc:iI c) (hu:oq.bD w0) (o d:Int) (s:ByteArray) (h9:o=9→s.size≤125) (h8:o=8→d=1005∨dS d=true) :
 Calls prog 53 #[.pointer (some ⟨L,0,none⟩),.agg #[.int .i64 o,.int .i64 d,.string s]] W fun e w'=>∃ cP kv' cQ,e=.returned (.bool (decide (o≠9)))∧Sl (bH w0 w' L sb mb rb rp cP kv' cQ c (aj.bV c l ⟨o,d,bytes s⟩))∧Sl (bY W w' L rb rp tv kv qv cP kv' cQ):=by
 obtain ⟨wa,cz,HB,hH⟩:=zY W #[.int .i64 o,.int .i64 d,.string s] 52;have h1:=h.below HB;have H:=Sl.mk h1;have lz:=Sl.mk (bY.below L rb rp tv kv qv HB);have bz:W.heap.size<wa.heap.size:=(zl hH);have HH:=Sl.mk hH;obtain ⟨a0,a1,a2⟩:=jG.iq hH;have HP:Sl (jF.bD w0∧kN c l k∧k≤1000∧iI c∧oq.bD w0):=⟨hg,hf,hk,hc,hu⟩;by_cases It:o=9
 ·subst It
  have gh:=h9 rfl;have T:=CP h1;have bN:aj.bV c l ⟨9,d,bytes s⟩=aj.lV c l (bytes s):=if_pos rfl;rw [bN,show decide ((9:Int)≠9)=false from rfl];cases hs:l.am with
  | true =>
    have sM:aj.lV c l (bytes s)=l:=if_pos hs;rw [sM];rw [hs] at T;clear h hg hf hk hc hu h9 h8 HB hH h1 bN sM hs gh;go_enter func53,ntmps53;go_upto_region 1 with fail
    (try rw [cz]);go_wp2_with fail
    refine T.mono ?_;rintro e w1 ⟨rfl,rfl⟩;clear T;go_wp2;go_ret;exact ⟨_,_,_,rfl,H,lz⟩
  | false =>
    have sM:aj.lV c l (bytes s)=GM c l (bytes s):=if_neg (by rw [hs];decide);rw [sM];rw [hs] at T;have bS:=Sl.mk gh;clear h hg hf hk hc hu h9 h8 HB hH h1 bN sM hs gh;go_enter func53,ntmps53;go_upto_region 1 with fail
    (try rw [cz]);clear cz;go_wp2_with fail
    refine T.mono ?_;rintro e w1 ⟨rfl,rfl⟩;clear T a0 a1 a2;go_upto_region 4 with fail
    refine zH (S:=fun V=>V.heap[W.heap.size]? = some (.cells #[.int .i64 9,.int .i64 d,.string s] 52 (0,0))) (D:=fun k=>k==5) (by kernel_rfl) (fun Rw aM=>?_);have al:Rw.heap[W.heap.size]? = some (.cells #[.int .i64 9,.int .i64 d,.string s] 52 (0,0)):=ay HH.ah aM;refine zP 0 (some 11) (.move (.tmp 0)) _ al ?_;simp only [zA,zB,zS];refine zP 1 (some 12) (.nilCheck (.tmp 11)) _ al ?_;simp only [zA,zB,zS];refine zP 2 (some 13) (.fieldAddr 80 (.tmp 12) 4) _ al ?_;simp only [zA,zB,zS];refine zP 3 (some 14) (.fieldAddr 52 (.tmp 3) 2) _ al ?_;simp only [zA,zB,zS];refine zU 4 (some 15) (.load 9 (.tmp 14)) _ al ?_ (hy:=fun o' ho W hS=>by obtain ⟨-,-,b2⟩:=jG.iq hS;simp only [execOp,ho];go_simp;try rfl);simp only [zA,zB,zS];have CT:=PE (H.ah.below aM) HP.ah.1 HP.ah.2.1 HP.ah.2.2.1 HP.ah.2.2.2.1 s bS.ah;refine EK (d:=some 16) (op:=.call {callee:=Callee.value (Operand.func 85),args:=#[Operand.tmp 13,Operand.tmp 15],argTypes:=#[76,9]}) (g:=none) 5 85 #[.pointer (some ⟨L,4,none⟩),.string s] rfl (by kernel_rfl) (by kernel_rfl) ?y5 (by kernel_rfl) ?_;case y5=>intro o' ho;simp only [execOp,ho];go_simp;try rfl
    refine (CT).mono ?_;rintro e w3 ⟨t2,k2,q2,rfl,HL,dt⟩;refine ⟨_,rfl,?_⟩;simp only [zA,zB,zS];refine zF (by kernel_rfl) ?_;clear CT al;go_upto_region 5 with fail
    go_wp2;go_ret;exact ⟨_,_,_,rfl,HL,⟨(lz.ah.trans (bY.below L rb rp tv kv qv aM)).trans dt.ah⟩⟩
 ·have xV:(o==9)=false:=mJ.2 It
  rw [show decide (o≠9)=true from iG It];by_cases L3:o=8
  ·subst L3
   have Mj:(if d=1005 then 0 else d)=bI d:=by
    unfold aG.bI;by_cases hd:d=1005
    ·rw [if_pos hd,if_pos hd]
    ·rw [if_neg hd,if_neg hd,if_pos ((h8 rfl).resolve_left hd)]
   have bN:aj.bV c l ⟨8,d,bytes s⟩=(aj.bU c {l with dA:=true} (bI d) []).1:=(if_neg It).trans (if_pos rfl);rw [bN];have T1:=TS d wa;rw [Mj] at T1;have HF:Sl (kN c {l with dA:=true} k):=⟨aj.sD hf (aj.zJ hf.ok ⟨rfl,rfl,rfl,rfl,rfl,rfl,rfl,rfl,rfl⟩) ⟨rfl,rfl,rfl,rfl⟩⟩;have H2:=Sl.mk (H.ah.xH (m:={l with dA:=true}) rfl rfl rfl rfl rfl rfl rfl);have T2:=vJ H2.ah HP.ah.1 HF.ah HP.ah.2.2.1 HP.ah.2.2.2.1 HP.ah.2.2.2.2 (bI d) {data:=#[]};clear h hg hf hk hc hu h9 h8 HB hH h1 bN Mj It;go_enter func53,ntmps53;go_upto_region 1 with fail
   (try rw [cz]);go_wp2_with fail
   refine T1.mono ?_;rintro e w1 ⟨rfl,rfl⟩;clear T1;go_wp2_with fail
   refine T2.mono ?_;rintro e w2 ⟨t2,k2,q2,rfl,eK,dE⟩;clear T2;go_wp2;go_ret;exact ⟨_,_,_,rfl,eK,⟨lz.ah.trans dE.ah⟩⟩
  ·have hq8:(o==8)=false:=mJ.2 L3
   have bN:aj.bV c l ⟨o,d,bytes s⟩=l:=(if_neg It).trans (if_neg L3);rw [bN];clear h hg hf hk hc hu h9 h8 HB hH h1 bN It L3;go_enter func53,ntmps53;go_upto_region 1 with fail
   (try rw [cz]);go_wp2;go_ret;exact ⟨_,_,_,rfl,H,lz⟩
end
end
section
variable {w0 W W':World} {L sb mb rb rp:Nat} {tv kv qv:Value} {c:Cf} {l:Lg}
theorem VT {W:World} {base g n:Nat} {fs:List Fr} (h:iL.nG W g fs) (hn:fs.length=n) (hp:0<n) (hl:n≤1000000) (hb:base≤g):iF W base (.slice (some ⟨g,0,none⟩) n n) fs:=by
 subst hn;refine .inr ⟨g,0,fs.length,_,rfl,hp,hb,h,aY _,by unfold maxLen;omega,by rw [UN,eG];omega,fun j u hu=>?_⟩;rw [vT,Ed];exact hu
theorem PR {k:Nat} (h:bH w0 W L sb mb rb rp tv kv qv c l) (hg:jF.bD w0) (hf:kN c l k) (hk:k≤1000) (hc:iI c) (cY:l.am=false→l.dA=false∧l.ag=0) (o d:Int) (s:ByteArray) :
 Calls prog 21 #[.pointer (some ⟨L,0,none⟩),.agg #[.int .i64 o,.int .i64 d,.string s]] W fun e w'=>∃ cP kv' cQ,e=.returned (.bool (aj.send c l o (bytes s)).2)∧Sl (bH w0 w' L sb mb rb rp cP kv' cQ c (aj.send c l o (bytes s)).1)∧Sl (bY W w' L rb rp tv kv qv cP kv' cQ):=by
 obtain ⟨wa,cz,HB,hH⟩:=zY W #[.int .i64 o,.int .i64 d,.string s] 52;have h1:=h.below HB;have H:=Sl.mk h1;have lz:=Sl.mk (bY.below L rb rp tv kv qv HB);have HH:=Sl.mk hH;have bz:=h1.lt;obtain ⟨c0,-⟩:=h1.cells;have HP:Sl (jF.bD w0∧kN c l k∧k≤1000∧iI c):=⟨hg,hf,hk,hc⟩;have sP:aj.free l=(!l.am&&l.rest.isEmpty):=by
  unfold aj.free;cases hs:l.am with
  | true=>rfl
  | false =>
    obtain ⟨q1,q2⟩:=cY hs;rw [q1,q2];rfl
 have XS:∀ r,aj.free l=r→Sl (∀ V,Below wa.heap.size wa V→Calls prog 35 #[.pointer (some ⟨L,0,none⟩)] V fun e w'=>e=.returned (.bool r)∧V=w'):=fun r hr=>⟨fun V hb=>Jb (h1.below hb) l.rest.length rfl r (by
  rw [← hr,sP];congr 1;cases l.rest with
  | nil=>rfl
  | cons f r=>exact mJ.2 (by rw [jE];omega))⟩
 have AE:=hc.m2;have vv:=hc.f2;have nL:=hc.f1;cases fk:aj.free l with
 | false =>
   have FT:=XS false fk;have bN:aj.send c l o (bytes s)=(l,false):=if_neg (fun e=>by rw [fk] at e;exact absurd e.1 (by decide));rw [bN];clear h hg hf hk hc cY HB hH h1 sP XS fk bN AE vv nL;go_enter func21,ntmps21;go_upto_region 1 with fail
   (try rw [cz]);clear cz;go_upto_region 1 with fail
   refine zG (S:=fun V=>Below wa.heap.size wa V) (by kernel_rfl) (fun Rw aM=>?_);refine zT 0 (some 7) (.move (.tmp 0)) _ aM ?_;simp only [zA,zB,zS];refine zC 1 (some 8) (.call {callee:=.value (.func 35),args:=#[.tmp 7],argTypes:=#[30]}) 35 #[.pointer (some ⟨L,0,none⟩)] ?_;refine (FT.ah Rw aM).mono ?_;rintro e w2 ⟨rfl,rfl⟩;refine ⟨_,rfl,aM,?_⟩;simp only [zA,zB,zS];refine zT 2 (some 9) (.unOp .not 4 (.tmp 8)) (.bool true) aM ?_ (hy:=fun o' ho W hS=>by exact by simp only [execOp,ho];go_simp;try rfl);simp only [zA,zB,zS];refine zT 3 (some 10) (.move (.tmp 9)) _ aM ?_;simp only [zA,zB,zS];refine mZ (d:=some 11) (op:=.fieldAddr 52 (Operand.tmp 3) 2) (g:=some (3,false)) 4 rfl (by kernel_rfl) (by kernel_rfl) (by kernel_rfl) (by kernel_rfl) aM ?_;simp only [zA,zB,zS];refine mZ (d:=some 12) (op:=.load 9 (Operand.tmp 11)) (g:=some (3,false)) 5 rfl (by kernel_rfl) (by kernel_rfl) (by kernel_rfl) (by kernel_rfl) aM ?_;simp only [zA,zB,zS];refine mZ (d:=some 13) (op:=.call {callee:=Callee.builtin Builtin.len,args:=#[Operand.tmp 12],argTypes:=#[9]}) (g:=some (3,false)) 6 rfl (by kernel_rfl) (by kernel_rfl) (by kernel_rfl) (by kernel_rfl) aM ?_;simp only [zA,zB,zS];refine mZ (d:=some 14) (op:=.move (Operand.tmp 0)) (g:=some (3,false)) 7 rfl (by kernel_rfl) (by kernel_rfl) (by kernel_rfl) (by kernel_rfl) aM ?_;simp only [zA,zB,zS];refine mZ (d:=some 15) (op:=.nilCheck (Operand.tmp 14)) (g:=some (3,false)) 8 rfl (by kernel_rfl) (by kernel_rfl) (by kernel_rfl) (by kernel_rfl) aM ?_;simp only [zA,zB,zS];refine mZ (d:=some 16) (op:=.fieldAddr 80 (Operand.tmp 15) 0) (g:=some (3,false)) 9 rfl (by kernel_rfl) (by kernel_rfl) (by kernel_rfl) (by kernel_rfl) aM ?_;simp only [zA,zB,zS];refine mZ (d:=some 17) (op:=.load 3 (Operand.tmp 16)) (g:=some (3,false)) 10 rfl (by kernel_rfl) (by kernel_rfl) (by kernel_rfl) (by kernel_rfl) aM ?_;simp only [zA,zB,zS];refine mZ (d:=some 18) (op:=.binOp BinOp.gtr 3 (Operand.tmp 13) (Operand.tmp 17) 3) (g:=some (3,false)) 11 rfl (by kernel_rfl) (by kernel_rfl) (by kernel_rfl) (by kernel_rfl) aM ?_;simp only [zA,zB,zS];refine zT 12 (some 19) (.pick (.tmp 10) (.const (.bool true)) (.tmp 18)) (.bool true) aM ?_ (hy:=fun o' ho W hS=>by exact by simp only [execOp,ho];go_simp;try rfl);simp only [zA,zB,zS];refine zE (by kernel_rfl) ?_;go_wp2;go_ret;exact ⟨_,_,_,rfl,⟨H.ah.below aM⟩,⟨lz.ah.trans (bY.below L rb rp tv kv qv aM)⟩⟩
 | true =>
   have FT:=XS true fk;by_cases hl:c.bh<s.size
   ·have bN:aj.send c l o (bytes s)=(l,false):=if_neg (fun e=>by have:=e.2.2;rw [au] at this;omega)
    rw [bN];have hq:((s.size:Int)>(c.bh:Int))=True:=eq_true (by omega);clear h hg hf hk hc cY HB hH h1 sP XS fk bN AE vv nL;go_enter func21,ntmps21;go_upto_region 1 with fail
    (try rw [cz]);clear cz;go_upto_region 1 with fail
    refine zG (S:=fun V=>Below wa.heap.size wa V) (by kernel_rfl) (fun Rw aM=>?_);refine zT 0 (some 7) (.move (.tmp 0)) _ aM ?_;simp only [zA,zB,zS];refine zC 1 (some 8) (.call {callee:=.value (.func 35),args:=#[.tmp 7],argTypes:=#[30]}) 35 #[.pointer (some ⟨L,0,none⟩)] ?_;refine (FT.ah Rw aM).mono ?_;rintro e w2 ⟨rfl,rfl⟩;refine ⟨_,rfl,aM,?_⟩;simp only [zA,zB,zS];refine zT 2 (some 9) (.unOp .not 4 (.tmp 8)) (.bool false) aM ?_ (hy:=fun o' ho W hS=>by exact by simp only [execOp,ho];go_simp;try rfl);simp only [zA,zB,zS];refine zT 3 (some 10) (.move (.tmp 9)) _ aM ?_;simp only [zA,zB,zS];refine zT 4 (some 11) (.fieldAddr 52 (.tmp 3) 2) _ aM ?_ (g:=some (3,false));simp only [zA,zB,zS];refine zT 5 (some 12) (.load 9 (.tmp 11)) _ aM ?_ (g:=some (3,false)) (hy:=fun o' ho W hS=>by obtain ⟨-,-,x2⟩:=jG.iq (ay HH.ah hS);simp only [execOp,ho];go_simp;try rfl);simp only [zA,zB,zS];refine zT 6 (some 13) (.call {callee:=.builtin .len,args:=#[.tmp 12],argTypes:=#[9]}) _ aM ?_ (g:=some (3,false));simp only [zA,zB,zS];refine zT 7 (some 14) (.move (.tmp 0)) _ aM ?_ (g:=some (3,false));simp only [zA,zB,zS];refine zT 8 (some 15) (.nilCheck (.tmp 14)) _ aM ?_ (g:=some (3,false));simp only [zA,zB,zS];refine zT 9 (some 16) (.fieldAddr 80 (.tmp 15) 0) _ aM ?_ (g:=some (3,false));simp only [zA,zB,zS];refine zT 10 (some 17) (.load 3 (.tmp 16)) _ aM ?_ (g:=some (3,false)) (hy:=fun o' ho W hS=>by have x3:=(hS.cell (p:=⟨L,0,none⟩) bz).trans c0;simp only [execOp,ho];go_simp;try rfl);simp only [zA,zB,zS];refine zT 11 (some 18) (.binOp .gtr 3 (.tmp 13) (.tmp 17) 3) (.bool true) aM ?_ (g:=some (3,false)) (hy:=fun o' ho W hS=>by exact by simp only [execOp,ho];go_simp;first | done | (rw [hq];done) | (simp [hq];done) | rfl);simp only [zA,zB,zS];refine zT 12 (some 19) (.pick (.tmp 10) (.const (.bool true)) (.tmp 18)) (.bool true) aM ?_ (hy:=fun o' ho W hS=>by exact by simp only [execOp,ho];go_simp;try rfl);simp only [zA,zB,zS];refine zE (by kernel_rfl) ?_;go_wp2;go_ret;exact ⟨_,_,_,rfl,⟨H.ah.below aM⟩,⟨lz.ah.trans (bY.below L rb rp tv kv qv aM)⟩⟩
   ·have hq:((s.size:Int)>(c.bh:Int))=False:=dR (by omega)
    by_cases ho:o=1∨o=2
    ·obtain ⟨fs,Re⟩:=zX (jr c.bR o (bytes s))
     obtain ⟨n,hn⟩:=zX fs.length;have W8:0<n:=by rw [← hn,← Re];exact cO.FI c.bR nL o (bytes s)
     have hnl:n≤65537:=by
      have:=aj.Nh nL (bytes s).length o (bytes s) (aY _);rw [Re,hn,au] at this;omega
     have bN:aj.send c l o (bytes s)=(aj.move c {l with rest:=fs,bX:=l.bX++[(o,bytes s)]},true):=by
      rw [← Re];exact if_pos ⟨fk,ho,by rw [au];omega⟩
     rw [bN];have FR:Sl (∀ V,Calls prog 55 #[.int .i64 o,.string s,.int .i64 (c.bR:Int)] V fun e w'=>∃ g,e=.returned (.tuple #[.slice (some ⟨g,0,none⟩) n n,.int .i64 0])∧Sl (iL.nG w' g fs)∧V.heap.size≤g∧Sl (Below V.heap.size V w')):=⟨fun V=>by
      have:=iL.Ku o s c.bR n V ho (by omega) ⟨nL,vv⟩ (by rw [Re];exact hn);rw [Re] at this;exact this⟩
     obtain ⟨p1,p2,p3,p4,p5⟩:=GN hf hk hc;have h5:=aj.jY.TP hf;have cN:Sl (lC c {l with rest:=fs,bX:=l.bX++[(o,bytes s)]}∧l.tail.length≤100000∧aU 256 l.tail∧c.bR≤65536∧l.aQ.length+fs.length≤1000000):=⟨⟨p1.bytes,p1.bE,p1.aQ,by rw [← Re];exact qM nL ho (bytes s) (aJ s),p1.aK⟩,p2,p3,p4,by rw [hn];omega⟩;have HN:=Sl.mk hn;have X2:=Sl.mk (And.intro W8 hnl);clear h hg hf hk hc cY HB hH h1 sP XS fk bN AE vv nL Re hn W8 hnl p1 p2 p3 p4 p5 h5 ho hl;go_enter func21,ntmps21;go_upto_region 1 with fail
     (try rw [cz]);clear cz;go_upto_region 1 with fail
     refine zG (S:=fun V=>Below wa.heap.size wa V) (by kernel_rfl) (fun Rw aM=>?_);refine zT 0 (some 7) (.move (.tmp 0)) _ aM ?_;simp only [zA,zB,zS];refine zC 1 (some 8) (.call {callee:=.value (.func 35),args:=#[.tmp 7],argTypes:=#[30]}) 35 #[.pointer (some ⟨L,0,none⟩)] ?_;refine (FT.ah Rw aM).mono ?_;rintro e w2 ⟨rfl,rfl⟩;refine ⟨_,rfl,aM,?_⟩;simp only [zA,zB,zS];refine zT 2 (some 9) (.unOp .not 4 (.tmp 8)) (.bool false) aM ?_ (hy:=fun o' ho W hS=>by exact by simp only [execOp,ho];go_simp;try rfl);simp only [zA,zB,zS];refine zT 3 (some 10) (.move (.tmp 9)) _ aM ?_;simp only [zA,zB,zS];refine zT 4 (some 11) (.fieldAddr 52 (.tmp 3) 2) _ aM ?_ (g:=some (3,false));simp only [zA,zB,zS];refine zT 5 (some 12) (.load 9 (.tmp 11)) _ aM ?_ (g:=some (3,false)) (hy:=fun o' ho W hS=>by obtain ⟨-,-,x2⟩:=jG.iq (ay HH.ah hS);simp only [execOp,ho];go_simp;try rfl);simp only [zA,zB,zS];refine zT 6 (some 13) (.call {callee:=.builtin .len,args:=#[.tmp 12],argTypes:=#[9]}) _ aM ?_ (g:=some (3,false));simp only [zA,zB,zS];refine zT 7 (some 14) (.move (.tmp 0)) _ aM ?_ (g:=some (3,false));simp only [zA,zB,zS];refine zT 8 (some 15) (.nilCheck (.tmp 14)) _ aM ?_ (g:=some (3,false));simp only [zA,zB,zS];refine zT 9 (some 16) (.fieldAddr 80 (.tmp 15) 0) _ aM ?_ (g:=some (3,false));simp only [zA,zB,zS];refine zT 10 (some 17) (.load 3 (.tmp 16)) _ aM ?_ (g:=some (3,false)) (hy:=fun o' ho W hS=>by have x3:=(hS.cell (p:=⟨L,0,none⟩) bz).trans c0;simp only [execOp,ho];go_simp;try rfl);simp only [zA,zB,zS];refine zT 11 (some 18) (.binOp .gtr 3 (.tmp 13) (.tmp 17) 3) (.bool false) aM ?_ (g:=some (3,false)) (hy:=fun o' ho W hS=>by exact by simp only [execOp,ho];go_simp;first | done | (rw [hq];done) | (simp [hq];done) | rfl);simp only [zA,zB,zS];refine zT 12 (some 19) (.pick (.tmp 10) (.const (.bool true)) (.tmp 18)) (.bool false) aM ?_ (hy:=fun o' ho W hS=>by exact by simp only [execOp,ho];go_simp;try rfl);simp only [zA,zB,zS];refine zE (by kernel_rfl) ?_;have H2:=H.ah.below aM;have Cl:=H2.lt;have ZC:=Sl.mk (ay HH.ah aM);have dE:=Sl.mk (lz.ah.trans (bY.below L rb rp tv kv qv aM));obtain ⟨-,c1,-⟩:=H2.cells;have eK:=Sl.mk H2;obtain ⟨wb,gR⟩:=zX Rw;subst gR;clear H2 c0 bz aM FT hq H HH lz;go_upto_region 3 with fail
     refine zG (S:=fun V=>Below Rw.heap.size Rw V) (by kernel_rfl) (fun Rx cq=>?_);refine zT 0 (some 21) (.fieldAddr 52 (.tmp 3) 0) _ cq ?_;simp only [zA,zB,zS];refine zT 1 (some 22) (.load 3 (.tmp 21)) _ cq ?_ (hy:=fun o' ho W hS=>by obtain ⟨x0,-,-⟩:=jG.iq (ay ZC.ah hS);simp only [execOp,ho];go_simp;try rfl);simp only [zA,zB,zS];refine zT 2 (some 23) (.fieldAddr 52 (.tmp 3) 2) _ cq ?_;simp only [zA,zB,zS];refine zT 3 (some 24) (.load 9 (.tmp 23)) _ cq ?_ (hy:=fun o' ho W hS=>by obtain ⟨-,-,x2⟩:=jG.iq (ay ZC.ah hS);simp only [execOp,ho];go_simp;try rfl);simp only [zA,zB,zS];refine zT 4 (some 25) (.move (.tmp 0)) _ cq ?_;simp only [zA,zB,zS];refine zT 5 (some 26) (.nilCheck (.tmp 25)) _ cq ?_;simp only [zA,zB,zS];refine zT 6 (some 27) (.fieldAddr 80 (.tmp 26) 1) _ cq ?_;simp only [zA,zB,zS];refine zT 7 (some 28) (.load 3 (.tmp 27)) _ cq ?_ (hy:=fun o' ho W hS=>by have x3:=(hS.cell (p:=⟨L,1,none⟩) Cl).trans c1;simp only [execOp,ho];go_simp;try rfl);simp only [zA,zB,zS];refine zC 8 (some 29) (.call {callee:=.value (.func 55),args:=#[.tmp 22,.tmp 24,.tmp 28],argTypes:=#[3,9,3]}) 55 #[.int .i64 o,.string s,.int .i64 (c.bR:Int)] ?_;refine (FR.ah Rx).mono ?_;rintro e w3 ⟨g,rfl,HRF,eg,bv⟩;have hJ:Below Rw.heap.size Rw w3:=cq.trans (bv.ah.mono cq.size);refine ⟨_,rfl,hJ,?_⟩;simp only [zA,zB,zS];refine zT 9 (some 20) (.move (.tmp 29)) _ hJ ?_;simp only [zA,zB,zS];refine zT 10 (some 30) (.extract (.tmp 20) 0) _ hJ ?_;simp only [zA,zB,zS];refine zT 11 (some 31) (.extract (.tmp 20) 1) _ hJ ?_;simp only [zA,zB,zS];refine zT 12 (some 5) (.assign (.tmp 30)) _ hJ ?_;simp only [zA,zB,zS];refine zT 13 (some 6) (.assign (.tmp 31)) _ hJ ?_;simp only [zA,zB,zS];refine zE (by kernel_rfl) ?_;have HV:iF w3 w0.heap.size (.slice (some ⟨g,0,none⟩) n n) fs:=VT HRF.ah HN.ah X2.ah.1 (by have:=X2.ah.2;omega) (jd eK.ah.low.size (jd cq.size eg));have ST:=Px (m:={l with rest:=fs,bX:=l.bX++[(o,bytes s)]}) eK.ah hJ HP.ah.1 HV (fun j e=>by
      have e:some g=some j:=e;injection e with e
      have:=cq.size;omega) rfl rfl rfl rfl rfl rfl cN.ah.1 cN.ah.2.1 cN.ah.2.2.1 cN.ah.2.2.2.1 cN.ah.2.2.2.2
     clear HV HRF eg bv c1 cq hJ FR;go_wp2_with fail
     refine ST.mono ?_;rintro e w4 ⟨t2,k2,q2,rfl,pj,oF⟩;clear ST;go_wp2;go_ret;exact ⟨_,_,_,rfl,pj,⟨dE.ah.trans oF.ah⟩⟩
    ·have bN:aj.send c l o (bytes s)=(l,false):=if_neg (fun e=>ho e.2.1)
     rw [bN];have FR:Sl (∀ V,Calls prog 55 #[.int .i64 o,.string s,.int .i64 (c.bR:Int)] V fun e w'=>e=.returned (.tuple #[.slice none 0 0,.int .i64 130])∧V=w'):=⟨fun V=>iL.OM o s c.bR V (.inl ho)⟩;clear h hg hf hk hc cY HB hH h1 sP XS fk bN AE vv nL ho hl;go_enter func21,ntmps21;go_upto_region 1 with fail
     (try rw [cz]);clear cz;go_upto_region 1 with fail
     refine zG (S:=fun V=>Below wa.heap.size wa V) (by kernel_rfl) (fun Rw aM=>?_);refine zT 0 (some 7) (.move (.tmp 0)) _ aM ?_;simp only [zA,zB,zS];refine zC 1 (some 8) (.call {callee:=.value (.func 35),args:=#[.tmp 7],argTypes:=#[30]}) 35 #[.pointer (some ⟨L,0,none⟩)] ?_;refine (FT.ah Rw aM).mono ?_;rintro e w2 ⟨rfl,rfl⟩;refine ⟨_,rfl,aM,?_⟩;simp only [zA,zB,zS];refine zT 2 (some 9) (.unOp .not 4 (.tmp 8)) (.bool false) aM ?_ (hy:=fun o' ho W hS=>by exact by simp only [execOp,ho];go_simp;try rfl);simp only [zA,zB,zS];refine zT 3 (some 10) (.move (.tmp 9)) _ aM ?_;simp only [zA,zB,zS];refine zT 4 (some 11) (.fieldAddr 52 (.tmp 3) 2) _ aM ?_ (g:=some (3,false));simp only [zA,zB,zS];refine zT 5 (some 12) (.load 9 (.tmp 11)) _ aM ?_ (g:=some (3,false)) (hy:=fun o' ho W hS=>by obtain ⟨-,-,x2⟩:=jG.iq (ay HH.ah hS);simp only [execOp,ho];go_simp;try rfl);simp only [zA,zB,zS];refine zT 6 (some 13) (.call {callee:=.builtin .len,args:=#[.tmp 12],argTypes:=#[9]}) _ aM ?_ (g:=some (3,false));simp only [zA,zB,zS];refine zT 7 (some 14) (.move (.tmp 0)) _ aM ?_ (g:=some (3,false));simp only [zA,zB,zS];refine zT 8 (some 15) (.nilCheck (.tmp 14)) _ aM ?_ (g:=some (3,false));simp only [zA,zB,zS];refine zT 9 (some 16) (.fieldAddr 80 (.tmp 15) 0) _ aM ?_ (g:=some (3,false));simp only [zA,zB,zS];refine zT 10 (some 17) (.load 3 (.tmp 16)) _ aM ?_ (g:=some (3,false)) (hy:=fun o' ho W hS=>by have x3:=(hS.cell (p:=⟨L,0,none⟩) bz).trans c0;simp only [execOp,ho];go_simp;try rfl);simp only [zA,zB,zS];refine zT 11 (some 18) (.binOp .gtr 3 (.tmp 13) (.tmp 17) 3) (.bool false) aM ?_ (g:=some (3,false)) (hy:=fun o' ho W hS=>by exact by simp only [execOp,ho];go_simp;first | done | (rw [hq];done) | (simp [hq];done) | rfl);simp only [zA,zB,zS];refine zT 12 (some 19) (.pick (.tmp 10) (.const (.bool true)) (.tmp 18)) (.bool false) aM ?_ (hy:=fun o' ho W hS=>by exact by simp only [execOp,ho];go_simp;try rfl);simp only [zA,zB,zS];refine zE (by kernel_rfl) ?_;have H2:=H.ah.below aM;have Cl:=H2.lt;have ZC:=Sl.mk (ay HH.ah aM);have dE:=Sl.mk (lz.ah.trans (bY.below L rb rp tv kv qv aM));obtain ⟨-,c1,-⟩:=H2.cells;have eK:=Sl.mk H2;clear H2 c0 bz aM FT hq H HH lz;go_upto_region 3 with fail
     refine zG (S:=fun V=>Below Rw.heap.size Rw V) (by kernel_rfl) (fun Rx cq=>?_);refine zT 0 (some 21) (.fieldAddr 52 (.tmp 3) 0) _ cq ?_;simp only [zA,zB,zS];refine zT 1 (some 22) (.load 3 (.tmp 21)) _ cq ?_ (hy:=fun o' ho W hS=>by obtain ⟨x0,-,-⟩:=jG.iq (ay ZC.ah hS);simp only [execOp,ho];go_simp;try rfl);simp only [zA,zB,zS];refine zT 2 (some 23) (.fieldAddr 52 (.tmp 3) 2) _ cq ?_;simp only [zA,zB,zS];refine zT 3 (some 24) (.load 9 (.tmp 23)) _ cq ?_ (hy:=fun o' ho W hS=>by obtain ⟨-,-,x2⟩:=jG.iq (ay ZC.ah hS);simp only [execOp,ho];go_simp;try rfl);simp only [zA,zB,zS];refine zT 4 (some 25) (.move (.tmp 0)) _ cq ?_;simp only [zA,zB,zS];refine zT 5 (some 26) (.nilCheck (.tmp 25)) _ cq ?_;simp only [zA,zB,zS];refine zT 6 (some 27) (.fieldAddr 80 (.tmp 26) 1) _ cq ?_;simp only [zA,zB,zS];refine zT 7 (some 28) (.load 3 (.tmp 27)) _ cq ?_ (hy:=fun o' ho W hS=>by have x3:=(hS.cell (p:=⟨L,1,none⟩) Cl).trans c1;simp only [execOp,ho];go_simp;try rfl);simp only [zA,zB,zS];refine zC 8 (some 29) (.call {callee:=.value (.func 55),args:=#[.tmp 22,.tmp 24,.tmp 28],argTypes:=#[3,9,3]}) 55 #[.int .i64 o,.string s,.int .i64 (c.bR:Int)] ?_;refine (FR.ah Rx).mono ?_;rintro e w3 ⟨rfl,rfl⟩;refine ⟨_,rfl,cq,?_⟩;simp only [zA,zB,zS];refine zT 9 (some 20) (.move (.tmp 29)) _ cq ?_;simp only [zA,zB,zS];refine zT 10 (some 30) (.extract (.tmp 20) 0) _ cq ?_;simp only [zA,zB,zS];refine zT 11 (some 31) (.extract (.tmp 20) 1) _ cq ?_;simp only [zA,zB,zS];refine zT 12 (some 5) (.assign (.tmp 30)) _ cq ?_;simp only [zA,zB,zS];refine zT 13 (some 6) (.assign (.tmp 31)) _ cq ?_;simp only [zA,zB,zS];refine zE (by kernel_rfl) ?_;have nl:=Sl.mk (eK.ah.below cq);have dt:=Sl.mk (dE.ah.trans (bY.below L rb rp tv kv qv cq));clear cq c1 FR eK dE;go_wp2;go_ret;exact ⟨_,_,_,rfl,nl,dt⟩
end
open aj (bQ)
open jG (iC)
open aA (Ms)
section
variable {W:World} {S:Nat→Prop}
def xJ (L rb rp sb mb:Nat) (tv kv qv sv mv mp:Value) (k:Nat):Prop:=EU L rb rp tv kv qv k∨(k=sb∨sv.ownBlock=some k)∨gQ mb mv mp k
structure mz (w0 W:World) (L sb mb rb rp:Nat) (tv kv qv sv mv mp:Value) (c:Cf) (l:Lg):Prop where
 A:bH w0 W L sb mb rb rp tv kv qv c l
 S:dG w0 W sb c.af (bQ c:Int) l.bO l.ci sv
 M:gU w0 W mb (c.bh:Int) l.ms mv mp
 ap:∀ k,EU L rb rp tv kv qv k→k≠sb∧sv.ownBlock≠some k∧¬ gQ mb mv mp k
 nb:∀ k,gQ mb mv mp k→k≠sb∧sv.ownBlock≠some k
structure eH (W W':World) (S S':Nat→Prop):Prop where
 kept:bM S W W'
 dy:∀ k,S' k→S k∨W.heap.size≤k
theorem eH.refl (W:World) (S:Nat→Prop):eH W W S S:=⟨.below (dW _ _),fun _ h=>.inl h⟩
theorem eH.below {W':World} (S:Nat→Prop) (h:Below W.heap.size W W'):eH W W' S S:=⟨.below h,fun _ hk=>.inl hk⟩
theorem eH.trans {V U:World} {S1 S2:Nat→Prop} (h:eH W V S S1) (k:eH V U S1 S2):eH W U S S2 :=
 ⟨h.kept.trans k.kept (fun j hj e=>by
  rcases h.dy j e with h1 | h1
  ·exact h1
  ·omega),fun j e=>by
  rcases k.dy j e with h1 | h1
  ·exact h.dy j h1
  ·exact .inr (jd h.kept.size h1)⟩
section
variable {w0 W W':World} {L sb mb rb rp:Nat} {tv kv qv sv mv mp cP kv' cQ El AF AG:Value} {c:Cf} {l m:Lg}
theorem mz.lu (h:mz w0 W L sb mb rb rp tv kv qv sv mv mp c l) {k:Nat} (hk:xJ L rb rp sb mb tv kv qv sv mv mp k):w0.heap.size≤k∧k<W.heap.size:=by
 rcases hk with hk | (rfl | hk) | hk
 ·exact h.A.lu hk
 ·exact ⟨h.S.B,h.S.lt⟩
 ·obtain ⟨h1,cs,h2⟩:=iL.CY h.S.O hk
  exact ⟨h1,(zl h2)⟩
 ·exact h.M.m.lu hk
theorem mz.pZ (h:mz w0 W L sb mb rb rp tv kv qv sv mv mp c l) (hk:bM S W W') (hn:∀ k,xJ L rb rp sb mb tv kv qv sv mv mp k→¬ S k) (hL:Below w0.heap.size w0 W'):mz w0 W' L sb mb rb rp tv kv qv sv mv mp c l where
 A:=h.A.pZ hk (fun k e=>hn k (.inl e)) hL
 S:=iL.nS h.S hk (hn sb (.inr (.inl (.inl rfl)))) (fun g e=>hn g (.inr (.inl (.inr e)))) hL
 M:=h.M.apart hk (fun k e=>hn k (.inr (.inr e))) hL
 ap:=h.ap
 nb:=h.nb
theorem mz.low (h:mz w0 W L sb mb rb rp tv kv qv sv mv mp c l):Below w0.heap.size w0 W:=h.A.low
theorem mz.below (h:mz w0 W L sb mb rb rp tv kv qv sv mv mp c l) (k:Below W.heap.size W W'):mz w0 W' L sb mb rb rp tv kv qv sv mv mp c l :=
 h.pZ (S:=fun _=>False) (.below k) (fun _ _ e=>e) (h.low.trans (k.mono h.low.size))
theorem mz.ah (h:mz w0 W L sb mb rb rp tv kv qv sv mv mp c l) (hA:bH w0 W' L sb mb rb rp cP kv' cQ c m) (g:bY W W' L rb rp tv kv qv cP kv' cQ) (e1:m.bO=l.bO) (e2:m.ci=l.ci) (e3:m.ms=l.ms) :
 mz w0 W' L sb mb rb rp cP kv' cQ sv mv mp c m∧eH W W' (xJ L rb rp sb mb tv kv qv sv mv mp) (xJ L rb rp sb mb cP kv' cQ sv mv mp):=by
 have py:=h.S.lt;refine ⟨⟨hA,?_,?_,fun k e=>?_,h.nb⟩,⟨g.kept.wide fun k e=>.inl e,fun k e=>?_⟩⟩
 ·rw [e1,e2]
  exact iL.nS h.S g.kept (fun e=>(h.ap sb e).1 rfl) (fun j e e2=>(h.ap j e2).2.1 e) hA.low
 ·rw [e3]
  exact h.M.apart g.kept (fun k e e2=>(h.ap k e2).2.2 e) hA.low
 ·rcases g.dy k e with e4 | e4
  ·exact h.ap k e4
  ·refine ⟨fun e5=>by omega,fun e5=>?_,fun e5=>?_⟩
   ·have:=(h.lu (.inr (.inl (.inr e5)))).2;omega
   ·have:=(h.lu (.inr (.inr e5))).2;omega
 ·rcases e with e | e
  ·rcases g.dy k e with e4 | e4
   ·exact .inl (.inl e4)
   ·exact .inr e4
  ·exact .inl (.inr e)
theorem mz.fed (h:mz w0 W L sb mb rb rp tv kv qv sv mv mp c l) (hS:dG w0 W' sb c.af (bQ c:Int) m.bO m.ci El) (T:mO W W' sb (ob sv sb)) (hv:El.ownBlock=sv.ownBlock∨∀ g,El.ownBlock=some g→W.heap.size≤g)
 (e1:m.aK=l.aK) (e2:m.tail=l.tail) (e3:m.aQ=l.aQ) (e4:m.rest=l.rest) (e5:m.bu=l.bu) (e6:m.ag=l.ag) (e7:m.am=l.am) (e8:m.ms=l.ms) :
 mz w0 W' L sb mb rb rp tv kv qv El mv mp c m∧eH W W' (xJ L rb rp sb mb tv kv qv sv mv mp) (xJ L rb rp sb mb tv kv qv El mv mp):=by
 have hk:bM (fun k=>k=sb∨sv.ownBlock=some k) W W':=⟨T.os,T.tape,T.output,T.size,fun k hk hn=>T.block k hk (fun e=>hn (.inl e)) (fun e=>hn (by
  unfold ob at e;cases hv:sv.ownBlock with
  | none=>rw [hv] at e;exact .inl e
  | some g=>rw [hv] at e;exact .inr (lG some e.symm)))⟩
 have fX:∀ k,EU L rb rp tv kv qv k→¬ (k=sb∨sv.ownBlock=some k):=fun k e e2=>e2.elim (h.ap k e).1 (h.ap k e).2.1
 have hnm:∀ k,gQ mb mv mp k→¬ (k=sb∨sv.ownBlock=some k):=fun k e e2=>e2.elim (h.nb k e).1 (h.nb k e).2
 have fk:∀ k,k<W.heap.size→sv.ownBlock≠some k→El.ownBlock≠some k:=fun k hk hn e=>by
  rcases hv with hv | hv
  ·exact hn (hv ▸ e)
  ·have:=hv k e;omega
 refine ⟨⟨(h.A.pZ hk fX hS.L).xH e1 e2 e3 e4 e5 e6 e7,hS,by rw [e8];exact h.M.apart hk hnm hS.L,fun k e=>⟨(h.ap k e).1,fk k (h.A.lu e).2 (h.ap k e).2.1,(h.ap k e).2.2⟩,fun k e=>⟨(h.nb k e).1,fk k (h.M.m.lu e).2 (h.nb k e).2⟩⟩,⟨hk.wide fun k e=>.inr (.inl e),fun k e=>?_⟩⟩;rcases e with e | (e | e) | e
 ·exact .inl (.inl e)
 ·exact .inl (.inr (.inl (.inl e)))
 ·rcases hv with hv | hv
  ·exact .inl (.inr (.inl (.inr (hv ▸ e))))
  ·exact .inr (hv k e)
 ·exact .inl (.inr (.inr e))
theorem mz.Ua (h:mz w0 W L sb mb rb rp tv kv qv sv mv mp c l) {fp:Ms} (hM:gU w0 W' mb (c.bh:Int) fp AF AG) (g:iC W W' mb mv mp AF AG) :
 mz w0 W' L sb mb rb rp tv kv qv sv AF AG c {l with ms:=fp}∧eH W W' (xJ L rb rp sb mb tv kv qv sv mv mp) (xJ L rb rp sb mb tv kv qv sv AF AG):=by
 refine ⟨⟨(h.A.pZ g.kept (fun k e=>(h.ap k e).2.2) hM.m.L).xH rfl rfl rfl rfl rfl rfl rfl,iL.nS h.S g.kept (fun e=>(h.nb sb e).1 rfl) (fun j e e2=>(h.nb j e2).2 e) hM.m.L,hM,fun k e=>⟨(h.ap k e).1,(h.ap k e).2.1,fun e2=>?_⟩,fun k e=>?_⟩,⟨g.kept.wide fun k e=>.inr (.inr e),fun k e=>?_⟩⟩
 ·rcases g.dy k e2 with e3 | e3
  ·exact (h.ap k e).2.2 e3
  ·have:=(h.A.lu e).2;omega
 ·rcases g.dy k e with e3 | e3
  ·exact h.nb k e3
  ·exact ⟨fun e4=>by have:=h.S.lt;omega,fun e4=>by have:=(h.lu (.inr (.inl (.inr e4)))).2;omega⟩
 ·rcases e with e | e | e
  ·exact .inl (.inl e)
  ·exact .inl (.inr (.inl e))
  ·rcases g.dy k e with e3 | e3
   ·exact .inl (.inr (.inr e3))
   ·exact .inr e3
end
end
open aj (jY dJ rY jX bV iM fail)
open aA (Ev M0 run)
open aV (all)
open KU
open jG (X0)
section
variable {W:World} {v:Value} {base:Nat}
theorem eH.fH {V U:World} {S S1 T:Nat→Prop} (h:eH W V S S1) (k:bM T V U) (hT:∀ j,T j→W.heap.size≤j):eH W U S S1 :=
 ⟨h.kept.trans k (fun j hj e=>by have:=hT j e;omega),h.dy⟩
theorem xM {b b':Nat} {e:TypeId} {size n:Nat} {xs:List Value} (h:W.ownsRow b e size v n xs) (hb:b'≤b):W.ownsRow b' e size v n xs:=by
 obtain ⟨h1,h2⟩:=h;refine ⟨h1,h2.imp id ?_⟩;rintro ⟨g,cap,fI,e1,e2,e3⟩;exact ⟨g,cap,fI,e1,jd hb e2,e3⟩
structure FL (w0 W2 wr:World) (L sb mb rb rp:Nat) (tv kv qv sv mv mp:Value) (A2:Nat→Prop) (B2:Nat) (c:Cf) (X:Lg) (vf:Value) (gs:List Fr) (told:Value) (T:List Ev):Prop where
 iX:mz w0 wr L sb mb rb rp tv kv qv sv mv mp c X
 ou:eH W2 wr A2 (xJ L rb rp sb mb tv kv qv sv mv mp)
 jr:gZ wr B2 vf gs
 fn:∀ j,vf.ownBlock=some j→¬ xJ L rb rp sb mb tv kv qv sv mv mp j
 xj:ig wr W2.heap.size told T
 tn:∀ j,told.ownBlock=some j→(¬ xJ L rb rp sb mb tv kv qv sv mv mp j)∧vf.ownBlock≠some j
section
variable {w0 W2 wr:World} {L sb mb rb rp:Nat} {tv kv qv sv mv mp:Value} {A2:Nat→Prop} {B2:Nat} {c:Cf} {X:Lg} {vf:Value} {gs:List Fr} {told:Value} {T:List Ev} {w':World} {cP kv' cQ AF AG:Value}
theorem FL.below (h:FL w0 W2 wr L sb mb rb rp tv kv qv sv mv mp A2 B2 c X vf gs told T) (k:Below wr.heap.size wr w'):FL w0 W2 w' L sb mb rb rp tv kv qv sv mv mp A2 B2 c X vf gs told T :=
 ⟨h.iX.below k,h.ou.trans (eH.below _ k),h.jr.below k,h.fn,h.xj.below k,h.tn⟩
theorem GR {fs:List Fr} (h:gZ W base v fs) {g:Nat} (hg:v.ownBlock=some g):g<W.heap.size:=by
 obtain ⟨_,cs,h2⟩:=iL.CY h hg;exact (zl h2)
theorem KX {es:List Ev} (h:ig W base v es) {g:Nat} (hg:v.ownBlock=some g):g<W.heap.size:=by
 obtain ⟨_,cs,h2⟩:=h.heap hg;exact (zl h2)
theorem FL.Ua (h:FL w0 W2 wr L sb mb rb rp tv kv qv sv mv mp A2 B2 c X vf gs told T) {fp:Ms} (hM:gU w0 w' mb (c.bh:Int) fp AF AG) (g:iC wr w' mb mv mp AF AG):FL w0 W2 w' L sb mb rb rp tv kv qv sv AF AG A2 B2 c {X with ms:=fp} vf gs told T:=by
 obtain ⟨h1,h2⟩:=h.iX.Ua hM g;refine ⟨h1,h.ou.trans h2,iL.kJ h.jr g.kept (fun j e e2=>h.fn j e (.inr (.inr e2))),fun j e e2=>?_,iL.kJ h.xj g.kept (fun j e e2=>(h.tn j e).1 (.inr (.inr e2))),fun j e=>⟨fun e2=>?_,(h.tn j e).2⟩⟩
 ·rcases h2.dy j e2 with e3 | e3
  ·exact h.fn j e e3
  ·have:=GR h.jr e;omega
 ·rcases h2.dy j e2 with e3 | e3
  ·exact (h.tn j e).1 e3
  ·have:=KX h.xj e;omega
theorem FL.ah (h:FL w0 W2 wr L sb mb rb rp tv kv qv sv mv mp A2 B2 c X vf gs told T) {m:Lg} (hA:bH w0 w' L sb mb rb rp cP kv' cQ c m) (g:bY wr w' L rb rp tv kv qv cP kv' cQ) (e1:m.bO=X.bO) (e2:m.ci=X.ci) (e3:m.ms=X.ms):FL w0 W2 w' L sb mb rb rp cP kv' cQ sv mv mp A2 B2 c m vf gs told T:=by
 obtain ⟨h1,h2⟩:=h.iX.ah hA g e1 e2 e3;refine ⟨h1,h.ou.trans h2,iL.kJ h.jr g.kept (fun j e e2=>h.fn j e (.inl e2)),fun j e e2=>?_,iL.kJ h.xj g.kept (fun j e e2=>(h.tn j e).1 (.inl e2)),fun j e=>⟨fun e2=>?_,(h.tn j e).2⟩⟩
 ·rcases h2.dy j e2 with e3 | e3
  ·exact h.fn j e e3
  ·have:=GR h.jr e;omega
 ·rcases h2.dy j e2 with e3 | e3
  ·exact (h.tn j e).1 e3
  ·have:=KX h.xj e;omega
theorem FL.add (h:FL w0 W2 wr L sb mb rb rp tv kv qv sv mv mp A2 B2 c X vf gs told T) {x:Value} {ev:Ev} (hx:nJ wr x [ev]) (hl:T.length+1≤1000000) (hW:W2.heap.size≤wr.heap.size) (hW0:w0.heap.size≤W2.heap.size) :
 ∃ v1 w1,(Builtin.append_ #[47,47] 47 #[told,x]).run prog wr=.ok v1 w1∧FL w0 W2 w1 L sb mb rb rp tv kv qv sv mv mp A2 B2 c X vf gs v1 (T++[ev]):=by
 obtain ⟨v1,w1,fX,ho,hg,hb⟩:=AY h.xj hx (by simpa using hl) hW;have hk:bM (fun j=>told.ownBlock=some j) wr w1:=bM.grown hg (fun j e=>e);have eg:∀ j,told.ownBlock=some j→W2.heap.size≤j:=fun j e=>(h.xj.heap e).1
 have hL:Below w0.heap.size w0 w1:=hk.up h.iX.low (fun j e=>jd hW0 (eg j e)) h.iX.low.size;refine ⟨v1,w1,fX,⟨h.iX.pZ hk (fun j e e2=>(h.tn j e2).1 e) hL,h.ou.fH hk eg,iL.kJ h.jr hk (fun j e e2=>(h.tn j e2).2 e),h.fn,ho,fun j e=>?_⟩⟩;rcases hb with h1 | h1
 ·exact h.tn j (h1 ▸ e)
 ·rw [h1] at e
  injection e with e
  subst e;exact ⟨fun e2=>JK _ (h.iX.lu e2).2,fun e2=>JK _ (GR h.jr e2)⟩
end
end
open aj (jO)
open aA (vP)
section
variable {c:Cf} {l:Lg} {b:List Nat} {gs:List Fr} {x:Option Ev} {ae:Int} {st fp st0:Ms} {f:Fr} {i:Nat} {es:List Ev}
theorem VY (h:(dJ c l b).ms.bj=0):jX c l b=if (dJ c l b).ms.aL=true then 0 else (dJ c l b).ci:=by
 unfold jX;rw [if_neg (fun e=>e h)]
theorem VZ (h1:l.dA=false) (h2:l.ag=0):iM c l b=(if jX c l b≠0 then fail c ((rY c l b).foldl (bV c) (dJ c l b)) (jX c l b) else (rY c l b).foldl (bV c) (dJ c l b),(rY c l b).filter (fun x=>decide (x.op≠9))):=by
 unfold iM;rw [if_neg (fun e=>e.elim (fun e=>by rw [h1] at e;cases e) (fun e=>e h2))]
theorem FL.acv {w0 W2 wr w':World} {L sb mb rb rp:Nat} {tv kv qv sv mv mp:Value} {A2:Nat→Prop} {B2:Nat} {X:Lg} {vf:Value} {told:Value} {T:List Ev} (h:FL w0 W2 wr L sb mb rb rp tv kv qv sv mv mp A2 B2 c X vf gs told T) {x:Nat} (hg:wr.grownBy w' (some x)) (h1:¬ xJ L rb rp sb mb tv kv qv sv mv mp x) (h2:told.ownBlock≠some x) (h3:vf.ownBlock≠some x) (h4:W2.heap.size≤x) (hW0:w0.heap.size≤W2.heap.size):FL w0 W2 w' L sb mb rb rp tv kv qv sv mv mp A2 B2 c X vf gs told T:=by
 have hk:bM (fun j=>j=x) wr w':=bM.grown hg (fun j e=>by injection e with e;exact e.symm);have hL:Below w0.heap.size w0 w':=hk.up h.iX.low (fun j e=>by omega) h.iX.low.size;exact ⟨h.iX.pZ hk (fun j e e2=>h1 (e2 ▸ e)) hL,h.ou.fH hk (fun j e=>by omega),iL.kJ h.jr hk (fun j e e2=>h3 (e2 ▸ e)),h.fn,iL.kJ h.xj hk (fun j e e2=>h2 (e2 ▸ e)),h.tn⟩
theorem Ub (h0:st.bj=0) (h:aA.take ae st f=(fp,x)) (he:fp.bj≠0):x=none:=by
 cases ho:st.aL with
 | true =>
   rw [aA.sZ ae (.inr ho)] at h;injection h with h1 h2
   exact h2.symm
 | false =>
   rw [aA.oL ae h0 ho] at h;refine DI fun hx=>he ?_
   have:=aA.wF (ae:=ae) (f:=f) h0 (by rw [h];exact hx);rw [h] at this;exact this
theorem PX {ev:Ev} (hf:vP ae st) (h0:st.bj=0) (hs:∀ y∈f.data,y<256) (h:aA.take ae st f=(fp,some ev)):(ev.op=9→ev.data.length≤125)∧(∀ y∈ev.data,y<256)∧(ev.op=8→ev.ao=1005∨aG.dS ev.ao=true):=by
 have ho:st.aL=false:=by
  cases ho:st.aL with
  | false=>rfl
  | true =>
    rw [aA.sZ ae (.inr ho)] at h;injection h with h1 h2
    cases h2
 rw [aA.oL ae h0 ho] at h;have h1:=aj.I7 ae hf hs ev (by rw [h];simp);exact ⟨h1.1,h1.2,aj.PC ae (fun hb=>by rcases hf.op hb with e | e<;>omega) f ev (by rw [h])⟩
theorem Uc (hi:i<gs.length) (h:run ae st0 (gs.take i)=(st,es)) (hr:aA.take ae st (gs.getD i dn)=(fp,x)):run ae st0 (gs.take (i+1))=(fp,es++x.toList):=by
 rw [iL.AO gs i hi,aA.gI,h];simp only [aA.Ar,hr]
theorem xN (h:run ae st0 (gs.take i)=(st,es)) (hx:st.bj≠0):run ae st0 gs=(st,es):=by
 have e:gs=gs.take i++gs.drop i:=(Ee i gs).symm;rw [e,aA.gI,h];simp only [aA.jw ae (.inl hx),yC]
section
variable {w0 W W':World} {L sb mb rb rp:Nat} {tv kv qv:Value} {c:Cf} {l:Lg}
variable {sv mv mp:Value}
theorem PY {k:Nat} (h:mz w0 W L sb mb rb rp tv kv qv sv mv mp c l) (hg:jF.bD w0) (hu:oq.bD w0) (fS:aj.jY c l k) (hk:k≤1000) (hc:iI c) (v:Value) (b:List Nat) (hv:bJ W v b) (Hk:aU 256 b) (fe:b.length≤30000) :
 Calls prog 20 #[.pointer (some ⟨L,0,none⟩),v] W fun e w'=>∃ cP kv' cQ El AF AG rv,e=.returned rv∧Sl (ig w' W.heap.size rv (iM c l b).2)∧Sl (mz w0 w' L sb mb rb rp cP kv' cQ El AF AG c (iM c l b).1)∧Sl (eH W w' (xJ L rb rp sb mb tv kv qv sv mv mp) (xJ L rb rp sb mb cP kv' cQ El AF AG))∧Sl (∀ j,rv.ownBlock=some j→¬ xJ L rb rp sb mb cP kv' cQ El AF AG j):=by
 obtain ⟨a,cap,rfl⟩:∃ a cap,v=.slice a b.length cap:=by
  obtain ⟨a,cap,_,_,e,_⟩:=hv;exact ⟨a,cap,e⟩
 obtain ⟨bl,hbz⟩:=zX b.length;rw [hbz] at hv ⊢;have GT:=AV h.A h.M;have H:=Sl.mk h;rcases fS.cases with eQ | ⟨De,Cn,yz⟩
 ·have bN:iM c l b=(l,[]):=aj.qc b eQ
  rw [bN];have HN:Sl (ig W W.heap.size (.slice none 0 0) []):=⟨C5 _ _⟩;obtain ⟨-,-,-,-,-,-,-,-,-,-,L7,-⟩:=h.A.cells;cases ho:l.ms.aL with
  | true =>
    rw [ho] at GT;clear h hg hu fS hk hc hv Hk fe hbz eQ bN ho L7;go_enter func20,ntmps20;go_wp2_with fail
    refine GT.mono ?_;rintro e w1 ⟨rfl,rfl⟩;clear GT;go_wp2;go_ret;exact ⟨_,_,_,_,_,_,_,rfl,HN,H,⟨eH.refl _ _⟩,⟨fun j e=>by cases e⟩⟩
  | false =>
    rw [ho] at GT;have hwr:l.ag≠0:=by
     rcases eQ with e | e
     ·rw [fS.gm,ho] at e;cases e
     ·exact e
    have hq:(((l.ag:Nat):Int) != 0)=true:=by simpa using hwr
    clear h hg hu fS hk hc hv Hk fe hbz eQ bN ho hwr;go_enter func20,ntmps20;go_wp2_with fail
    refine GT.mono ?_;rintro e w1 ⟨rfl,rfl⟩;clear GT;go_wp2;go_ret;exact ⟨_,_,_,_,_,_,_,rfl,HN,H,⟨eH.refl _ _⟩,⟨fun j e=>by cases e⟩⟩
 ·have eJ:l.ms.aL=false:=yz.aL
  rw [eJ] at GT;have Mk:=yz.ci;obtain ⟨gs,e0,lf,dx⟩:∃ gs e lf,all (l.bO++b) c.af (bQ c:Int)=(gs,e,lf):=⟨_,_,_,rfl⟩;have vt:=(aj.jO.kept yz).bO;have hbd:bQ c≤65536:=by unfold aj.bQ;have:=hc.m2;omega
  have hs0:dG w0 W sb c.af (bQ c:Int) l.bO 0 sv:=by have:=h.S;rw [Mk] at this;exact this
  have FD:=jS.wT hs0 hg a bl cap b hv yz.fO Hk (by omega) (by omega) gs e0 lf dx;have bB:aU 256 (l.bO++b):=aU.append (show aU 256 l.bO from yz.fO) Hk;obtain ⟨fk,-,lp⟩:=aV.AA c.af (bQ c:Int) _ (l.bO++b) (aY _) bB;rw [dx] at fk lp;simp only at fk lp;rw [jB] at lp;have nm:Sl (∀ f∈gs,vw f):=⟨fun f hf=>by
   obtain ⟨a1,a2,a3,a4,a5⟩:=fk f hf;have:=aC.eF a1;exact ⟨a2,a3,a4,by unfold maxLen;omega,by rcases this.1 with e | e<;>omega⟩⟩
  have X7:Sl (∀ f∈gs,f.data.length≤65536):=⟨fun f hf=>by have:=(fk f hf).2.2.2.2;omega⟩;obtain ⟨n,hn⟩:=zX gs.length;rw [hn] at lp;have pH:Sl (n≤100000):=⟨by omega⟩;have HN:=Sl.mk hn;have hbu:(dJ c l b).bO=(l.bO++b).drop ((l.bO++b).length-lf):=by
   unfold aj.dJ;rw [dx];simp only;by_cases h0:e0=0
   ·rw [if_pos h0]
   ·rw [if_neg h0]
    have:=aV.Ik c.af (bQ c:Int) _ (l.bO++b) (aY _) bB (by rw [dx];exact h0);rw [dx] at this;have this:lf=0:=this;rw [this,Nat.sub_zero,List.drop_length]
  have ve:(dJ c l b).ci=e0:=by unfold aj.dJ;rw [dx]
  have mS:rY c l b=(run (c.bh:Int) l.ms gs).2:=by unfold aj.rY;rw [dx]
  have AE:(dJ c l b).ms=(run (c.bh:Int) l.ms gs).1:=by unfold aj.dJ;rw [dx]
  have fo:=Sl.mk (VZ (c:=c) (b:=b) De Cn);have Id:=Sl.mk mS;have Mf:=Sl.mk AE;have HSE:=Sl.mk ve;have HBU:=Sl.mk hbu;have HFW:Sl (kN c (dJ c l b) k):=⟨aj.sD fS.rq (aj.zJ fS.rq.ok ⟨rfl,rfl,rfl,rfl,rfl,rfl,rfl,rfl,rfl⟩) ⟨rfl,rfl,rfl,rfl⟩⟩;have aeV:=Sl.mk yz.yo;have HE0:=Sl.mk (And.intro yz.bj eJ);have HP:Sl (jF.bD w0∧oq.bD w0∧k≤1000∧iI c):=⟨hg,hu,hk,hc⟩;have ZE:Sl (vP (c.bh:Int) (run (c.bh:Int) l.ms gs).1):=⟨aA.wE (by omega) gs yz.yo (fun f hf=>(fk f hf).2.2.2.1)⟩;obtain ⟨-,-,-,-,-,-,-,-,-,-,L7,-⟩:=h.A.cells;have yd:(((l.ag:Nat):Int) != 0)=false:=by rw [Cn];rfl
  have Rg:Sl (∀ j,(xJ L rb rp sb mb tv kv qv sv mv mp) j→j<W.heap.size):=⟨fun j e=>(h.lu e).2⟩;obtain ⟨-,-,c2,-⟩:=h.A.cells;clear h hg hu fS hk hc hv Hk fe hbz De Cn yz eJ Mk dx vt hbd hs0 bB fk lp hn hbu ve mS AE;go_enter func20,ntmps20;go_wp2_with fail
  refine GT.mono ?_;rintro e w1 ⟨rfl,rfl⟩;clear GT;go_wp2_with fail
  refine FD.mono ?_;rintro e w2 ⟨vf,sR,rfl,dk,gN,YY,xb⟩;clear FD L7 yd c2;obtain ⟨gsa,X9,hvf⟩:∃ a c,vf=.slice a n c:=by obtain ⟨a,c,e⟩:=dk.ah.slice;rw [HN.ah] at e;exact ⟨a,c,e⟩
  subst hvf;obtain ⟨IR,fh⟩:=H.ah.fed (m:={dJ c l b with ms:=l.ms}) (by
   show dG w0 w2 sb c.af (bQ c:Int) (dJ c l b).bO (dJ c l b).ci sR
   rw [HBU.ah,HSE.ah];exact gN.ah) YY.ah xb.ah rfl rfl rfl rfl rfl rfl rfl rfl
  have gh:=fh.kept.size;have HF0:Sl (FL w0 w2 w2 L sb mb rb rp tv kv qv sR mv mp (xJ L rb rp sb mb tv kv qv sR mv mp) W.heap.size c {dJ c l b with ms:=l.ms} (.slice gsa n X9) gs (.slice none 0 0) []):=⟨⟨IR,eH.refl _ _,dk.ah,fun j e e2=>by
   have hj:=(iL.CY dk.ah e);rcases e2 with e2 | (e2 | e2) | e2
   ·have:=Rg.ah j (.inl e2);omega
   ·have:=Rg.ah j (.inr (.inl (.inl e2)));omega
   ·obtain ⟨-,cs,cU⟩:=hj
    exact jG.lT gN.ah.O cU (by decide) e2
   ·have:=Rg.ah j (.inr (.inr e2));omega,C5 _ _,fun j e=>by cases e⟩⟩
  have vm:=Sl.mk fh;have bS:=Sl.mk (And.intro gh H.ah.low.size);clear dk gN YY xb IR fh gh H HBU;go_wp2;go_loopw [6,7,33] (fun u6 u7 u33 wr=>∃ (i:Nat) (t1 k1 q1 m1 p1:Value) (ta:Option Addr) (tn tc:Nat) (st:Ms) (es:List Ev),u6=.int .i64 (e0:Int)∧u7=.slice ta tn tc∧u33=.int .i64 (i:Int)∧i≤n∧es.length≤i∧Sl (run (c.bh:Int) l.ms (gs.take i)=(st,es))∧Sl (st.bj=0∧vP (c.bh:Int) st)∧Sl (kN c (es.foldl (bV c) (dJ c l b)) k) ∧
   Sl (FL w0 w2 wr L sb mb rb rp t1 k1 q1 sR m1 p1 (xJ L rb rp sb mb tv kv qv sR mv mp) W.heap.size c {es.foldl (bV c) (dJ c l b) with ms:=st} (.slice gsa n X9) gs (.slice ta tn tc) (es.filter (fun x=>decide (x.op≠9))))) (fun _ _ u33 _=>n-(intOf u33).toNat)
  case atStart=>exact ⟨0,_,_,_,_,_,_,_,_,l.ms,[],rfl,rfl,rfl,ku _,aY _,⟨rfl⟩,⟨HE0.ah.1,aeV.ah⟩,HFW,HF0⟩
  case round =>
   obtain ⟨i,t1,k1,q1,m1,p1,ta,tn,tc,st,es,rfl,rfl,rfl,hi,LT,od,ph,vy,gF⟩:=hrel;clear HF0;have Ml:=Sl.mk LT;clear LT;by_cases eV:i<n
   ·have bz:((i:Int)<(n:Int))=True:=eq_true (by omega)
    have sB:=Sl.mk eV;obtain ⟨sbk,so,rfl⟩:=gF.ah.jr.jr.cap.2 (by omega);obtain ⟨aN,op,m,ka,kb,kc,kd,s,hf,eh,ez,Co⟩:=iL.MR nm.ah i (by rw [HN.ah];exact eV);obtain ⟨a0,a1,a2,a3,a4,a5,a6,a7⟩:=gF.ah.jr.jr.XZ i (by rw [HN.ah];exact eV) eh;have vA:Sl (s.size≤100000):=⟨by
     have h:=X7.ah _ Co;rw [hf] at h;have h2:(bytes s).length≤65536:=h;rw [au] at h2;omega⟩
    have HF:=Sl.mk hf;have im:=Sl.mk ez;clear eh Co hf ez hi eV;obtain ⟨w6,iB,gb,LL⟩:=iL.tX wr (zV aN op m ka kb kc kd s);have vx:(prog.info? 61).map (·.size)=some ((zV aN op m ka kb kc kd s):Array Value).size:=gK.pU _ _ _ _ _ _ _ _;go_upto_region 8 with (refine fG rfl 61 (.tmp 9) (.tmp 36) rfl wr.heap.size (zV aN op m ka kb kc kd s) rfl rfl 61 zZ (gK.dQ wr _) vx rfl (gK.aZ _ _ _ _ _ _ _ _) ?_)
    (try rw [iB]);clear iB vx a0 a1 a2 a3 a4 a5 a6 a7;have jt:=Sl.mk (gF.ah.below gb.ah);have HMB:Sl (∀ j,gQ mb m1 p1 j→j<wr.heap.size∧j≠L):=⟨fun j e=>⟨(gF.ah.iX.M.m.lu e).2,fun e2=>(gF.ah.iX.ap L (.inl rfl)).2.2 (e2 ▸ e)⟩⟩;have aeX:Sl (w2.heap.size≤wr.heap.size):=⟨gF.ah.ou.kept.size⟩;clear gF gb;obtain ⟨fp,x,hr⟩:∃ fp x,aA.take (c.bh:Int) st (⟨aN,op,m,[ka,kb,kc,kd],bytes s⟩:Fr)=(fp,x):=⟨_,_,rfl⟩;have HR:=Sl.mk hr;obtain ⟨oo,cc,tt,hxo⟩:=jG.VA x;obtain ⟨dd,mH⟩:=zX x.isSome;obtain ⟨kk,hkk⟩:=zX (fp.bj:Int);have TK:Sl (∀ V,Below w6.heap.size w6 V→Calls prog 52 #[.pointer (some ⟨mb,0,none⟩),(.agg (zV aN op m ka kb kc kd s))] V fun e w'=>∃ v' p',e=.returned (.tuple #[.agg #[.int .i64 oo,.int .i64 cc,.string tt],.bool dd,.int .i64 kk])∧Sl (FL w0 w2 w' L sb mb rb rp t1 k1 q1 sR v' p' (xJ L rb rp sb mb tv kv qv sR mv mp) W.heap.size c {es.foldl (bV c) (dJ c l b) with ms:=fp} (.slice (some ⟨sbk,so,none⟩) n X9) gs (.slice ta tn tc) (es.filter (fun x=>decide (x.op≠9))))∧Sl (iC V w' mb m1 p1 v' p')):=⟨fun V hV =>
     (jG.tZ (jt.ah.below hV).iX.M HP.ah.2.1 aN op m ka kb kc kd s im.ah vA.ah _ rfl fp x hr oo cc tt hxo dd mH kk hkk).mono fun _ _ ⟨v',p',h1,h2,h3⟩=>⟨v',p',h1,⟨(jt.ah.below hV).Ua h2.ah h3.ah⟩,h3⟩⟩
    have HXO:=Sl.mk hxo;have ZF:=Sl.mk mH;have HKK:=Sl.mk hkk;clear hr hxo mH hkk;obtain ⟨-,-,-,c3,-⟩:=jt.ah.iX.A.cells;have Rm:=jt.ah.iX.A.lt;have Ya:wr.heap.size<w6.heap.size:=(zl LL.ah);obtain ⟨q9,xV⟩:=zX wr.heap.size;rw [xV] at LL Ya ⊢;go_frame;go_cut [10,11,12] (fun Rp s11 s12 wx=>∃ (x0:Nat) (m2 p2:Value),Rp=.pointer (some ⟨x0,0,none⟩)∧s11=.bool dd∧s12=.int .i64 kk∧Sl (wx.heap[x0]? = some (.cells #[.int .i64 oo,.int .i64 cc,.string tt] 52 (0,0))) ∧
     Sl (FL w0 w2 wx L sb mb rb rp t1 k1 q1 sR m2 p2 (xJ L rb rp sb mb tv kv qv sR mv mp) W.heap.size c {es.foldl (bV c) (dJ c l b) with ms:=fp} (.slice (some ⟨sbk,so,none⟩) n X9) gs (.slice ta tn tc) (es.filter (fun x=>decide (x.op≠9))))∧Sl (¬ (xJ L rb rp sb mb t1 k1 q1 sR m2 p2) x0))
    case first =>
     refine zG (S:=fun V=>V.cell? ⟨L,3,none⟩=some (.pointer (some ⟨mb,0,none⟩))∧V.heap[q9]? = some (.cells (zV aN op m ka kb kc kd s) 61 (0,0))) (by kernel_rfl) (fun Rw aM=>?_);have al:Rw.cell? ⟨L,3,none⟩=some (.pointer (some ⟨mb,0,none⟩))∧Rw.heap[q9]? = some (.cells (zV aN op m ka kb kc kd s) 61 (0,0)):=⟨(aM.cell (p:=⟨L,3,none⟩) Rm).trans c3,ay LL.ah aM⟩;refine zT 0 (some 38) (.move (.tmp 0)) _ al ?_;simp only [zA,zB,zS];refine zT 1 (some 39) (.nilCheck (.tmp 38)) _ al ?_;simp only [zA,zB,zS];refine zT 2 (some 40) (.fieldAddr 80 (.tmp 39) 3) _ al ?_;simp only [zA,zB,zS];refine zT 3 (some 41) (.load 78 (.tmp 40)) _ al ?_ (hy:=fun o' ho W hS=>by have d3:=hS.1;simp only [execOp,ho];go_simp;try rfl);simp only [zA,zB,zS];refine zT 4 (some 42) (.load 61 (.tmp 9)) ((.agg (zV aN op m ka kb kc kd s))) al ?_ (hy:=fun o' ho W hS=>gK.Au ho (by rfl) hS.2);simp only [zA,zB,zS];obtain ⟨A1,Mm,p9,Er⟩:=zY Rw #[.int .i64 0,.int .i64 0,.string {data:=#[]}] 52;have ga:A1.cell? ⟨L,3,none⟩=some (.pointer (some ⟨mb,0,none⟩))∧A1.heap[q9]? = some (.cells (zV aN op m ka kb kc kd s) 61 (0,0)):=⟨(p9.cell (p:=⟨L,3,none⟩) (NQ Rm aM.size)).trans al.1,ay al.2 p9⟩;have Rr:∀ V w' v' p',Below w6.heap.size w6 V→iC V w' mb m1 p1 v' p'→(∀ y o,w6.heap.size≤y∨y=q9∨y=L→V.heap[y]? = some o→w'.heap[y]? = some o):=fun V w' v' p' hV g y o hy he=>by
      rw [g.kept.block y (zl he) (fun e=>by
       have:=HMB.ah y e;omega)]
      exact he
     refine gK.qG (di:=some 10) (dj:=some 43) (pT:=.alloc 52) (p8:=.call {callee:=Callee.value (Operand.func 52),args:=#[Operand.tmp 41,Operand.tmp 42],argTypes:=#[78,61]}) (ti:=0) (tj:=99) 10 5 (.pointer (some ⟨Rw.heap.size,0,none⟩)) A1 52 #[.pointer (some ⟨mb,0,none⟩),(.agg (zV aN op m ka kb kc kd s))] rfl rfl (by kernel_rfl) ?p3 ?q3 ga ?l3 ?r3;case p3=>intro o' ho ht;simp only [execOp,ho];go_simp;first | done | (rw [Mm];done) | rfl
     case q3=>intro o' ho ht;simp only [execOp,ho];go_simp;try rfl
     case l3 =>
      simp only [zA,zB,zS];refine zC 5 (some 43) (.call {callee:=.value (.func 52),args:=#[.tmp 41,.tmp 42],argTypes:=#[78,61]}) 52 #[.pointer (some ⟨mb,0,none⟩),(.agg (zV aN op m ka kb kc kd s))] ?_;refine (TK.ah A1 (aM.trans (p9.mono aM.size))).mono ?_;rintro e w7 ⟨v7,p7,rfl,Rs,gH⟩;have kh:=Rr A1 w7 v7 p7 (aM.trans (p9.mono aM.size)) gH.ah Rw.heap.size _ (.inl aM.size) Er;have nB:=Rr A1 w7 v7 p7 (aM.trans (p9.mono aM.size)) gH.ah q9 _ (.inr (.inl rfl)) ga.2;have mB:w7.cell? ⟨L,3,none⟩=some (.pointer (some ⟨mb,0,none⟩))∧w7.heap[q9]? = some (.cells (zV aN op m ka kb kc kd s) 61 (0,0)):=⟨Rs.ah.iX.A.cells.2.2.2.1,nB⟩;refine ⟨_,rfl,mB,?_⟩;simp only [zA,zB,zS];have HN0:¬ (xJ L rb rp sb mb t1 k1 q1 sR v7 p7) Rw.heap.size:=fun e=>by
       have hA6:∀ j,(xJ L rb rp sb mb t1 k1 q1 sR m1 p1) j→j<w6.heap.size:=fun j e=>(jt.ah.iX.lu e).2
       have akx:=aM.size;rcases e with e | e | e
       ·have:=hA6 _ (.inl e);omega
       ·have:=hA6 _ (.inr (.inl e));omega
       ·rcases gH.ah.dy _ e with e2 | e2
        ·have:=hA6 _ (.inr (.inr e2));omega
        ·have:A1.heap.size=Rw.heap.size+1:=by rw [← Mm,aP]
         omega
      refine zT 6 (some 37) (.move (.tmp 43)) _ mB ?_;simp only [zA,zB,zS];refine zT 7 (some 44) (.extract (.tmp 37) 0) _ mB ?_;simp only [zA,zB,zS];refine zT 8 (some 45) (.extract (.tmp 37) 1) _ mB ?_;simp only [zA,zB,zS];refine zT 9 (some 46) (.extract (.tmp 37) 2) _ mB ?_;simp only [zA,zB,zS];obtain ⟨Z,hZ⟩:=zX (w7.setRow Rw.heap.size #[.int .i64 oo,.int .i64 cc,.string tt]);have lh:w7.grownBy Z (some Rw.heap.size):=by rw [← hZ];exact bZ _ _ _
      have eM:Z.heap[Rw.heap.size]? = some (.cells #[.int .i64 oo,.int .i64 cc,.string tt] 52 (0,0)):=by rw [← hZ];exact gY _ _ _ _ _ _ kh
      have oe:=(Rs.ah.acv lh HN0 (fun e=>by have:=KX jt.ah.xj e;have:=aM.size;omega) (fun e=>by have:=GR jt.ah.jr e;have:=aM.size;omega) (by have:=aeX.ah;have:=aM.size;omega) (jd bS.ah.2 bS.ah.1));have vB:Z.cell? ⟨L,3,none⟩=some (.pointer (some ⟨mb,0,none⟩))∧Z.heap[q9]? = some (.cells (zV aN op m ka kb kc kd s) 61 (0,0)):=⟨oe.iX.A.cells.2.2.2.1,by
       rw [lh.block q9 (zl mB.2) (fun e=>by injection e with e;have:=aM.size;omega)];exact mB.2⟩
      refine zW 11 none (.store 52 (.tmp 10) (.tmp 44)) 0 Z vB ?_ (hy:=fun o' ho ht=>by rw [← hZ];exact jG.rQ ho rfl rfl kh rfl (jG.lU rfl) (jG.o8 _ _ _));simp only [Act.put];refine zT 12 (some 11) (.assign (.tmp 45)) _ vB ?_;simp only [zA,zB,zS];refine zT 13 (some 12) (.assign (.tmp 46)) _ vB ?_;simp only [zA,zB,zS];refine zE (by kernel_rfl) ?_;(try go_wp2_with fail);go_meet;exact ⟨_,v7,p7,rfl,rfl,rfl,⟨eM⟩,⟨oe⟩,⟨HN0⟩⟩
     case r3 =>
      refine (TK.ah Rw aM).mono ?_;rintro e w7 ⟨v7,p7,rfl,Rs,gH⟩;have nB:=Rr Rw w7 v7 p7 aM gH.ah q9 _ (.inr (.inl rfl)) al.2;have mB:w7.cell? ⟨L,3,none⟩=some (.pointer (some ⟨mb,0,none⟩))∧w7.heap[q9]? = some (.cells (zV aN op m ka kb kc kd s) 61 (0,0)):=⟨Rs.ah.iX.A.cells.2.2.2.1,nB⟩;obtain ⟨Yb,Rv,m7,ua⟩:=zY w7 #[.int .i64 0,.int .i64 0,.string {data:=#[]}] 52;have vD:Yb.cell? ⟨L,3,none⟩=some (.pointer (some ⟨mb,0,none⟩))∧Yb.heap[q9]? = some (.cells (zV aN op m ka kb kc kd s) 61 (0,0)):=⟨(Rs.ah.below m7).iX.A.cells.2.2.2.1,ay mB.2 m7⟩;have aky:q9<w7.heap.size:=(zl mB.2);refine ⟨_,rfl,mB,?_⟩;simp only [zA,zB,zS];refine zT 6 (some 37) (.move (.tmp 43)) _ mB ?_;simp only [zA,zB,zS];refine zT 7 (some 44) (.extract (.tmp 37) 0) _ mB ?_;simp only [zA,zB,zS];refine zT 8 (some 45) (.extract (.tmp 37) 1) _ mB ?_;simp only [zA,zB,zS];refine zT 9 (some 46) (.extract (.tmp 37) 2) _ mB ?_;simp only [zA,zB,zS];refine zR 10 (some 10) (.alloc 52) 0 (.pointer (some ⟨w7.heap.size,0,none⟩)) Yb vD ?_ (hy:=fun o' ho _=>by simp only [execOp,ho];go_simp;first | done | (rw [Rv];done) | rfl);simp only [zA,zB,zS];have HN0:¬ (xJ L rb rp sb mb t1 k1 q1 sR v7 p7) w7.heap.size:=fun e=>JK _ (Rs.ah.iX.lu e).2
      obtain ⟨Z,hZ⟩:=zX (Yb.setRow w7.heap.size #[.int .i64 oo,.int .i64 cc,.string tt]);have lh:Yb.grownBy Z (some w7.heap.size):=by rw [← hZ];exact bZ _ _ _
      have eM:Z.heap[w7.heap.size]? = some (.cells #[.int .i64 oo,.int .i64 cc,.string tt] 52 (0,0)):=by rw [← hZ];exact gY _ _ _ _ _ _ ua
      have oe:=(Rs.ah.below (m7.trans (show Below w7.heap.size Yb Z from by rw [← hZ];exact below_setRow (dW _ _) (aY _) _)));have vB:Z.cell? ⟨L,3,none⟩=some (.pointer (some ⟨mb,0,none⟩))∧Z.heap[q9]? = some (.cells (zV aN op m ka kb kc kd s) 61 (0,0)):=⟨oe.iX.A.cells.2.2.2.1,by
       rw [lh.block q9 (zl vD.2) (fun e=>by injection e with e;have:=aM.size;omega)];exact vD.2⟩
      refine zW 11 none (.store 52 (.tmp 10) (.tmp 44)) 0 Z vB ?_ (hy:=fun o' ho ht=>by rw [← hZ];exact jG.rQ ho rfl rfl ua rfl (jG.lU rfl) (jG.o8 _ _ _));simp only [Act.put];refine zT 12 (some 11) (.assign (.tmp 45)) _ vB ?_;simp only [zA,zB,zS];refine zT 13 (some 12) (.assign (.tmp 46)) _ vB ?_;simp only [zA,zB,zS];refine zE (by kernel_rfl) ?_;(try go_wp2_with fail);go_meet;exact ⟨_,v7,p7,rfl,rfl,rfl,⟨eM⟩,⟨oe⟩,⟨HN0⟩⟩
    case rest =>
     obtain ⟨x0,m2,p2,rfl,rfl,rfl,eM,oe,PF⟩:=hcut;clear TK jt HMB LL Rm Ya xV c3;obtain ⟨y0,y1,y2⟩:=jG.iq eM.ah;have ew:Sl (aA.take (c.bh:Int) st (gs.getD i dn)=(fp,x)):=⟨by rw [HF.ah];exact HR.ah⟩;have pL:Sl (run (c.bh:Int) l.ms (gs.take (i+1))=(fp,es++x.toList)):=⟨Uc (by rw [HN.ah];exact sB.ah) od.ah ew.ah⟩;have xl:Sl (vP (c.bh:Int) fp):=⟨by
      have:=aA.nV (by omega:(0:Int)≤(c.bh:Int)) (f:=gs.getD i dn) ph.ah.2 (by rw [HF.ah];exact aJ s);rw [ew.ah] at this;exact this⟩
     obtain rfl:=HKK.ah;clear HKK;by_cases he:fp.bj=0
     ·have hq:(((fp.bj:Nat):Int) != 0)=false:=by rw [he];rfl
      have RB:=Sl.mk (And.intro he xl.ah);have ZG:=Ml.ah;cases x with
      | none =>
        obtain rfl:false=dd:=ZF.ah;have ub:Sl (run (c.bh:Int) l.ms (gs.take (i+1))=(fp,es)):=⟨by rw [pL.ah];simp⟩;have ae3:=sB.ah;have ae4:=pH.ah;clear he HR ew pL xl HXO ZF eM y0 y1 y2 od ph;go_wp2;exact ⟨⟨i+1,_,_,_,_,_,_,_,_,fp,es,rfl,rfl,by go_num,by omega,by omega,ub,RB,vy,oe⟩,by simp [intOf];omega⟩
      | some ev =>
        obtain rfl:true=dd:=ZF.ah;obtain ⟨g1,g2,g3⟩:=PX ph.ah.2 ph.ah.1 (by rw [HF.ah];exact aJ s) ew.ah;obtain (⟨eo,ec,ed⟩:Ev):=ev;have uu:(#[.int .i64 eo,.int .i64 ec,.string (aF ed)]:Array Value)=#[.int .i64 oo,.int .i64 cc,.string tt]:=by
         have:=HXO.ah;injection this
        have hoo:eo=oo∧ec=cc∧aF ed=tt:=by simpa using uu
        obtain ⟨rfl,rfl,rfl⟩:=hoo;have hbt:bytes (aF ed)=ed:=dm ed g2;have RC:=PO (oe.ah.iX.A.xH (m:=es.foldl (bV c) (dJ c l b)) rfl rfl rfl rfl rfl rfl rfl) HP.ah.1 vy.ah HP.ah.2.2.1 HP.ah.2.2.2 HP.ah.2.1 eo ec (aF ed) (fun e=>by rw [cZ];exact g1 e) g3;rw [hbt] at RC;have Mn:Sl (kN c ((es++[(⟨eo,ec,ed⟩:Ev)]).foldl (bV c) (dJ c l b)) k):=⟨by
         rw [List.foldl_append];exact aj.ET HP.ah.2.2.2.f2 vy.ah (⟨eo,ec,ed⟩:Ev) g1 g2⟩
        have ub:Sl (run (c.bh:Int) l.ms (gs.take (i+1))=(fp,es++[(⟨eo,ec,ed⟩:Ev)])):=⟨by rw [pL.ah];rfl⟩;have ae3:=sB.ah;have ae4:=pH.ah;have dE:=Sl.mk g2;have hbx:x0<wc.heap.size:=(zl eM.ah);clear he HR ew pL xl HXO ZF od ph g1 g2 g3 uu hbt;go_wp2_with fail
        refine RC.mono ?_;rintro e w8 ⟨t8,k8,q8,rfl,HA8,it⟩;clear RC;have hrk:=aj.vI c (es.foldl (bV c) (dJ c l b)) (⟨eo,ec,ed⟩:Ev);have pl:=Sl.mk (oe.ah.ah (m:={bV c (es.foldl (bV c) (dJ c l b)) (⟨eo,ec,ed⟩:Ev) with ms:=fp}) (HA8.ah.xH rfl rfl rfl rfl rfl rfl rfl) it.ah hrk.2.1 hrk.2.2.1 rfl);by_cases h9:eo=9
        ·have Mo:decide (eo≠9)=false:=by rw [h9];rfl
         have ZH:Sl ((es++[(⟨eo,ec,ed⟩:Ev)]).filter (fun x=>decide (x.op≠9))=es.filter (fun x=>decide (x.op≠9))):=⟨by rw [List.filter_append];simp [h9]⟩;have HF9:Sl (FL w0 w2 w8 L sb mb rb rp t8 k8 q8 sR m2 p2 (xJ L rb rp sb mb tv kv qv sR mv mp) W.heap.size c {(es++[(⟨eo,ec,ed⟩:Ev)]).foldl (bV c) (dJ c l b) with ms:=fp} (.slice (some ⟨sbk,so,none⟩) n X9) gs (.slice ta tn tc) ((es++[(⟨eo,ec,ed⟩:Ev)]).filter (fun x=>decide (x.op≠9)))):=⟨by
          rw [ZH.ah,List.foldl_append];exact pl.ah⟩
         rw [Mo];clear hrk pl ZH HA8 it oe eM y0 y1 y2 Mo dE;go_wp2;exact ⟨⟨i+1,_,_,_,_,_,_,_,_,fp,_,rfl,rfl,by go_num,by omega,by rw [jB,Fv];omega,ub,RB,Mn,HF9⟩,by simp [intOf];omega⟩
        ·have Mo:decide (eo≠9)=true:=iG h9
         rw [Mo];have ZI:Sl (w8.heap[x0]? = some (.cells #[.int .i64 eo,.int .i64 ec,.string (aF ed)] 52 (0,0))):=⟨by
          rw [it.ah.kept.block x0 hbx (fun e=>PF.ah (.inl e))];exact eM.ah⟩
         obtain ⟨y0,y1,y2⟩:=jG.iq ZI.ah;obtain ⟨X,hX,Ga,ZB⟩:=zY w8 #[.int .i64 eo,.int .i64 ec,.string (aF ed)] 52;have hfl:(es.filter (fun x=>decide (x.op≠9))).length≤es.length:=List.length_filter_le _ _;have hNL:=pH.ah;obtain ⟨v1,DB,fX,hF9⟩:=(pl.ah.below Ga).add (AZ (e:=(⟨eo,ec,ed⟩:Ev)) ZB rfl) (by omega) (jd pl.ah.ou.kept.size Ga.size) (jd bS.ah.2 bS.ah.1);obtain ⟨av,nv,cw,rfl⟩:∃ a n c,v1=.slice a n c:=by obtain ⟨a,c,h⟩:=hF9.xj.slice;exact ⟨a,_,c,h⟩
         have ZH:Sl ((es++[(⟨eo,ec,ed⟩:Ev)]).filter (fun x=>decide (x.op≠9))=es.filter (fun x=>decide (x.op≠9))++[(⟨eo,ec,ed⟩:Ev)]):=⟨by rw [List.filter_append];simp [h9]⟩;have HF9:Sl (FL w0 w2 DB L sb mb rb rp t8 k8 q8 sR m2 p2 (xJ L rb rp sb mb tv kv qv sR mv mp) W.heap.size c {(es++[(⟨eo,ec,ed⟩:Ev)]).foldl (bV c) (dJ c l b) with ms:=fp} (.slice (some ⟨sbk,so,none⟩) n X9) gs (.slice av nv cw) ((es++[(⟨eo,ec,ed⟩:Ev)]).filter (fun x=>decide (x.op≠9)))):=⟨by
          rw [ZH.ah,List.foldl_append];exact hF9⟩
         clear hrk pl ZH HA8 it oe eM Mo dE hF9 Ga ZB hfl hNL ZI;go_wp2_with (at_builtin;refine iL.fK rfl (.tmp 56) (.tmp 58) 47 47 rfl rfl _ _ (.slice av nv cw) DB rfl rfl (by first | exact fX | (rw [hX];exact fX)) ?_)
         exact ⟨⟨i+1,_,_,_,_,_,_,_,_,fp,_,rfl,rfl,by go_num,by omega,by rw [jB,Fv];omega,ub,RB,Mn,HF9⟩,by simp [intOf];omega⟩
     ·have hq:(((fp.bj:Nat):Int) != 0)=true:=by simpa using he
      obtain rfl:=Ub ph.ah.1 ew.ah he;have IS:=Sl.mk he;have ZJ:Sl (run (c.bh:Int) l.ms gs=(fp,es)):=⟨xN (by rw [pL.ah];simp) he⟩;clear od ph;have od:=ZJ;have gF:=oe;clear ZJ oe HR ew pL xl HXO ZF eM y0 y1 y2 he Ml HF sB;go_upto_region 14 with fail
      have RK:Sl (rY c l b=es):=⟨by rw [Id.ah,od.ah]⟩;have sX:Sl ((dJ c l b).ms=fp):=⟨by rw [Mf.ah,od.ah]⟩;have rz:=fo.ah;rw [RK.ah] at rz;have df:Sl ({es.foldl (bV c) (dJ c l b) with ms:=fp}=es.foldl (bV c) (dJ c l b)):=⟨by
       have:=(aj.nR c es (dJ c l b)).2.2.2.1;rw [sX.ah] at this;obtain ⟨x,hx⟩:=zX (es.foldl (bV c) (dJ c l b));rw [hx] at this ⊢;rw [← this]⟩
      rw [df.ah] at gF;have eW:(((fp.bj:Nat):Int) != 0)=true:=by simpa using IS.ah
      have AH:=AV gF.ah.iX.A gF.ah.iX.M;rw [(aj.nR c es (dJ c l b)).2.2.2.1,sX.ah] at AH;have eJ:fp.aL=false:=by
       cases eJ:fp.aL with
       | false=>rfl
       | true =>
         have:=ZE.ah.aL;rw [od.ah] at this;have h2:fp.bj=0:=by rw [show fp=aA.done from this eJ];rfl
         exact absurd h2 IS.ah
      rw [eJ] at AH;have Cp:jX c l b=fp.bj:=by
       unfold aj.jX;rw [sX.ah,if_pos IS.ah]
      rw [Cp,if_pos IS.ah] at rz
      replace rz:=Sl.mk rz
      clear Cp eJ;go_wp2_with fail
      refine AH.mono ?_;rintro e w8 ⟨rfl,rfl⟩;clear AH;have FT:=EV gF.ah.iX.A HP.ah.1 vy.ah HP.ah.2.2.1 HP.ah.2.2.2 HP.ah.2.1 fp.bj;go_wp2_with fail
      refine FT.mono ?_;rintro e w9 ⟨t9,k9,q9,rfl,ZK,vE⟩;clear FT;have xm:=aj.jm c {es.foldl (bV c) (dJ c l b) with ag:=fp.bj} (aG.dI ((fp.bj:Nat):Int)) [];have oe:=Sl.mk (gF.ah.ah ZK.ah vE.ah xm.bO xm.ci xm.ms);clear ZK vE xm gF;go_wp2;go_ret;rw [rz.ah];exact ⟨_,_,_,_,_,_,_,rfl,⟨xM oe.ah.xj bS.ah.1⟩,⟨oe.ah.iX⟩,⟨vm.ah.trans oe.ah.ou⟩,⟨fun j e=>(oe.ah.tn j e).1⟩⟩
   ·obtain rfl:i=n:=by omega
    have bz:((i:Int)<(i:Int))=False:=dR (by omega);have At:Sl (gs.take i=gs):=⟨nC (by rw [HN.ah];exact aY _)⟩;rw [At.ah] at od;clear At hi eV;go_upto_region 14 with fail
    have RK:Sl (rY c l b=es):=⟨by rw [Id.ah,od.ah]⟩;have sX:Sl ((dJ c l b).ms=st):=⟨by rw [Mf.ah,od.ah]⟩;have rz:=fo.ah;rw [RK.ah] at rz;have df:Sl ({es.foldl (bV c) (dJ c l b) with ms:=st}=es.foldl (bV c) (dJ c l b)):=⟨by
     have:=(aj.nR c es (dJ c l b)).2.2.2.1;rw [sX.ah] at this;obtain ⟨x,hx⟩:=zX (es.foldl (bV c) (dJ c l b));rw [hx] at this ⊢;rw [← this]⟩
    rw [df.ah] at gF;have RM:Sl (jX c l b=if st.aL=true then 0 else e0):=⟨by
     rw [VY (by rw [sX.ah];exact ph.ah.1),sX.ah,HSE.ah]⟩
    by_cases ur:e0=0
    ·have eW:(((e0:Nat):Int) != 0)=false:=by rw [ur];rfl
     have Cp:jX c l b=0:=by rw [RM.ah,ur];split<;>rfl
     rw [Cp,if_neg (fun e=>e rfl)] at rz
     replace rz:=Sl.mk rz
     clear Cp ur;go_wp2;go_ret;rw [rz.ah];exact ⟨_,_,_,_,_,_,_,rfl,⟨xM gF.ah.xj bS.ah.1⟩,⟨gF.ah.iX⟩,⟨vm.ah.trans gF.ah.ou⟩,⟨fun j e=>(gF.ah.tn j e).1⟩⟩
    ·have eW:(((e0:Nat):Int) != 0)=true:=by simpa using ur
     have AH:=AV gF.ah.iX.A gF.ah.iX.M;rw [(aj.nR c es (dJ c l b)).2.2.2.1,sX.ah] at AH;cases eJ:st.aL with
     | true =>
       rw [eJ] at AH;have Cp:jX c l b=0:=by rw [RM.ah,if_pos eJ]
       rw [Cp,if_neg (fun e=>e rfl)] at rz
       replace rz:=Sl.mk rz
       clear Cp ur eJ;go_wp2_with fail
       refine AH.mono ?_;rintro e w8 ⟨rfl,rfl⟩;clear AH;go_wp2;go_ret;rw [rz.ah];exact ⟨_,_,_,_,_,_,_,rfl,⟨xM gF.ah.xj bS.ah.1⟩,⟨gF.ah.iX⟩,⟨vm.ah.trans gF.ah.ou⟩,⟨fun j e=>(gF.ah.tn j e).1⟩⟩
     | false =>
       rw [eJ] at AH;have Cp:jX c l b=e0:=by rw [RM.ah,if_neg (by rw [eJ];decide)]
       rw [Cp,if_pos ur] at rz
       replace rz:=Sl.mk rz
       clear Cp ur eJ;go_wp2_with fail
       refine AH.mono ?_;rintro e w8 ⟨rfl,rfl⟩;clear AH;have FT:=EV gF.ah.iX.A HP.ah.1 vy.ah HP.ah.2.2.1 HP.ah.2.2.2 HP.ah.2.1 e0;go_wp2_with fail
       refine FT.mono ?_;rintro e w9 ⟨t9,k9,q9,rfl,ZK,vE⟩;clear FT;have xm:=aj.jm c {es.foldl (bV c) (dJ c l b) with ag:=e0} (aG.dI ((e0:Nat):Int)) [];have oe:=Sl.mk (gF.ah.ah ZK.ah vE.ah xm.bO xm.ci xm.ms);clear ZK vE xm gF;go_wp2;go_ret;rw [rz.ah];exact ⟨_,_,_,_,_,_,_,rfl,⟨xM oe.ah.xj bS.ah.1⟩,⟨oe.ah.iX⟩,⟨vm.ah.trans oe.ah.ou⟩,⟨fun j e=>(oe.ah.tn j e).1⟩⟩
end
end
end Go.Proofs.YtlahonjmfecikaaGreatDoor.jo
namespace Go.Proofs.YtlahonjmfecikaaGreatDoor.iL
open Go.RowKit aO jF gK jS cO
open aC (Fr dn dF nI aQ bn)
theorem Jy (op:Int) (s:ByteArray) (m:Nat) (w:World) (ho:op=1∨op=2) (hs:s.size≤500000) (hm:1≤m∧m≤65536) :
 Calls prog 78 #[.int .i64 op,.string s,.int .i64 (m:Int)] w fun e w'=>∃ a n c,e=.returned (.tuple #[.slice a n c,.bool true])∧n=(jr m op (bytes s)).length∧Sl (gZ w' w.heap.size (.slice a n c) (jr m op (bytes s)))∧Sl (Below w.heap.size w w'):=by
 have a1:((m:Int)<1)=False:=dR (by omega);have a2:((m:Int)>65536)=False:=dR (by omega);have a3:((s.size:Int)>1048576)=False:=dR (by omega);have HS:=Sl.mk hs;have HM:=Sl.mk hm;have mT:Sl ((jr m op (bytes s)).length≤500001):=⟨by
  rw [uT hm.1 _ op (bytes s) (aY _),au];have:=(uU (size:=s.size) hm.1).2.2.2;omega⟩
 obtain ⟨FS,hFS⟩:=zX (jr m op (bytes s));have HO:Sl (gZ (w.alloc (.cells #[] 61)) w.heap.size (.slice (some ⟨w.heap.size,0,none⟩) 0 0) []):=⟨Tn w w.heap.size (aY _)⟩;have oA:Sl (Below w.heap.size w (w.alloc (.cells #[] 61))):=⟨(dW _ _).alloc (aY _) _⟩;have W7:=Sl.mk hFS;rw [hFS] at mT ⊢;have Ze:m≤65536:=hm.2;clear hs hm hFS;rcases ho with rfl | rfl
 ·skip
  go_enter func78,ntmps78;go_wp2;go_loopw [0,1,8] (fun o y u wr=>∃ (gg:Int) (d:ByteArray) (v1:Value) (gs:List Fr),o=.int .i64 gg∧y=.string d∧u=v1∧d.size≤500000∧Sl (gZ wr w.heap.size v1 gs)∧Sl (gs++jr m gg (bytes d)=FS)∧Sl (Below w.heap.size w wr)) (fun _ y _ _=>OS y)
  case atStart=>exact ⟨1,s,_,[],rfl,rfl,rfl,HS.ah,HO,⟨by rw [List.nil_append];exact W7.ah⟩,oA⟩
  case round =>
   obtain ⟨gg,d,v1,gs,rfl,rfl,rfl,hd,me,Bx,HB⟩:=hrel;obtain ⟨a,c,rfl⟩:=me.ah.slice;obtain ⟨n,hn⟩:=zX gs.length;have HN:=Sl.mk hn;rw [hn] at me;have pH:Sl (gs.length+(jr m gg (bytes d)).length≤500001):=⟨by have:=lG List.length Bx.ah;rw [jB] at this;have:=mT.ah;omega⟩;(try rw [hn]);clear hn;by_cases bz:d.size>m
   ·have hq:((d.size:Int)>(m:Int))=True:=eq_true (by omega)
    have cV:m≤d.size:=by omega
    obtain ⟨D,hD⟩:=zX (d.extract 0 m);obtain ⟨E,hE⟩:=zX (d.extract m d.size);have CD:Sl (jr m gg (bytes d)=⟨false,gg,false,bn,bytes D⟩ :: jr m 0 (bytes E)):=⟨by
     have e:(bytes d).take d.size=bytes d:=nC (by rw [au];exact aY _);rw [mY HM.ah.1 (by rw [au];omega),← hD,← hE,bC,bC,Af,e]⟩
    have gC:Sl (E.size=d.size-m∧1≤m):=⟨by rw [← hE,DJ];omega,HM.ah.1⟩;have Bk:∀ V,(Instr.slice 9 (.string d) none (some (.int .i64 (m:Int))) none).run prog V=.ok (.string D) V:=fun V=>by
     rw [← hD];have:=run_slice_string_h (P:=prog) V 9 d underlying9 .i64 (m:Int) (by omega) (by omega);simpa using this
    have abU:∀ V,(Instr.slice 9 (.string d) (some (.int .i64 (m:Int))) none none).run prog V=.ok (.string E) V:=fun V=>by
     rw [← hE];have:=run_slice_string_l (P:=prog) V 9 d underlying9 .i64 (m:Int) (by omega) (by omega);simpa using this
    clear hD hE;obtain ⟨V1,nF⟩:=zX (wr.alloc (.cells #[.bool false,.int .i64 gg,.bool false,.int .u8 0,.int .u8 0,.int .u8 0,.int .u8 0,.string D] 61));have mC:Sl (Below wr.heap.size wr V1):=⟨by rw [← nF];exact (dW _ _).alloc (aY _) _⟩;have sf:Sl (aS V1 (.slice (some ⟨wr.heap.size,0,none⟩) 1 1) [⟨false,gg,false,bn,bytes D⟩]):=⟨by
     rw [← nF];exact mP (aI wr _ _ rfl) (by show _=#[Value.bool false,.int .i64 gg,.bool false,.int .u8 0,.int .u8 0,.int .u8 0,.int .u8 0,.string (aF (bytes D))];rw [bT])⟩
    have eS:Sl (gZ V1 w.heap.size (.slice a n c) gs):=⟨me.ah.below mC.ah⟩;have io:Sl (Below w.heap.size w V1):=⟨HB.ah.trans (mC.ah.mono HB.ah.size)⟩;have gF:Sl (gs.length+[(⟨false,gg,false,bn,bytes D⟩:Fr)].length≤1000000):=⟨by have:=pH.ah;show gs.length+1≤_;omega⟩;have wh:Sl ((gs++[(⟨false,gg,false,bn,bytes D⟩:Fr)])++jr m 0 (bytes E)=FS):=⟨by rw [Ae,← Bx.ah,CD.ah];rfl⟩;go_upto_region 6 with (at_builtin;(try rw [nF]);refine nK rfl (.tmp 33) (.tmp 39) rfl rfl w.heap.size (.slice a n c) (.slice (some ⟨wr.heap.size,0,none⟩) 1 1) gs [⟨false,gg,false,bn,bytes D⟩] rfl eS.ah rfl sf.ah gF.ah io.ah.size ?_)
    intro v2 w7 pg gH;have fj:Sl (Below w.heap.size w w7):=⟨eS.ah.Eu io.ah gH.ah (aY _) io.ah.size⟩;clear gH eS sf mC io nF me HB;go_wp2_with fail
    go_still (by kernel_rfl)
    change Exit.inBlock _ _ Exit.normal _ w7.drew;have sk:Sl (gZ w7.drew w.heap.size v2 (gs++[⟨false,gg,false,bn,bytes D⟩])):=⟨pg.ah.below (dW _ _).drew⟩;have lA:Sl (Below w.heap.size w w7.drew):=⟨fj.ah.drew⟩;obtain ⟨R,hR⟩:=zX w7.drew;rw [hR] at sk lA ⊢;clear hR pg fj;go_wp2;exact ⟨⟨0,E,v2,_,rfl,rfl,rfl,by have:=gC.ah;omega,sk,wh,lA⟩,by have:=gC.ah;simp [OS];omega⟩
   ·have hq:((d.size:Int)>(m:Int))=False:=dR (by omega)
    have tz:Sl (jr m gg (bytes d)=[⟨true,gg,false,bn,bytes d⟩]):=⟨jH (by rw [au];omega)⟩;obtain ⟨V1,nF⟩:=zX (wr.alloc (.cells #[.bool true,.int .i64 gg,.bool false,.int .u8 0,.int .u8 0,.int .u8 0,.int .u8 0,.string d] 61));have mC:Sl (Below wr.heap.size wr V1):=⟨by rw [← nF];exact (dW _ _).alloc (aY _) _⟩;have sf:Sl (aS V1 (.slice (some ⟨wr.heap.size,0,none⟩) 1 1) [⟨true,gg,false,bn,bytes d⟩]):=⟨by
     rw [← nF];exact mP (aI wr _ _ rfl) (by show _=#[Value.bool true,.int .i64 gg,.bool false,.int .u8 0,.int .u8 0,.int .u8 0,.int .u8 0,.string (aF (bytes d))];rw [bT])⟩
    have eS:Sl (gZ V1 w.heap.size (.slice a n c) gs):=⟨me.ah.below mC.ah⟩;have io:Sl (Below w.heap.size w V1):=⟨HB.ah.trans (mC.ah.mono HB.ah.size)⟩;have gF:Sl (gs.length+[(⟨true,gg,false,bn,bytes d⟩:Fr)].length≤1000000):=⟨by have:=pH.ah;rw [tz.ah] at this;show gs.length+1≤_;simp at this;omega⟩;have wh:Sl (gs++[(⟨true,gg,false,bn,bytes d⟩:Fr)]=FS):=⟨by rw [← Bx.ah,tz.ah]⟩;go_wp2_with (at_builtin;(try rw [nF]);refine nK rfl (.tmp 44) (.tmp 48) rfl rfl w.heap.size (.slice a n c) (.slice (some ⟨wr.heap.size,0,none⟩) 1 1) gs [⟨true,gg,false,bn,bytes d⟩] rfl eS.ah rfl sf.ah gF.ah io.ah.size ?_)
    intro v2 w7 pg gH;have fj:Sl (Below w.heap.size w w7):=⟨eS.ah.Eu io.ah gH.ah (aY _) io.ah.size⟩;rw [wh.ah] at pg;obtain ⟨a2,c2,rfl⟩:=pg.ah.slice;obtain ⟨n2,pD⟩:=zX FS.length;rw [pD] at pg ⊢;clear gH eS sf mC io nF me HB;go_wp2;go_ret2;exact ⟨a2,n2,c2,rfl,pD.symm,⟨pg.ah⟩,fj⟩
 ·skip
  go_enter func78,ntmps78;go_wp2;go_loopw [0,1,8] (fun o y u wr=>∃ (gg:Int) (d:ByteArray) (v1:Value) (gs:List Fr),o=.int .i64 gg∧y=.string d∧u=v1∧d.size≤500000∧Sl (gZ wr w.heap.size v1 gs)∧Sl (gs++jr m gg (bytes d)=FS)∧Sl (Below w.heap.size w wr)) (fun _ y _ _=>OS y)
  case atStart=>exact ⟨2,s,_,[],rfl,rfl,rfl,HS.ah,HO,⟨by rw [List.nil_append];exact W7.ah⟩,oA⟩
  case round =>
   obtain ⟨gg,d,v1,gs,rfl,rfl,rfl,hd,me,Bx,HB⟩:=hrel;obtain ⟨a,c,rfl⟩:=me.ah.slice;obtain ⟨n,hn⟩:=zX gs.length;have HN:=Sl.mk hn;rw [hn] at me;have pH:Sl (gs.length+(jr m gg (bytes d)).length≤500001):=⟨by have:=lG List.length Bx.ah;rw [jB] at this;have:=mT.ah;omega⟩;(try rw [hn]);clear hn;by_cases bz:d.size>m
   ·have hq:((d.size:Int)>(m:Int))=True:=eq_true (by omega)
    have cV:m≤d.size:=by omega
    obtain ⟨D,hD⟩:=zX (d.extract 0 m);obtain ⟨E,hE⟩:=zX (d.extract m d.size);have CD:Sl (jr m gg (bytes d)=⟨false,gg,false,bn,bytes D⟩ :: jr m 0 (bytes E)):=⟨by
     have e:(bytes d).take d.size=bytes d:=nC (by rw [au];exact aY _);rw [mY HM.ah.1 (by rw [au];omega),← hD,← hE,bC,bC,Af,e]⟩
    have gC:Sl (E.size=d.size-m∧1≤m):=⟨by rw [← hE,DJ];omega,HM.ah.1⟩;have Bk:∀ V,(Instr.slice 9 (.string d) none (some (.int .i64 (m:Int))) none).run prog V=.ok (.string D) V:=fun V=>by
     rw [← hD];have:=run_slice_string_h (P:=prog) V 9 d underlying9 .i64 (m:Int) (by omega) (by omega);simpa using this
    have abU:∀ V,(Instr.slice 9 (.string d) (some (.int .i64 (m:Int))) none none).run prog V=.ok (.string E) V:=fun V=>by
     rw [← hE];have:=run_slice_string_l (P:=prog) V 9 d underlying9 .i64 (m:Int) (by omega) (by omega);simpa using this
    clear hD hE;obtain ⟨V1,nF⟩:=zX (wr.alloc (.cells #[.bool false,.int .i64 gg,.bool false,.int .u8 0,.int .u8 0,.int .u8 0,.int .u8 0,.string D] 61));have mC:Sl (Below wr.heap.size wr V1):=⟨by rw [← nF];exact (dW _ _).alloc (aY _) _⟩;have sf:Sl (aS V1 (.slice (some ⟨wr.heap.size,0,none⟩) 1 1) [⟨false,gg,false,bn,bytes D⟩]):=⟨by
     rw [← nF];exact mP (aI wr _ _ rfl) (by show _=#[Value.bool false,.int .i64 gg,.bool false,.int .u8 0,.int .u8 0,.int .u8 0,.int .u8 0,.string (aF (bytes D))];rw [bT])⟩
    have eS:Sl (gZ V1 w.heap.size (.slice a n c) gs):=⟨me.ah.below mC.ah⟩;have io:Sl (Below w.heap.size w V1):=⟨HB.ah.trans (mC.ah.mono HB.ah.size)⟩;have gF:Sl (gs.length+[(⟨false,gg,false,bn,bytes D⟩:Fr)].length≤1000000):=⟨by have:=pH.ah;show gs.length+1≤_;omega⟩;have wh:Sl ((gs++[(⟨false,gg,false,bn,bytes D⟩:Fr)])++jr m 0 (bytes E)=FS):=⟨by rw [Ae,← Bx.ah,CD.ah];rfl⟩;go_upto_region 6 with (at_builtin;(try rw [nF]);refine nK rfl (.tmp 33) (.tmp 39) rfl rfl w.heap.size (.slice a n c) (.slice (some ⟨wr.heap.size,0,none⟩) 1 1) gs [⟨false,gg,false,bn,bytes D⟩] rfl eS.ah rfl sf.ah gF.ah io.ah.size ?_)
    intro v2 w7 pg gH;have fj:Sl (Below w.heap.size w w7):=⟨eS.ah.Eu io.ah gH.ah (aY _) io.ah.size⟩;clear gH eS sf mC io nF me HB;go_wp2_with fail
    go_still (by kernel_rfl)
    change Exit.inBlock _ _ Exit.normal _ w7.drew;have sk:Sl (gZ w7.drew w.heap.size v2 (gs++[⟨false,gg,false,bn,bytes D⟩])):=⟨pg.ah.below (dW _ _).drew⟩;have lA:Sl (Below w.heap.size w w7.drew):=⟨fj.ah.drew⟩;obtain ⟨R,hR⟩:=zX w7.drew;rw [hR] at sk lA ⊢;clear hR pg fj;go_wp2;exact ⟨⟨0,E,v2,_,rfl,rfl,rfl,by have:=gC.ah;omega,sk,wh,lA⟩,by have:=gC.ah;simp [OS];omega⟩
   ·have hq:((d.size:Int)>(m:Int))=False:=dR (by omega)
    have tz:Sl (jr m gg (bytes d)=[⟨true,gg,false,bn,bytes d⟩]):=⟨jH (by rw [au];omega)⟩;obtain ⟨V1,nF⟩:=zX (wr.alloc (.cells #[.bool true,.int .i64 gg,.bool false,.int .u8 0,.int .u8 0,.int .u8 0,.int .u8 0,.string d] 61));have mC:Sl (Below wr.heap.size wr V1):=⟨by rw [← nF];exact (dW _ _).alloc (aY _) _⟩;have sf:Sl (aS V1 (.slice (some ⟨wr.heap.size,0,none⟩) 1 1) [⟨true,gg,false,bn,bytes d⟩]):=⟨by
     rw [← nF];exact mP (aI wr _ _ rfl) (by show _=#[Value.bool true,.int .i64 gg,.bool false,.int .u8 0,.int .u8 0,.int .u8 0,.int .u8 0,.string (aF (bytes d))];rw [bT])⟩
    have eS:Sl (gZ V1 w.heap.size (.slice a n c) gs):=⟨me.ah.below mC.ah⟩;have io:Sl (Below w.heap.size w V1):=⟨HB.ah.trans (mC.ah.mono HB.ah.size)⟩;have gF:Sl (gs.length+[(⟨true,gg,false,bn,bytes d⟩:Fr)].length≤1000000):=⟨by have:=pH.ah;rw [tz.ah] at this;show gs.length+1≤_;simp at this;omega⟩;have wh:Sl (gs++[(⟨true,gg,false,bn,bytes d⟩:Fr)]=FS):=⟨by rw [← Bx.ah,tz.ah]⟩;go_wp2_with (at_builtin;(try rw [nF]);refine nK rfl (.tmp 44) (.tmp 48) rfl rfl w.heap.size (.slice a n c) (.slice (some ⟨wr.heap.size,0,none⟩) 1 1) gs [⟨true,gg,false,bn,bytes d⟩] rfl eS.ah rfl sf.ah gF.ah io.ah.size ?_)
    intro v2 w7 pg gH;have fj:Sl (Below w.heap.size w w7):=⟨eS.ah.Eu io.ah gH.ah (aY _) io.ah.size⟩;rw [wh.ah] at pg;obtain ⟨a2,c2,rfl⟩:=pg.ah.slice;obtain ⟨n2,pD⟩:=zX FS.length;rw [pD] at pg ⊢;clear gH eS sf mC io nF me HB;go_wp2;go_ret2;exact ⟨a2,n2,c2,rfl,pD.symm,⟨pg.ah⟩,fj⟩
end Go.Proofs.YtlahonjmfecikaaGreatDoor.iL
