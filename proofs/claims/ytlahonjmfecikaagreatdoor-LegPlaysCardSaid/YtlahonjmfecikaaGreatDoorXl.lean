/- Texts, joined. -/
import Derived.Test.YtlahonjmfecikaaGreatDoorXd
import Derived.Test.YtlahonjmfecikaaGreatDoorXj
set_option maxRecDepth 100000
set_option maxHeartbeats 64000000
set_option linter.unusedVariables false
set_option linter.unusedSimpArgs false
open Go.Proofs.Tryz
namespace Go.Proofs.YtlahonjmfecikaaGreatDoor.Mdc
open Go.RowKit aC gK KU
open jS (aS vw cv)
open aA (Ev Ms M0 run vP)
open aG (iy)
section
variable {ae fy o:Int} {fs:List Fr} {k b4 b5 b:Nat} {st s':Ms} {es:List Ev} {x:Option Ev} {w0 wr W:World} {S0:ByteArray} {L:Value} {ov:Bool} {t:List Nat}
theorem x9 (h:run ae M0 (fs.take k)=(st,es)) (hx:st.bj≠0∨st.aL=true):run ae M0 fs=(st,es):=by
 have e:fs=fs.take k++fs.drop k:=(Ee k fs).symm;rw [e,aA.gI,h];simp only [aA.jw ae hx,yC]
theorem Ju (hk:k<fs.length) (h:run ae M0 (fs.take k)=(st,es)) (he:st.bj=0) (ho:st.aL=false) (hs:aA.step ae st (fs.getD k dn)=(s',x)):run ae M0 (fs.take (k+1))=(s',es++x.toList):=by
 rw [iL.AO fs k hk,aA.gI,h];simp only [aA.Ar,aA.oL ae he ho,hs]
theorem mV {e:Nat} (hk:k<fs.length) (h:run ae M0 (fs.take k)=(st,es)) (he:st.bj=0) (ho:st.aL=false) (h0:e≠0) (hs:aA.step ae st (fs.getD k dn)=(aA.gG e,none)):run ae M0 fs=(aA.gG e,es):=by
 have:=Ju hk h he ho hs;rw [show es++(none:Option Ev).toList=es from yC _] at this;exact x9 this (.inl h0)
theorem nH (L:Value) (e p:Int) (o:Bool):(prog.info? 129).map (·.size)=some (#[L,Value.int .i64 e,.bool o,.int .i64 p]).size:=by
 show _=some 4
 kernel_rfl
theorem qx (x:Option Addr) (n c:Nat) (e p:Int) (o:Bool):(#[.slice x n c,.int .i64 e,.bool o,.int .i64 p]:Array Value).all (·.oneCell')=true:=by simp [Value.oneCell']
theorem qY {fn:Func} {p:Tmp} (h:fn.results=#[.cell p 129]) (tmps:Array Value) (w:World) (g:Nat) (cs:Array Value)
 (hp:tmps.getD p undef=.pointer (some ⟨g,0,none⟩)) (hg:w.heap[g]? = some (.cells cs 129 (0,0))) (hs:cs.size=4) :
 (results fn tmps).run prog w=.ok (.agg cs) w:=by
 have hi:(prog.info? 129).map (·.size)=some cs.size:=by rw [hs];kernel_rfl
 have A3:tmps[p]?.getD undef=.pointer (some ⟨g,0,none⟩):=by simpa using hp
 simp only [results,h];simp [Result.andThen,A3,asAddr,UR (P:=prog) w g 129 129 cs (0,0) _ hg underlying129 rfl hi]
structure DR (w0:World) (b4 b5:Nat) (ae:Int) (fs:List Fr) (wr:World) (k:Nat) (st:Ms) (es:List Ev) (fy:Int) (S0:ByteArray) (L:Value):Prop where
 run:run ae M0 (fs.take k)=(st,es)
 bj:st.bj=0
 yo:vP ae st
 op:st.cg=true→fy=st.op
 Yn:bytes S0=st.aT
 len:es.length≤k
 lu:ig wr w0.heap.size L es
 ah:wr.heap[b5]? = some (.cells #[L,.int .i64 0,.bool st.aL,.int .i64 0] 129 (0,0))
 eC:wr.heap[b4]? = some (.cells #[.slice none 0 0,.int .i64 0,.bool false,.int .i64 0] 129 (0,0))
 kj:Below w0.heap.size w0 wr
 ge:w0.heap.size≤b4∧b4<b5
theorem DR.below {w':World} (h:DR w0 b4 b5 ae fs wr k st es fy S0 L) (g:Below wr.heap.size wr w'):DR w0 b4 b5 ae fs w' k st es fy S0 L :=
 ⟨h.run,h.bj,h.yo,h.op,h.Yn,h.len,h.lu.below g,ay h.ah g,ay h.eC g,h.kj.trans (g.mono h.kj.size),h.ge⟩
theorem mW {e p:Int} {o:Bool} (h:W.heap[b]? = some (.cells #[L,.int .i64 e,.bool o,.int .i64 p] 129 (0,0))):W.cell? ⟨b,0,none⟩=some L∧W.cell? ⟨b,1,none⟩=some (.int .i64 e)∧W.cell? ⟨b,2,none⟩=some (.bool o)∧W.cell? ⟨b,3,none⟩=some (.int .i64 p):=by
 refine ⟨?_,?_,?_,?_⟩<;>(rw [jg _ _ _ _ _ _ h];rfl)
theorem lY {cs:Array Value} (ho:ig W w0.heap.size L es) (h4:W.heap[b4]? = some (.cells cs 129 (0,0))) (hb:Below w0.heap.size w0 W) (hg:w0.heap.size≤b4) (ds:Array Value) :
 (W.setRow b4 ds).heap[b4]? = some (.cells ds 129 (0,0))∧Sl (ig (W.setRow b4 ds) w0.heap.size L es)∧Sl (Below w0.heap.size w0 (W.setRow b4 ds)):=by
 refine ⟨gY _ _ _ _ _ _ h4,⟨ig.kept ho (bZ W b4 ds) (fun g e e2=>?_)⟩,⟨below_setRow hb hg _⟩⟩;injection e with e
 subst e;obtain ⟨_,cs2,hc⟩:=ho.heap e2;rw [h4] at hc;injection hc with hc
 injection hc with _ hc
 exact absurd hc (by decide)
theorem vO (ho:ig W w0.heap.size L es) (h5:W.heap[b5]? = some (.cells #[L,.int .i64 0,.bool ov,.int .i64 0] 129 (0,0))) (h4:W.heap[b4]? = some (.cells #[.slice none 0 0,.int .i64 0,.bool false,.int .i64 0] 129 (0,0))) (hb:Below w0.heap.size w0 W) (hg:w0.heap.size≤b4∧b4<b5) (o c:Int) (s:ByteArray) (hl:es.length+1≤1000000) :
 ∃ z0 v1 z1 z2,W.alloc (.cells #[.int .i64 o,.int .i64 c,.string s] 52)=z0∧(Builtin.append_ #[47,47] 47 #[L,.slice (some ⟨W.heap.size,0,none⟩) 1 1]).run prog z0=.ok v1 z1∧z1.setCell ⟨b5,0,none⟩ v1=z2∧z1.cell? ⟨b5,0,none⟩=some L∧z1.frozen? ⟨b5,0,none⟩=false∧(∃ a n c,v1=.slice a n c) ∧
   Sl (ig z2 w0.heap.size v1 (es++[⟨o,c,bytes s⟩]))∧Sl (z2.heap[b5]? = some (.cells #[v1,.int .i64 0,.bool ov,.int .i64 0] 129 (0,0)))∧Sl (z2.heap[b4]? = some (.cells #[.slice none 0 0,.int .i64 0,.bool false,.int .i64 0] 129 (0,0)))∧Sl (Below w0.heap.size w0 z2):=by
 obtain ⟨z0,ic⟩:=zX (W.alloc (.cells #[.int .i64 o,.int .i64 c,.string s] 52));have k0:Below W.heap.size W z0:=by rw [← ic];exact (dW _ _).alloc (aY _) _
 have hx:nJ z0 (.slice (some ⟨W.heap.size,0,none⟩) 1 1) [⟨o,c,bytes s⟩]:=AZ (g:=W.heap.size) (cs:=#[.int .i64 o,.int .i64 c,.string s]) (t:=52) (by rw [← ic];exact aI _ _ _ rfl) (by unfold ec;rw [bT]);have gT:Below w0.heap.size w0 z0:=hb.trans (k0.mono hb.size);have Wk:=ho.below k0;obtain ⟨v1,z1,fX,ju,gA,_⟩:=AY Wk hx (by rw [Fv];exact hl) gT.size;have h50:=ay h5 k0;have h40:=ay h4 k0;have ne:∀ g cs,z0.heap[g]? = some (.cells cs 129 (0,0))→L.ownBlock≠some g:=fun g cs h e=>by
  obtain ⟨_,cs2,hc⟩:=Wk.heap e;rw [h] at hc;injection hc with hc
  injection hc with _ hc
  exact absurd hc (by decide)
 have h51:z1.heap[b5]? = some (.cells #[L,.int .i64 0,.bool ov,.int .i64 0] 129 (0,0)):=by rw [gA.block b5 (zl h50) (fun e=>ne b5 _ h50 e.symm)];exact h50
 have h41:z1.heap[b4]? = some (.cells #[.slice none 0 0,.int .i64 0,.bool false,.int .i64 0] 129 (0,0)):=by rw [gA.block b4 (zl h40) (fun e=>ne b4 _ h40 e.symm)];exact h40
 have cM:Below w0.heap.size w0 z1:=ig.Eu Wk gT gA (aY _) gT.size;have hk:=aH z1 b5 0 v1;have hX:(z1.setCell ⟨b5,0,none⟩ v1).heap[b5]? = some (.cells #[v1,.int .i64 0,.bool ov,.int .i64 0] 129 (0,0)):=by
  rw [lF _ _ _ _ _ _ h51];simp
 refine ⟨z0,v1,z1,_,ic,fX,rfl,(mW h51).1,kT _ _ _ _ _ h51,?_,⟨ig.kept ju hk (fun g e e2=>?_)⟩,⟨hX⟩,⟨?_⟩,⟨cM.grown hk cM.size (fun k e=>by injection e with e;omega)⟩⟩
 ·obtain ⟨a,c,h⟩:=ju.slice
  exact ⟨a,_,c,h⟩
 ·injection e with e
  subst e;obtain ⟨_,cs2,hc⟩:=ju.heap e2;rw [h51] at hc;injection hc with hc
  injection hc with _ hc
  exact absurd hc (by decide)
 ·rw [pI _ _ _ _ (by show b4≠b5;omega)];exact h41
theorem Uy (ho:ig W w0.heap.size L es) (h5:W.heap[b5]? = some (.cells #[L,.int .i64 0,.bool false,.int .i64 0] 129 (0,0))) (h4:W.heap[b4]? = some (.cells #[.slice none 0 0,.int .i64 0,.bool false,.int .i64 0] 129 (0,0))) (hb:Below w0.heap.size w0 W) (hg:w0.heap.size≤b4∧b4<b5) :
 ∃ z2,W.setCell ⟨b5,2,none⟩ (.bool true)=z2∧W.cell? ⟨b5,2,none⟩=some (.bool false)∧W.frozen? ⟨b5,2,none⟩=false∧Sl (ig z2 w0.heap.size L es)∧Sl (z2.heap[b5]? = some (.cells #[L,.int .i64 0,.bool true,.int .i64 0] 129 (0,0)))∧Sl (z2.heap[b4]? = some (.cells #[.slice none 0 0,.int .i64 0,.bool false,.int .i64 0] 129 (0,0)))∧Sl (Below w0.heap.size w0 z2):=by
 have hk:=aH W b5 2 (.bool true);refine ⟨_,rfl,(mW h5).2.2.1,kT _ _ _ _ _ h5,⟨ig.kept ho hk (fun g e e2=>?_)⟩,⟨by rw [lF _ _ _ _ _ _ h5];simp⟩,⟨?_⟩,⟨hb.grown hk hb.size (fun k e=>by injection e with e;omega)⟩⟩
 ·injection e with e
  subst e;obtain ⟨_,cs2,hc⟩:=ho.heap e2;rw [h5] at hc;injection hc with hc
  injection hc with _ hc
  exact absurd hc (by decide)
 ·rw [pI _ _ _ _ (by show b4≠b5;omega)];exact h4
theorem Lu:type_of% @aj.yU:=@aj.yU
theorem Jv {s:List Nat} (h:∀ y∈s,y<256):∀ y∈(iy s).2.1,y<256:=fun y hy=>by
 rcases Lu s with e | e
 ·rw [e] at hy;exact absurd hy pJ
 ·rw [e] at hy;exact h y (Ef hy)
theorem DR.next {W':World} {abZ:Int} {S':ByteArray} {L':Value} (H:DR w0 b4 b5 ae fs wr k st es fy S0 L) (hk:k<fs.length) (hm:0≤ae) (ho:st.aL=false)
 (hs:∀ y∈(fs.getD k dn).data,y<256) (eQ:aA.step ae st (fs.getD k dn)=(s',x)) (he:s'.bj=0) (h1:s'.cg=true→abZ=s'.op) (h2:bytes S'=s'.aT) (lu:ig W' w0.heap.size L' (es++x.toList)) (ah:W'.heap[b5]? = some (.cells #[L',.int .i64 0,.bool s'.aL,.int .i64 0] 129 (0,0))) (eC:W'.heap[b4]? = some (.cells #[.slice none 0 0,.int .i64 0,.bool false,.int .i64 0] 129 (0,0))) (kj:Below w0.heap.size w0 W'):DR w0 b4 b5 ae fs W' (k+1) s' (es++x.toList) abZ S' L':=by
 have hf:=aA.nV hm (f:=fs.getD k dn) H.yo hs;rw [aA.oL ae H.bj ho,eQ] at hf;refine ⟨Ju hk H.run H.bj ho eQ,he,hf,h1,h2,?_,lu,ah,eC,kj,H.ge⟩;rw [jB];have:=H.len;cases x<;>simp<;>omega
theorem oI {aN:Bool} {op:Int} {m:Bool} {ka kb kc kd:Nat} {s:ByteArray} (h:W.heap[b]? = some (.cells (zV aN op m ka kb kc kd s) 61 (0,0))):W.cell? ⟨b,0,none⟩=some (.bool aN)∧W.cell? ⟨b,1,none⟩=some (.int .i64 op)∧W.cell? ⟨b,2,none⟩=some (.bool m)∧W.cell? ⟨b,3,none⟩=some (.int .u8 ((ka:Nat):Int))∧W.cell? ⟨b,4,none⟩=some (.int .u8 ((kb:Nat):Int))∧W.cell? ⟨b,5,none⟩=some (.int .u8 ((kc:Nat):Int))∧W.cell? ⟨b,6,none⟩=some (.int .u8 ((kd:Nat):Int))∧W.cell? ⟨b,7,none⟩=some (.string s):=by
 refine ⟨?_,?_,?_,?_,?_,?_,?_,?_⟩<;>(rw [jg _ _ _ _ _ _ h];rfl)
section
variable {ae:Int} {st:Ms} {aN:Bool} {op:Int} {m:Bool} {K d:List Nat}
theorem Wy (h:dF (⟨aN,op,m,K,d⟩:Fr)=false):aA.step ae st (⟨aN,op,m,K,d⟩:Fr)=(aA.gG 120,none):=by
 unfold aA.step;rw [if_pos h]
theorem tY (h:dF (⟨aN,op,m,K,d⟩:Fr)=true) (ho:op=9∨op=10):aA.step ae st (⟨aN,op,m,K,d⟩:Fr)=(st,some ⟨op,0,d⟩):=by
 unfold aA.step;rw [if_neg (by rw [h];decide),if_pos ho]
theorem wX (h:dF (⟨aN,8,m,K,d⟩:Fr)=true):aA.step ae st (⟨aN,8,m,K,d⟩:Fr)=if (iy d).2.2=0 then (aA.done,some ⟨8,(iy d).1,(iy d).2.1⟩) else (aA.gG (iy d).2.2,none):=by
 unfold aA.step;rw [if_neg (by rw [h];decide),if_neg (by show ¬ ((8:Int)=9∨(8:Int)=10);decide),if_pos (show (8:Int)=8 from rfl)]
theorem Jw (h:dF (⟨aN,op,m,K,d⟩:Fr)=true) (h9:op≠9) (gD:op≠10) (h8:op≠8) (hb:decide (op=0)≠st.cg):aA.step ae st (⟨aN,op,m,K,d⟩:Fr)=(aA.gG 120,none):=by
 unfold aA.step;rw [if_neg (by rw [h];decide),if_neg (fun e=>e.elim h9 gD),if_neg h8,if_pos hb]
theorem Fe (h:dF (⟨aN,op,m,K,d⟩:Fr)=true) (h9:op≠9) (gD:op≠10) (h8:op≠8) (hb:decide (op=0)=st.cg) (ho:(if st.cg=true then st.op else op)=o) (ht:st.aT++d=t):aA.step ae st (⟨aN,op,m,K,d⟩:Fr)=aA.dY ae aN o t:=by
 unfold aA.step;rw [if_neg (by rw [h];decide),if_neg (fun e=>e.elim h9 gD),if_neg h8,if_neg (fun e=>e hb)]
 show aA.dY ae aN (if st.cg=true then st.op else op) (st.aT++d)=_
 rw [ho,ht]
theorem Fg (h:ae<(t.length:Int)):aA.dY ae aN o t=(aA.gG 121,none):=by
 unfold aA.dY;rw [if_pos h]
theorem uw (h:(t.length:Int)≤ae) (h2:aA.wu o aN t=false):aA.dY ae aN o t=(aA.gG 122,none):=by
 unfold aA.dY;rw [if_neg (by omega),if_pos h2]
theorem yg (h:(t.length:Int)≤ae) (h2:aA.wu o true t=true):aA.dY ae true o t=(M0,some ⟨o,0,t⟩):=by
 unfold aA.dY;rw [if_neg (by omega),if_neg (by rw [h2];decide),if_pos rfl]
theorem Bd (h:(t.length:Int)≤ae) (h2:aA.wu o false t=true):aA.dY ae false o t=(⟨0,false,true,o,t⟩,none):=by
 unfold aA.dY;rw [if_neg (by omega),if_neg (by rw [h2];decide),if_neg (by decide)]
theorem oW (h:o=1):aA.wu o aN t=!(decide (bg.dP bg.s0 t<t.length)||(aN&&!aG.jc t)):=by
 unfold aA.wu;rw [iG h,JF]
theorem uy (h:¬ o=1):aA.wu o aN t=true:=by
 unfold aA.wu;rw [iQ h];rfl
end
theorem WA (ho:ig W w0.heap.size L es) (h5:W.heap[b5]? = some (.cells #[L,.int .i64 0,.bool ov,.int .i64 0] 129 (0,0))) (h4:W.heap[b4]? = some (.cells #[.slice none 0 0,.int .i64 0,.bool false,.int .i64 0] 129 (0,0))) (hb:Below w0.heap.size w0 W) (hg:w0.heap.size≤b4∧b4<b5) (p:Int) :
 ∃ z2,W.setCell ⟨b5,3,none⟩ (.int .i64 p)=z2∧W.cell? ⟨b5,3,none⟩=some (.int .i64 0)∧W.frozen? ⟨b5,3,none⟩=false∧Sl (ig z2 w0.heap.size L es)∧Sl (z2.heap[b5]? = some (.cells #[L,.int .i64 0,.bool ov,.int .i64 p] 129 (0,0)))∧Sl (z2.heap[b4]? = some (.cells #[.slice none 0 0,.int .i64 0,.bool false,.int .i64 0] 129 (0,0)))∧Sl (Below w0.heap.size w0 z2):=by
 have hk:=aH W b5 3 (.int .i64 p);refine ⟨_,rfl,(mW h5).2.2.2,kT _ _ _ _ _ h5,⟨ig.kept ho hk (fun g e e2=>?_)⟩,⟨by rw [lF _ _ _ _ _ _ h5];simp⟩,⟨?_⟩,⟨hb.grown hk hb.size (fun k e=>by injection e with e;omega)⟩⟩
 ·injection e with e
  subst e;obtain ⟨_,cs2,hc⟩:=ho.heap e2;rw [h5] at hc;injection hc with hc
  injection hc with _ hc
  exact absurd hc (by decide)
 ·rw [pI _ _ _ _ (by show b4≠b5;omega)];exact h4
theorem mF (fs:List Fr) (v:Value) (ae:Int) (w:World) (hv:aS w v fs) (ok:∀ f∈fs,vw f) (hd:∀ f∈fs,f.data.length≤100000) (hm:0≤ae∧ae≤100000) (hl:fs.length≤900000) :
 Calls prog 74 #[v,.int .i64 ae] w fun e w'=>∃ L,e=.returned (.agg #[L,.int .i64 ((run ae M0 fs).1.bj:Int),.bool (run ae M0 fs).1.aL,.int .i64 ((run ae M0 fs).1.aT.length:Int)])∧Sl (ig w' w.heap.size L (run ae M0 fs).2)∧Sl (Below w.heap.size w w'):=by
 obtain ⟨a,c,rfl⟩:=hv.slice;have HV:=Sl.mk hv;have nm:=Sl.mk ok;have HD:=Sl.mk hd;have HM:=Sl.mk hm;obtain ⟨n,hn⟩:=zX fs.length;have HN:=Sl.mk hn;rw [hn] at HV hl ⊢;obtain ⟨w1,bA⟩:=zX (w.alloc (.cells #[.slice none 0 0,.int .i64 0,.bool false,.int .i64 0] 129));obtain ⟨wa,cz⟩:=zX (w1.alloc (.cells #[.slice none 0 0,.int .i64 0,.bool false,.int .i64 0] 129));obtain ⟨w2,cE⟩:=zX (wa.setRow w1.heap.size #[.slice none 0 0,.int .i64 0,.bool false,.int .i64 0]);have k1:Below w.heap.size w w1:=by rw [← bA];exact (dW _ _).alloc (aY _) _
 have s1:w1.heap.size=w.heap.size+1:=by rw [← bA];exact aP _ _
 have k2:Below w1.heap.size w1 w2:=by rw [← cE,← cz];exact below_setRow ((dW _ _).alloc (aY _) _) (aY _) _
 have h41:w1.heap[w.heap.size]? = some (.cells #[.slice none 0 0,.int .i64 0,.bool false,.int .i64 0] 129 (0,0)):=by rw [← bA];exact aI _ _ _ rfl
 have h52:w2.heap[w1.heap.size]? = some (.cells #[.slice none 0 0,.int .i64 0,.bool false,.int .i64 0] 129 (0,0)):=by rw [← cE];exact gY _ _ _ _ _ _ (by rw [← cz];exact aI _ _ _ rfl)
 have ZZ:=nH (.slice none 0 0) 0 0 false;have PF:wa.heap[w1.heap.size]? = some (.cells #[.slice none 0 0,.int .i64 0,.bool false,.int .i64 0] 129 (0,0)):=by rw [← cz];exact aI _ _ _ rfl
 have HD0:Sl (DR w w.heap.size w1.heap.size ae fs w2 0 M0 [] 0 {data:=#[]} (.slice none 0 0)):=⟨⟨by rw [QH];rfl,rfl,aA.JS hm.1,fun h=>(by cases h),rfl,aY _,C5 _ _,h52,ay h41 k2,k1.trans (k2.mono k1.size),⟨aY _,by omega⟩⟩⟩;obtain ⟨b5,Cz⟩:=zX w1.heap.size;rw [Cz] at PF cE;obtain ⟨b4,zg⟩:=zX w.heap.size;clear hv ok hd hm hn k1 s1 k2 h41 h52;go_enter func74,ntmps74;go_upto_region 2 with (refine fG rfl 129 (.tmp 5) (.tmp 17) rfl b5 #[.slice none 0 0,.int .i64 0,.bool false,.int .i64 0] rfl rfl 129 #[.slice none 0 0,.int .i64 0,.bool false,.int .i64 0] PF ZZ rfl (qx _ _ _ _ _ _) ?_)
 rw [cE];rw [zg,Cz] at HD0;(try rw [zg]);clear PF ZZ bA cz cE;go_wp2;go_loopw [6,7,8,9] (fun y6 y7 y8 y9 wr=>∃ (k:Nat) (st:Ms) (es:List Ev) (fy:Int) (S0:ByteArray) (L:Value) (Ka:Bool),y6=.bool Ka∧y7=.int .i64 fy∧y8=.string S0∧y9=.int .i64 (k:Int)∧k≤n∧Sl (st.aL=false→Ka=st.cg)∧Sl (DR w b4 b5 ae fs wr k st es fy S0 L)) (fun _ _ _ i _=>n-(intOf i).toNat)
 case atStart=>exact ⟨0,M0,[],0,{data:=#[]},.slice none 0 0,false,rfl,rfl,rfl,rfl,ku _,⟨fun _=>rfl⟩,HD0⟩
 case round =>
  obtain ⟨k,st,es,fy,S0,L,Ka,rfl,rfl,rfl,rfl,hk,mC,HR⟩:=hrel;clear HD0;obtain ⟨g0,g1,g2,g3⟩:=mW HR.ah.ah;obtain ⟨a5,n5,c5,rfl⟩:∃ a n c,L=.slice a n c:=by
   obtain ⟨a,c,h⟩:=HR.ah.lu.slice;exact ⟨a,_,c,h⟩
  by_cases fh:k<n∧st.aL=false
  ·obtain ⟨gf,eJ⟩:=fh
   have bz:((k:Int)<(n:Int))=True:=eq_true (by omega);have ox:Sl (k<fs.length):=⟨by rw [HN.ah];exact gf⟩;have eS:=Sl.mk eJ;have D0:Sl (Ka=st.cg):=⟨mC.ah eJ⟩;rw [eJ] at g2;obtain ⟨sb,so,rfl⟩:=HV.ah.cap.2 (by omega);obtain ⟨aN,op,m,ka,kb,kc,kd,s,hf,eh,bB,Co⟩:=iL.MR nm.ah k ox.ah;obtain ⟨c0,c1,c2,c3,c4,c5',c6',c7⟩:=(HV.ah.below HR.ah.kj).XZ k ox.ah eh;have gh:=HD.ah _ Co;rw [hf] at gh;have u2:s.size≤100000:=by have:=au s;have hz:(bytes s).length≤100000:=gh;omega
   have HF:=Sl.mk hf;obtain ⟨w3,cH⟩:=zX ((wr.alloc (.cells zZ 61)).setRow wr.heap.size (zV aN op m ka kb kc kd s));have cI:Below wr.heap.size wr w3:=by rw [← cH];exact mh wr (zV aN op m ka kb kc kd s)
   have bv:w3.heap[wr.heap.size]? = some (.cells (zV aN op m ka kb kc kd s) 61 (0,0)):=by rw [← cH];exact (F7 (zV aN op m ka kb kc kd s) (dW _ _)).2
   have UV:=Sl.mk (HR.ah.below cI);have sj:=aW (cs:=(zV aN op m ka kb kc kd s)) rfl;obtain ⟨fm,vv⟩:=zX (dF (⟨aN,op,m,[ka,kb,kc,kd],bytes s⟩:Fr));have CF:∀ W,Calls prog 101 #[.agg (zV aN op m ka kb kc kd s)] W fun e w'=>e=.returned (.bool fm)∧Sl (Below W.heap.size W w'):=fun W=>by rw [← vv];exact H9 aN op m ka kb kc kd s W bB
   have gM:=Sl.mk vv;clear hf eh Co cI vv gh eJ;go_upto_region 7 with (refine fG rfl 61 (.tmp 10) (.tmp 32) rfl wr.heap.size (zV aN op m ka kb kc kd s) rfl rfl 61 zZ (dQ wr _) sj rfl (aZ _ _ _ _ _ _ _ _) ?_)
   (try rw [cH]);obtain ⟨bf,Mx⟩:=zX wr.heap.size;rw [Mx] at bv;(try rw [Mx]);obtain ⟨f0,f1,f2,f3,f4,f5,f6,f7⟩:=oI bv;clear cH Mx HR g0 g1 g2 g3 sj c0 c1 c2 c3 c4 c5' c6' c7;go_wp2_with fail
   refine (CF _).mono ?_;rintro e w4 ⟨rfl,cx⟩;have br:=ay bv cx.ah;have cR:=Sl.mk (UV.ah.below cx.ah);clear CF UV bv f0 f1 f2 f3 f4 f5 f6 f7 cx;obtain ⟨f0,f1,f2,f3,f4,f5,f6,f7⟩:=oI br;have cq:=Sl.mk br;clear br;obtain ⟨g0,g1,g2,g3⟩:=mW cR.ah.ah;rw [eS.ah] at g2;cases fm with
   | false =>
     have h4:=cR.ah.eC;obtain ⟨E1,E2,E3⟩:=lY cR.ah.lu cR.ah.eC cR.ah.kj cR.ah.ge.1 #[.slice a5 n5 c5,.int .i64 120,.bool false,.int .i64 0];have HI:=nH (.slice a5 n5 c5) 120 0 false;have HQ:Sl (run ae M0 fs=(aA.gG 120,es)):=⟨mV ox.ah cR.ah.run cR.ah.bj eS.ah (by decide) (by rw [HF.ah];exact Wy gM.ah)⟩;go_wp2_with (refine fG rfl 129 (.tmp 4) (.tmp 38) rfl b4 #[.slice a5 n5 c5,.int .i64 120,.bool false,.int .i64 0] rfl rfl 129 #[.slice none 0 0,.int .i64 0,.bool false,.int .i64 0] h4 HI rfl (qx _ _ _ _ _ _) ?_)
     (try simp only [Exit.inBlock,Exit.then]);refine gX (qY rfl _ _ b4 _ rfl E1 rfl) rfl ?_;exact ⟨_,by rw [HQ.ah];rfl,by rw [HQ.ah];exact E2,E3⟩
   | true =>
     by_cases h9:op=9
     ·subst h9
      obtain ⟨z0,v1,z1,z2,e0,fX,e2,p1,p2,⟨a6,n6,c6,rfl⟩,O2,X5,X4,B2⟩:=vO cR.ah.lu cR.ah.ah cR.ah.eC cR.ah.kj cR.ah.ge 9 0 s (by have:=cR.ah.len;omega);go_wp2_with (refine fK rfl (.tmp 48) (.tmp 54) 47 47 rfl rfl (.slice a5 n5 c5) (.slice (some ⟨w4.heap.size,0,none⟩) 1 1) _ _ rfl rfl fX ?_)
      have eR:Sl (DR w b4 b5 ae fs z2 (k+1) st (es++[⟨9,0,bytes s⟩]) fy S0 (.slice a6 n6 c6)):=⟨cR.ah.next (x:=some ⟨9,0,bytes s⟩) ox.ah HM.ah.1 eS.ah (by rw [HF.ah];exact aJ s) (by rw [HF.ah];exact tY gM.ah (by decide)) cR.ah.bj cR.ah.op cR.ah.Yn O2.ah X5.ah X4.ah B2.ah⟩;exact ⟨⟨k+1,st,es++[⟨9,0,bytes s⟩],fy,S0,.slice a6 n6 c6,Ka,rfl,rfl,rfl,by go_num,by omega,mC,eR⟩,by simp [intOf];omega⟩
     by_cases gD:op=10
     ·subst gD
      obtain ⟨z0,v1,z1,z2,e0,fX,e2,p1,p2,⟨a6,n6,c6,rfl⟩,O2,X5,X4,B2⟩:=vO cR.ah.lu cR.ah.ah cR.ah.eC cR.ah.kj cR.ah.ge 10 0 s (by have:=cR.ah.len;omega);go_wp2_with (refine fK rfl (.tmp 48) (.tmp 54) 47 47 rfl rfl (.slice a5 n5 c5) (.slice (some ⟨w4.heap.size,0,none⟩) 1 1) _ _ rfl rfl fX ?_)
      have eR:Sl (DR w b4 b5 ae fs z2 (k+1) st (es++[⟨10,0,bytes s⟩]) fy S0 (.slice a6 n6 c6)):=⟨cR.ah.next (x:=some ⟨10,0,bytes s⟩) ox.ah HM.ah.1 eS.ah (by rw [HF.ah];exact aJ s) (by rw [HF.ah];exact tY gM.ah (by decide)) cR.ah.bj cR.ah.op cR.ah.Yn O2.ah X5.ah X4.ah B2.ah⟩;exact ⟨⟨k+1,st,es++[⟨10,0,bytes s⟩],fy,S0,.slice a6 n6 c6,Ka,rfl,rfl,rfl,by go_num,by omega,mC,eR⟩,by simp [intOf];omega⟩
     have q9:(op==9)=false:=by simp [h9]
     have q10:(op==10)=false:=by simp [gD]
     have q9':(op=9)=False:=dR h9;have ak1:(op=10)=False:=dR gD;by_cases h8:op=8
     ·subst h8
      obtain ⟨⟨cd,wd,ee⟩,hg⟩:∃ r,iy (bytes s)=r:=⟨_,rfl⟩;obtain ⟨T,hT⟩:=zX (aF wd);have kI:wd=bytes T:=by
       rw [← hT,dm];have:=Jv (aJ s);rw [hg] at this;exact this
      rw [kI] at hg;have CG:∀ W,Calls prog 102 #[.string s] W fun e w'=>e=.returned (.tuple #[.int .i64 cd,.string T,.int .i64 (ee:Int)])∧Sl (Below W.heap.size W w'):=fun W=>Gh.Qi W W s T cd ee hg u2 (dW _ _)
      have HG:=Sl.mk hg;clear hg kI hT;go_wp2_with fail
      refine (CG _).mono ?_;rintro e w5 ⟨rfl,eT⟩;clear CG;have ch:=Sl.mk (ay cq.ah eT.ah);have kg:=Sl.mk (cR.ah.below eT.ah);clear f0 f1 f2 f3 f4 f5 f6 f7 g0 g1 g2 g3 eT;obtain ⟨f0,f1,f2,f3,f4,f5,f6,f7⟩:=oI ch.ah;obtain ⟨g0,g1,g2,g3⟩:=mW kg.ah.ah;rw [eS.ah] at g2;by_cases hee:ee=0
      ·subst hee
       have qe:(((0:Nat):Int) != 0)=false:=rfl;have CC:=kg.ah.ah;rw [eS.ah] at CC;obtain ⟨z0,v1,z1,z2,e0,fX,e2,p1,p2,⟨a6,n6,c6,rfl⟩,O2,X5,X4,B2⟩:=vO kg.ah.lu CC kg.ah.eC kg.ah.kj kg.ah.ge 8 cd T (by have:=kg.ah.len;omega);obtain ⟨z3,e3,p3,p4,O3,Y5,Y4,B3⟩:=Uy O2.ah X5.ah X4.ah B2.ah kg.ah.ge;go_wp2_with (refine fK rfl (.tmp 74) (.tmp 78) 47 47 rfl rfl (.slice a5 n5 c5) (.slice (some ⟨w5.heap.size,0,none⟩) 1 1) _ _ rfl rfl fX ?_)
       have eR:Sl (DR w b4 b5 ae fs z3 (k+1) aA.done (es++[⟨8,cd,bytes T⟩]) fy {data:=#[]} (.slice a6 n6 c6)):=⟨kg.ah.next (x:=some ⟨8,cd,bytes T⟩) ox.ah HM.ah.1 eS.ah (by rw [HF.ah];exact aJ s) (by rw [HF.ah,wX gM.ah,HG.ah,if_pos rfl]) rfl (fun h=>(by cases h)) rfl O3.ah Y5.ah Y4.ah B3.ah⟩;exact ⟨⟨k+1,aA.done,es++[⟨8,cd,bytes T⟩],fy,{data:=#[]},.slice a6 n6 c6,Ka,rfl,rfl,rfl,by go_num,by omega,⟨fun h=>(by cases h)⟩,eR⟩,by simp [intOf];omega⟩
      ·have qe:((ee:Int) != 0)=true:=by simp;omega
       have h4:=kg.ah.eC;obtain ⟨E1,E2,E3⟩:=lY kg.ah.lu kg.ah.eC kg.ah.kj kg.ah.ge.1 #[.slice a5 n5 c5,.int .i64 (ee:Int),.bool false,.int .i64 0];have HI:=nH (.slice a5 n5 c5) (ee:Int) 0 false;have HQ:Sl (run ae M0 fs=(aA.gG ee,es)):=⟨mV ox.ah kg.ah.run kg.ah.bj eS.ah hee (by rw [HF.ah,wX gM.ah,HG.ah,if_neg hee])⟩;go_wp2_with (refine fG rfl 129 (.tmp 4) (.tmp 72) rfl b4 #[.slice a5 n5 c5,.int .i64 (ee:Int),.bool false,.int .i64 0] rfl rfl 129 #[.slice none 0 0,.int .i64 0,.bool false,.int .i64 0] h4 HI rfl (qx _ _ _ _ _ _) ?_)
       (try simp only [Exit.inBlock,Exit.then]);refine gX (qY rfl _ _ b4 _ rfl E1 rfl) rfl ?_;exact ⟨_,by rw [HQ.ah];rfl,by rw [HQ.ah];exact E2,E3⟩
     have q8:(op==8)=false:=by simp [h8]
     have q8':(op=8)=False:=dR h8;by_cases h0:op=0
     ·have q0:(op==0)=true:=by simp [h0]
      cases Ka with
      | false =>
        have h4:=cR.ah.eC;obtain ⟨E1,E2,E3⟩:=lY cR.ah.lu cR.ah.eC cR.ah.kj cR.ah.ge.1 #[.slice a5 n5 c5,.int .i64 120,.bool false,.int .i64 0];have HI:=nH (.slice a5 n5 c5) 120 0 false;have HQ:Sl (run ae M0 fs=(aA.gG 120,es)):=⟨mV ox.ah cR.ah.run cR.ah.bj eS.ah (by decide) (by rw [HF.ah];exact Jw gM.ah h9 gD h8 (by rw [← D0.ah];simp [h0]))⟩;go_wp2_with (refine fG rfl 129 (.tmp 4) (.tmp 89) rfl b4 #[.slice a5 n5 c5,.int .i64 120,.bool false,.int .i64 0] rfl rfl 129 #[.slice none 0 0,.int .i64 0,.bool false,.int .i64 0] h4 HI rfl (qx _ _ _ _ _ _) ?_)
        (try simp only [Exit.inBlock,Exit.then]);refine gX (qY rfl _ _ b4 _ rfl E1 rfl) rfl ?_;exact ⟨_,by rw [HQ.ah];rfl,by rw [HQ.ah];exact E2,E3⟩
      | true =>
        have hoo:fy=st.op:=cR.ah.op D0.ah.symm;obtain ⟨S1,hS1⟩:=zX (S0++s);have ak2:S0.size≤100000:=by
         have h1:=cR.ah.yo.ae;rw [← cR.ah.Yn,au] at h1;have:=HM.ah.2;omega
        have afI:S0.size+s.size≤1000000:=by omega
        have vq:st.aT++bytes s=bytes S1:=by rw [← hS1,iK,cR.ah.Yn]
        have gN:Sl (aA.step ae st (⟨aN,op,m,[ka,kb,kc,kd],bytes s⟩:Fr)=aA.dY ae aN fy (bytes S1)):=⟨Fe gM.ah h9 gD h8 (by rw [← D0.ah];simp [h0]) (by rw [if_pos D0.ah.symm];exact hoo.symm) vq⟩;clear hoo vq;by_cases hl:ae<(S1.size:Int)
        ·have ql:((S1.size:Int)>ae)=True:=eq_true hl
         have ql':(ae<(S1.size:Int))=True:=eq_true hl;have gc:Sl (ae<((bytes S1).length:Int)):=⟨by rw [au];exact hl⟩;have h4:=cR.ah.eC;obtain ⟨E1,E2,E3⟩:=lY cR.ah.lu cR.ah.eC cR.ah.kj cR.ah.ge.1 #[.slice a5 n5 c5,.int .i64 121,.bool false,.int .i64 0];have HI:=nH (.slice a5 n5 c5) 121 0 false;have HQ:Sl (run ae M0 fs=(aA.gG 121,es)):=⟨mV ox.ah cR.ah.run cR.ah.bj eS.ah (by decide) (by rw [HF.ah,gN.ah];exact Fg gc.ah)⟩;go_wp2_with (refine fG rfl 129 (.tmp 4) (.tmp 104) rfl b4 #[.slice a5 n5 c5,.int .i64 121,.bool false,.int .i64 0] rfl rfl 129 #[.slice none 0 0,.int .i64 0,.bool false,.int .i64 0] h4 HI rfl (qx _ _ _ _ _ _) ?_)
         (try simp only [Exit.inBlock,Exit.then]);refine gX (qY rfl _ _ b4 _ rfl E1 rfl) rfl ?_;exact ⟨_,by rw [HQ.ah];rfl,by rw [HQ.ah];exact E2,E3⟩
        have ql:((S1.size:Int)>ae)=False:=dR hl;have ql':(ae<(S1.size:Int))=False:=dR hl;have gc:Sl (((bytes S1).length:Int)≤ae):=⟨by rw [au];omega⟩;obtain ⟨R,hR⟩:=zX (bg.dP bg.s0 (bytes S1));obtain ⟨C,hC⟩:=zX (bg.dH bg.s0 (bytes S1));obtain ⟨V,hV⟩:=zX (oq.vb (bytes S1));have CR:∀ W,Calls prog 103 #[.string S1] W fun e w'=>e=.returned (.tuple #[.int .i64 (R:Int),.int .i64 (C:Int),.bool V])∧Sl (Below W.heap.size W w'):=fun W=>(oq.rU S1 W (by have:=HM.ah.2;omega)).mono fun _ _ ⟨he,hb⟩=>⟨by rw [he,hR,hC,hV],⟨hb⟩⟩
        have rh:Sl (bg.dP bg.s0 (bytes S1)=R∧aG.jc (bytes S1)=V):=⟨hR,hV⟩;clear hR hC hV hl;go_wp2_with fail
        refine (CR _).mono ?_;rintro e w6 ⟨rfl,pn⟩;clear CR;have gb:=Sl.mk (ay cq.ah pn.ah);have cL:=Sl.mk (cR.ah.below pn.ah);clear f0 f1 f2 f3 f4 f5 f6 f7 g0 g1 g2 g3 pn;obtain ⟨f0,f1,f2,f3,f4,f5,f6,f7⟩:=oI gb.ah;obtain ⟨g0,g1,g2,g3⟩:=mW cL.ah.ah;rw [eS.ah] at g2;by_cases h1:fy=1
        ·have q1:(fy==1)=true:=by simp [h1]
         have r9:Sl (fy=1):=⟨h1⟩;clear h1;by_cases rK:R<S1.size
         ·have qR:((R:Int)<(S1.size:Int))=True:=eq_true (by omega)
          have qR':(R<S1.size)=True:=eq_true rK;have oy:Sl (aA.wu fy aN (bytes S1)=false):=⟨by rw [oW r9.ah,rh.ah.1,au,iG rK];rfl⟩;have h4:=cL.ah.eC;obtain ⟨E1,E2,E3⟩:=lY cL.ah.lu cL.ah.eC cL.ah.kj cL.ah.ge.1 #[.slice a5 n5 c5,.int .i64 122,.bool false,.int .i64 0];have HI:=nH (.slice a5 n5 c5) 122 0 false;have HQ:Sl (run ae M0 fs=(aA.gG 122,es)):=⟨mV ox.ah cL.ah.run cL.ah.bj eS.ah (by decide) (by rw [HF.ah,gN.ah];exact uw gc.ah oy.ah)⟩;go_wp2_with (refine fG rfl 129 (.tmp 4) (.tmp 129) rfl b4 #[.slice a5 n5 c5,.int .i64 122,.bool false,.int .i64 0] rfl rfl 129 #[.slice none 0 0,.int .i64 0,.bool false,.int .i64 0] h4 HI rfl (qx _ _ _ _ _ _) ?_)
          (try simp only [Exit.inBlock,Exit.then]);refine gX (qY rfl _ _ b4 _ rfl E1 rfl) rfl ?_;exact ⟨_,by rw [HQ.ah];rfl,by rw [HQ.ah];exact E2,E3⟩
         have qR:((R:Int)<(S1.size:Int))=False:=dR (by omega);have qR':(R<S1.size)=False:=dR rK;cases aN with
         | true =>
           cases V with
           | false =>
             have oy:Sl (aA.wu fy true (bytes S1)=false):=⟨by rw [oW r9.ah,rh.ah.1,rh.ah.2,au,iQ rK];rfl⟩;have h4:=cL.ah.eC;obtain ⟨E1,E2,E3⟩:=lY cL.ah.lu cL.ah.eC cL.ah.kj cL.ah.ge.1 #[.slice a5 n5 c5,.int .i64 122,.bool false,.int .i64 0];have HI:=nH (.slice a5 n5 c5) 122 0 false;have HQ:Sl (run ae M0 fs=(aA.gG 122,es)):=⟨mV ox.ah cL.ah.run cL.ah.bj eS.ah (by decide) (by rw [HF.ah,gN.ah];exact uw gc.ah oy.ah)⟩;go_wp2_with (refine fG rfl 129 (.tmp 4) (.tmp 129) rfl b4 #[.slice a5 n5 c5,.int .i64 122,.bool false,.int .i64 0] rfl rfl 129 #[.slice none 0 0,.int .i64 0,.bool false,.int .i64 0] h4 HI rfl (qx _ _ _ _ _ _) ?_)
             (try simp only [Exit.inBlock,Exit.then]);refine gX (qY rfl _ _ b4 _ rfl E1 rfl) rfl ?_;exact ⟨_,by rw [HQ.ah];rfl,by rw [HQ.ah];exact E2,E3⟩
           | true =>
             have oy:Sl (aA.wu fy true (bytes S1)=true):=⟨by rw [oW r9.ah,rh.ah.1,rh.ah.2,au,iQ rK];rfl⟩;have jj:=cL.ah.ah;rw [eS.ah] at jj;obtain ⟨z0,v1,z1,z2,e0,fX,e2,p1,p2,⟨a6,n6,c6,rfl⟩,O2,X5,X4,B2⟩:=vO cL.ah.lu jj cL.ah.eC cL.ah.kj cL.ah.ge fy 0 S1 (by have:=cL.ah.len;omega);go_wp2_with (refine fK rfl (.tmp 133) (.tmp 137) 47 47 rfl rfl (.slice a5 n5 c5) (.slice (some ⟨w6.heap.size,0,none⟩) 1 1) _ _ rfl rfl fX ?_)
             have eR:Sl (DR w b4 b5 ae fs z2 (k+1) M0 (es++[⟨fy,0,bytes S1⟩]) fy {data:=#[]} (.slice a6 n6 c6)):=⟨cL.ah.next (x:=some ⟨fy,0,bytes S1⟩) ox.ah HM.ah.1 eS.ah (by rw [HF.ah];exact aJ s) (by rw [HF.ah,gN.ah];exact yg gc.ah oy.ah) rfl (fun h=>(by cases h)) rfl O2.ah X5.ah X4.ah B2.ah⟩;exact ⟨⟨k+1,M0,es++[⟨fy,0,bytes S1⟩],fy,{data:=#[]},.slice a6 n6 c6,false,rfl,rfl,rfl,by go_num,by omega,⟨fun _=>rfl⟩,eR⟩,by simp [intOf];omega⟩
         | false =>
           have oy:Sl (aA.wu fy false (bytes S1)=true):=⟨by rw [oW r9.ah,rh.ah.1,au,iQ rK];rfl⟩;have jj:=cL.ah.ah;rw [eS.ah] at jj;have eR:Sl (DR w b4 b5 ae fs w6 (k+1) ⟨0,false,true,fy,bytes S1⟩ (es++(none:Option Ev).toList) fy S1 (.slice a5 n5 c5)):=⟨cL.ah.next (x:=none) ox.ah HM.ah.1 eS.ah (by rw [HF.ah];exact aJ s) (by rw [HF.ah,gN.ah];exact Bd gc.ah oy.ah) rfl (fun _=>rfl) rfl (by rw [show es++(none:Option Ev).toList=es from yC _];exact cL.ah.lu) jj cL.ah.eC cL.ah.kj⟩;go_wp2;exact ⟨⟨k+1,⟨0,false,true,fy,bytes S1⟩,es++(none:Option Ev).toList,fy,S1,.slice a5 n5 c5,true,rfl,rfl,rfl,by go_num,by omega,⟨fun _=>rfl⟩,eR⟩,by simp [intOf];omega⟩
        ·have q1:(fy==1)=false:=by simp [h1]
         have r9:Sl (¬ fy=1):=⟨h1⟩;clear h1;cases aN with
         | true =>
           have oy:Sl (aA.wu fy true (bytes S1)=true):=⟨by exact uy r9.ah⟩;have jj:=cL.ah.ah;rw [eS.ah] at jj;obtain ⟨z0,v1,z1,z2,e0,fX,e2,p1,p2,⟨a6,n6,c6,rfl⟩,O2,X5,X4,B2⟩:=vO cL.ah.lu jj cL.ah.eC cL.ah.kj cL.ah.ge fy 0 S1 (by have:=cL.ah.len;omega);go_wp2_with (refine fK rfl (.tmp 133) (.tmp 137) 47 47 rfl rfl (.slice a5 n5 c5) (.slice (some ⟨w6.heap.size,0,none⟩) 1 1) _ _ rfl rfl fX ?_)
           have eR:Sl (DR w b4 b5 ae fs z2 (k+1) M0 (es++[⟨fy,0,bytes S1⟩]) fy {data:=#[]} (.slice a6 n6 c6)):=⟨cL.ah.next (x:=some ⟨fy,0,bytes S1⟩) ox.ah HM.ah.1 eS.ah (by rw [HF.ah];exact aJ s) (by rw [HF.ah,gN.ah];exact yg gc.ah oy.ah) rfl (fun h=>(by cases h)) rfl O2.ah X5.ah X4.ah B2.ah⟩;exact ⟨⟨k+1,M0,es++[⟨fy,0,bytes S1⟩],fy,{data:=#[]},.slice a6 n6 c6,false,rfl,rfl,rfl,by go_num,by omega,⟨fun _=>rfl⟩,eR⟩,by simp [intOf];omega⟩
         | false =>
           have oy:Sl (aA.wu fy false (bytes S1)=true):=⟨by exact uy r9.ah⟩;have jj:=cL.ah.ah;rw [eS.ah] at jj;have eR:Sl (DR w b4 b5 ae fs w6 (k+1) ⟨0,false,true,fy,bytes S1⟩ (es++(none:Option Ev).toList) fy S1 (.slice a5 n5 c5)):=⟨cL.ah.next (x:=none) ox.ah HM.ah.1 eS.ah (by rw [HF.ah];exact aJ s) (by rw [HF.ah,gN.ah];exact Bd gc.ah oy.ah) rfl (fun _=>rfl) rfl (by rw [show es++(none:Option Ev).toList=es from yC _];exact cL.ah.lu) jj cL.ah.eC cL.ah.kj⟩;go_wp2;exact ⟨⟨k+1,⟨0,false,true,fy,bytes S1⟩,es++(none:Option Ev).toList,fy,S1,.slice a5 n5 c5,true,rfl,rfl,rfl,by go_num,by omega,⟨fun _=>rfl⟩,eR⟩,by simp [intOf];omega⟩
     ·have q0:(op==0)=false:=by simp [h0]
      cases Ka with
      | true =>
        have h4:=cR.ah.eC;obtain ⟨E1,E2,E3⟩:=lY cR.ah.lu cR.ah.eC cR.ah.kj cR.ah.ge.1 #[.slice a5 n5 c5,.int .i64 120,.bool false,.int .i64 0];have HI:=nH (.slice a5 n5 c5) 120 0 false;have HQ:Sl (run ae M0 fs=(aA.gG 120,es)):=⟨mV ox.ah cR.ah.run cR.ah.bj eS.ah (by decide) (by rw [HF.ah];exact Jw gM.ah h9 gD h8 (by rw [← D0.ah];simp [h0]))⟩;go_wp2_with (refine fG rfl 129 (.tmp 4) (.tmp 89) rfl b4 #[.slice a5 n5 c5,.int .i64 120,.bool false,.int .i64 0] rfl rfl 129 #[.slice none 0 0,.int .i64 0,.bool false,.int .i64 0] h4 HI rfl (qx _ _ _ _ _ _) ?_)
        (try simp only [Exit.inBlock,Exit.then]);refine gX (qY rfl _ _ b4 _ rfl E1 rfl) rfl ?_;exact ⟨_,by rw [HQ.ah];rfl,by rw [HQ.ah];exact E2,E3⟩
      | false =>
        obtain ⟨S1,hS1⟩:=zX (({data:=#[]} : ByteArray)++s);have afI:({data:=#[]} : ByteArray).size+s.size≤1000000:=by show 0+s.size≤_;omega
        have vq:st.aT++bytes s=bytes S1:=by rw [← hS1,iK,(cR.ah.yo.idle D0.ah.symm).1];rfl
        have gN:Sl (aA.step ae st (⟨aN,op,m,[ka,kb,kc,kd],bytes s⟩:Fr)=aA.dY ae aN op (bytes S1)):=⟨Fe gM.ah h9 gD h8 (by rw [← D0.ah];simp [h0]) (by rw [if_neg (by rw [← D0.ah];decide)]) vq⟩;clear vq;go_upto_region 20 with fail
        have eT:=Sl.mk ((dW w4.heap.size w4).drew);obtain ⟨-,f1d,-⟩:=oI (ay cq.ah eT.ah);go_still (by kernel_rfl)
        clear f1d;obtain ⟨w5,dq⟩:=zX w4.drew;rw [dq] at eT;change Exit.then _ _ _ _ w4.drew
        rw [dq];clear dq;have ch:=Sl.mk (ay cq.ah eT.ah);have kg:=Sl.mk (cR.ah.below eT.ah);clear f0 f1 f2 f3 f4 f5 f6 f7 g0 g1 g2 g3 eT;obtain ⟨f0,f1,f2,f3,f4,f5,f6,f7⟩:=oI ch.ah;obtain ⟨g0,g1,g2,g3⟩:=mW kg.ah.ah;rw [eS.ah] at g2;by_cases hl:ae<(S1.size:Int)
        ·have ql:((S1.size:Int)>ae)=True:=eq_true hl
         have ql':(ae<(S1.size:Int))=True:=eq_true hl;have gc:Sl (ae<((bytes S1).length:Int)):=⟨by rw [au];exact hl⟩;have h4:=kg.ah.eC;obtain ⟨E1,E2,E3⟩:=lY kg.ah.lu kg.ah.eC kg.ah.kj kg.ah.ge.1 #[.slice a5 n5 c5,.int .i64 121,.bool false,.int .i64 0];have HI:=nH (.slice a5 n5 c5) 121 0 false;have HQ:Sl (run ae M0 fs=(aA.gG 121,es)):=⟨mV ox.ah kg.ah.run kg.ah.bj eS.ah (by decide) (by rw [HF.ah,gN.ah];exact Fg gc.ah)⟩;go_wp2_with (refine fG rfl 129 (.tmp 4) (.tmp 104) rfl b4 #[.slice a5 n5 c5,.int .i64 121,.bool false,.int .i64 0] rfl rfl 129 #[.slice none 0 0,.int .i64 0,.bool false,.int .i64 0] h4 HI rfl (qx _ _ _ _ _ _) ?_)
         (try simp only [Exit.inBlock,Exit.then]);refine gX (qY rfl _ _ b4 _ rfl E1 rfl) rfl ?_;exact ⟨_,by rw [HQ.ah];rfl,by rw [HQ.ah];exact E2,E3⟩
        have ql:((S1.size:Int)>ae)=False:=dR hl;have ql':(ae<(S1.size:Int))=False:=dR hl;have gc:Sl (((bytes S1).length:Int)≤ae):=⟨by rw [au];omega⟩;obtain ⟨R,hR⟩:=zX (bg.dP bg.s0 (bytes S1));obtain ⟨C,hC⟩:=zX (bg.dH bg.s0 (bytes S1));obtain ⟨V,hV⟩:=zX (oq.vb (bytes S1));have CR:∀ W,Calls prog 103 #[.string S1] W fun e w'=>e=.returned (.tuple #[.int .i64 (R:Int),.int .i64 (C:Int),.bool V])∧Sl (Below W.heap.size W w'):=fun W=>(oq.rU S1 W (by have:=HM.ah.2;omega)).mono fun _ _ ⟨he,hb⟩=>⟨by rw [he,hR,hC,hV],⟨hb⟩⟩
        have rh:Sl (bg.dP bg.s0 (bytes S1)=R∧aG.jc (bytes S1)=V):=⟨hR,hV⟩;clear hR hC hV hl;go_wp2_with fail
        refine (CR _).mono ?_;rintro e w6 ⟨rfl,pn⟩;clear CR;have gb:=Sl.mk (ay ch.ah pn.ah);have cL:=Sl.mk (kg.ah.below pn.ah);clear f0 f1 f2 f3 f4 f5 f6 f7 g0 g1 g2 g3 pn;obtain ⟨f0,f1,f2,f3,f4,f5,f6,f7⟩:=oI gb.ah;obtain ⟨g0,g1,g2,g3⟩:=mW cL.ah.ah;rw [eS.ah] at g2;by_cases h1:op=1
        ·have q1:(op==1)=true:=by simp [h1]
         have r9:Sl (op=1):=⟨h1⟩;clear h1;by_cases rK:R<S1.size
         ·have qR:((R:Int)<(S1.size:Int))=True:=eq_true (by omega)
          have qR':(R<S1.size)=True:=eq_true rK;have oy:Sl (aA.wu op aN (bytes S1)=false):=⟨by rw [oW r9.ah,rh.ah.1,au,iG rK];rfl⟩;have h4:=cL.ah.eC;obtain ⟨E1,E2,E3⟩:=lY cL.ah.lu cL.ah.eC cL.ah.kj cL.ah.ge.1 #[.slice a5 n5 c5,.int .i64 122,.bool false,.int .i64 0];have HI:=nH (.slice a5 n5 c5) 122 0 false;have HQ:Sl (run ae M0 fs=(aA.gG 122,es)):=⟨mV ox.ah cL.ah.run cL.ah.bj eS.ah (by decide) (by rw [HF.ah,gN.ah];exact uw gc.ah oy.ah)⟩;go_wp2_with (refine fG rfl 129 (.tmp 4) (.tmp 129) rfl b4 #[.slice a5 n5 c5,.int .i64 122,.bool false,.int .i64 0] rfl rfl 129 #[.slice none 0 0,.int .i64 0,.bool false,.int .i64 0] h4 HI rfl (qx _ _ _ _ _ _) ?_)
          (try simp only [Exit.inBlock,Exit.then]);refine gX (qY rfl _ _ b4 _ rfl E1 rfl) rfl ?_;exact ⟨_,by rw [HQ.ah];rfl,by rw [HQ.ah];exact E2,E3⟩
         have qR:((R:Int)<(S1.size:Int))=False:=dR (by omega);have qR':(R<S1.size)=False:=dR rK;cases aN with
         | true =>
           cases V with
           | false =>
             have oy:Sl (aA.wu op true (bytes S1)=false):=⟨by rw [oW r9.ah,rh.ah.1,rh.ah.2,au,iQ rK];rfl⟩;have h4:=cL.ah.eC;obtain ⟨E1,E2,E3⟩:=lY cL.ah.lu cL.ah.eC cL.ah.kj cL.ah.ge.1 #[.slice a5 n5 c5,.int .i64 122,.bool false,.int .i64 0];have HI:=nH (.slice a5 n5 c5) 122 0 false;have HQ:Sl (run ae M0 fs=(aA.gG 122,es)):=⟨mV ox.ah cL.ah.run cL.ah.bj eS.ah (by decide) (by rw [HF.ah,gN.ah];exact uw gc.ah oy.ah)⟩;go_wp2_with (refine fG rfl 129 (.tmp 4) (.tmp 129) rfl b4 #[.slice a5 n5 c5,.int .i64 122,.bool false,.int .i64 0] rfl rfl 129 #[.slice none 0 0,.int .i64 0,.bool false,.int .i64 0] h4 HI rfl (qx _ _ _ _ _ _) ?_)
             (try simp only [Exit.inBlock,Exit.then]);refine gX (qY rfl _ _ b4 _ rfl E1 rfl) rfl ?_;exact ⟨_,by rw [HQ.ah];rfl,by rw [HQ.ah];exact E2,E3⟩
           | true =>
             have oy:Sl (aA.wu op true (bytes S1)=true):=⟨by rw [oW r9.ah,rh.ah.1,rh.ah.2,au,iQ rK];rfl⟩;have jj:=cL.ah.ah;rw [eS.ah] at jj;obtain ⟨z0,v1,z1,z2,e0,fX,e2,p1,p2,⟨a6,n6,c6,rfl⟩,O2,X5,X4,B2⟩:=vO cL.ah.lu jj cL.ah.eC cL.ah.kj cL.ah.ge op 0 S1 (by have:=cL.ah.len;omega);go_wp2_with (refine fK rfl (.tmp 133) (.tmp 137) 47 47 rfl rfl (.slice a5 n5 c5) (.slice (some ⟨w6.heap.size,0,none⟩) 1 1) _ _ rfl rfl fX ?_)
             have eR:Sl (DR w b4 b5 ae fs z2 (k+1) M0 (es++[⟨op,0,bytes S1⟩]) op {data:=#[]} (.slice a6 n6 c6)):=⟨cL.ah.next (x:=some ⟨op,0,bytes S1⟩) ox.ah HM.ah.1 eS.ah (by rw [HF.ah];exact aJ s) (by rw [HF.ah,gN.ah];exact yg gc.ah oy.ah) rfl (fun h=>(by cases h)) rfl O2.ah X5.ah X4.ah B2.ah⟩;exact ⟨⟨k+1,M0,es++[⟨op,0,bytes S1⟩],op,{data:=#[]},.slice a6 n6 c6,false,rfl,rfl,rfl,by go_num,by omega,⟨fun _=>rfl⟩,eR⟩,by simp [intOf];omega⟩
         | false =>
           have oy:Sl (aA.wu op false (bytes S1)=true):=⟨by rw [oW r9.ah,rh.ah.1,au,iQ rK];rfl⟩;have jj:=cL.ah.ah;rw [eS.ah] at jj;have eR:Sl (DR w b4 b5 ae fs w6 (k+1) ⟨0,false,true,op,bytes S1⟩ (es++(none:Option Ev).toList) op S1 (.slice a5 n5 c5)):=⟨cL.ah.next (x:=none) ox.ah HM.ah.1 eS.ah (by rw [HF.ah];exact aJ s) (by rw [HF.ah,gN.ah];exact Bd gc.ah oy.ah) rfl (fun _=>rfl) rfl (by rw [show es++(none:Option Ev).toList=es from yC _];exact cL.ah.lu) jj cL.ah.eC cL.ah.kj⟩;go_wp2;exact ⟨⟨k+1,⟨0,false,true,op,bytes S1⟩,es++(none:Option Ev).toList,op,S1,.slice a5 n5 c5,true,rfl,rfl,rfl,by go_num,by omega,⟨fun _=>rfl⟩,eR⟩,by simp [intOf];omega⟩
        ·have q1:(op==1)=false:=by simp [h1]
         have r9:Sl (¬ op=1):=⟨h1⟩;clear h1;cases aN with
         | true =>
           have oy:Sl (aA.wu op true (bytes S1)=true):=⟨by exact uy r9.ah⟩;have jj:=cL.ah.ah;rw [eS.ah] at jj;obtain ⟨z0,v1,z1,z2,e0,fX,e2,p1,p2,⟨a6,n6,c6,rfl⟩,O2,X5,X4,B2⟩:=vO cL.ah.lu jj cL.ah.eC cL.ah.kj cL.ah.ge op 0 S1 (by have:=cL.ah.len;omega);go_wp2_with (refine fK rfl (.tmp 133) (.tmp 137) 47 47 rfl rfl (.slice a5 n5 c5) (.slice (some ⟨w6.heap.size,0,none⟩) 1 1) _ _ rfl rfl fX ?_)
           have eR:Sl (DR w b4 b5 ae fs z2 (k+1) M0 (es++[⟨op,0,bytes S1⟩]) op {data:=#[]} (.slice a6 n6 c6)):=⟨cL.ah.next (x:=some ⟨op,0,bytes S1⟩) ox.ah HM.ah.1 eS.ah (by rw [HF.ah];exact aJ s) (by rw [HF.ah,gN.ah];exact yg gc.ah oy.ah) rfl (fun h=>(by cases h)) rfl O2.ah X5.ah X4.ah B2.ah⟩;exact ⟨⟨k+1,M0,es++[⟨op,0,bytes S1⟩],op,{data:=#[]},.slice a6 n6 c6,false,rfl,rfl,rfl,by go_num,by omega,⟨fun _=>rfl⟩,eR⟩,by simp [intOf];omega⟩
         | false =>
           have oy:Sl (aA.wu op false (bytes S1)=true):=⟨by exact uy r9.ah⟩;have jj:=cL.ah.ah;rw [eS.ah] at jj;have eR:Sl (DR w b4 b5 ae fs w6 (k+1) ⟨0,false,true,op,bytes S1⟩ (es++(none:Option Ev).toList) op S1 (.slice a5 n5 c5)):=⟨cL.ah.next (x:=none) ox.ah HM.ah.1 eS.ah (by rw [HF.ah];exact aJ s) (by rw [HF.ah,gN.ah];exact Bd gc.ah oy.ah) rfl (fun _=>rfl) rfl (by rw [show es++(none:Option Ev).toList=es from yC _];exact cL.ah.lu) jj cL.ah.eC cL.ah.kj⟩;go_wp2;exact ⟨⟨k+1,⟨0,false,true,op,bytes S1⟩,es++(none:Option Ev).toList,op,S1,.slice a5 n5 c5,true,rfl,rfl,rfl,by go_num,by omega,⟨fun _=>rfl⟩,eR⟩,by simp [intOf];omega⟩
  ·have HQ:Sl (run ae M0 fs=(st,es)):=⟨by
    by_cases gf:k<n
    ·have eJ:st.aL=true:=by
      cases ho:st.aL with
      | true=>rfl
      | false=>exact absurd ⟨gf,ho⟩ fh
     exact x9 HR.ah.run (.inr eJ)
    ·have:=HR.ah.run
     rwa [nC (by rw [HN.ah];omega)] at this⟩
   obtain ⟨z3,e3,p3,p4,O3,Y5,Y4,B3⟩:=WA HR.ah.lu HR.ah.ah HR.ah.eC HR.ah.kj HR.ah.ge (S0.size:Int);obtain ⟨d0,d1,d2,d3⟩:=mW Y5.ah;have h4:=Y4.ah;obtain ⟨E1,E2,E3⟩:=lY O3.ah Y4.ah B3.ah HR.ah.ge.1 #[.slice a5 n5 c5,.int .i64 0,.bool st.aL,.int .i64 (S0.size:Int)];have HI:=nH (.slice a5 n5 c5) 0 (S0.size:Int) st.aL;have HE:Sl ((st.bj:Int)=0∧(st.aT.length:Int)=(S0.size:Int)):=⟨by rw [HR.ah.bj];rfl,by rw [← HR.ah.Yn,au]⟩;have ab1:∀ W,W=z3.setRow b4 #[.slice a5 n5 c5,.int .i64 0,.bool st.aL,.int .i64 (S0.size:Int)]→True:=fun _ _=>trivial
   by_cases gf:k<n
   ·have bz:((k:Int)<(n:Int))=True:=eq_true (by omega)
    have eJ:st.aL=true:=by
     cases ho:st.aL with
     | true=>rfl
     | false=>exact absurd ⟨gf,ho⟩ fh
    have eS:=Sl.mk eJ;rw [eJ] at g2 d2 E1 E2 E3 HI;clear eJ;clear ab1 HR Y5 Y4;go_wp2_with (refine fG rfl 129 (.tmp 4) (.tmp 143) rfl b4 #[.slice a5 n5 c5,.int .i64 0,.bool true,.int .i64 (S0.size:Int)] rfl rfl 129 #[.slice none 0 0,.int .i64 0,.bool false,.int .i64 0] h4 HI rfl (qx _ _ _ _ _ _) ?_)
    (try simp only [Exit.inBlock,Exit.then]);refine gX (qY rfl _ _ b4 _ rfl E1 rfl) rfl ?_;exact ⟨_,by rw [HQ.ah,HE.ah.1,HE.ah.2,eS.ah],by rw [HQ.ah];exact E2,E3⟩
   ·have bz:((k:Int)<(n:Int))=False:=dR (by omega)
    clear ab1 HR Y5 Y4;go_wp2_with (refine fG rfl 129 (.tmp 4) (.tmp 143) rfl b4 #[.slice a5 n5 c5,.int .i64 0,.bool st.aL,.int .i64 (S0.size:Int)] rfl rfl 129 #[.slice none 0 0,.int .i64 0,.bool false,.int .i64 0] h4 HI rfl (qx _ _ _ _ _ _) ?_)
    (try simp only [Exit.inBlock,Exit.then]);refine gX (qY rfl _ _ b4 _ rfl E1 rfl) rfl ?_;exact ⟨_,by rw [HQ.ah,HE.ah.1,HE.ah.2],by rw [HQ.ah];exact E2,E3⟩
end
end Go.Proofs.YtlahonjmfecikaaGreatDoor.Mdc
