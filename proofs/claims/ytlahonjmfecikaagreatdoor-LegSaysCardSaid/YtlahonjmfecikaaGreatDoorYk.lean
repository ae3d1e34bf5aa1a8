/- The texts below, joined. -/
import Derived.Test.YtlahonjmfecikaaGreatDoorYj
import Derived.Laws.IdiomArrays
import Derived.ChangeArms
set_option maxRecDepth 100000
set_option linter.unusedVariables false
set_option linter.unusedSimpArgs false
set_option maxRecDepth 100000
namespace Go.Proofs.YtlahonjmfecikaaGreatDoor.Leg
open Go.RowKit Stm
open FramePlain (Fr Fr0)
open LegPlain (Cf Lg)
open Msg (Kept MacS Mine)
open LegPlain (Inv Few CfOk Good came evs errs react bound feed fail L0)
open MsgPlain (Ev Ms M0)
open Evt
structure LegH (w0 W:World) (L:Nat) (S:Nat→Prop) (c:Cf) (l:Lg) (k:Nat):Prop where
 ex:∃ sb mb rb rp tv kv qv sv mv mp,LegF w0 W L sb mb rb rp tv kv qv sv mv mp c l∧S=All L rb rp sb mb tv kv qv sv mv mp
 good:LegPlain.Good c l k
 cf:CfOk c
 k:k≤1000
 g:Mas.Globs w0∧Utf.Globs w0
section
variable {w0 W W':World} {L:Nat} {S S' S2:Nat→Prop} {c:Cf} {l:Lg} {k:Nat}
theorem LegH.low (h:LegH w0 W L S c l k):Below w0.heap.size w0 W:=by
 obtain ⟨_,_,_,_,_,_,_,_,_,_,h1,_⟩:=h.ex;exact h1.low
theorem LegH.own (h:LegH w0 W L S c l k) {j:Nat} (e:S j):w0.heap.size≤j∧j<W.heap.size:=by
 obtain ⟨_,_,_,_,_,_,_,_,_,_,h1,rfl⟩:=h.ex;exact h1.own e
theorem LegH.stay (h:LegH w0 W L S c l k) (hk:Kept S2 W W') (hn:∀ j,S j→¬ S2 j) (hL:Below w0.heap.size w0 W'):LegH w0 W' L S c l k:=by
 obtain ⟨⟨_,_,_,_,_,_,_,_,_,_,h1,rfl⟩,a,b,d,e⟩:=h
 exact ⟨⟨_,_,_,_,_,_,_,_,_,_,h1.stay hk hn hL,rfl⟩,a,b,d,e⟩
theorem LegH.below (h:LegH w0 W L S c l k) (hb:Below W.heap.size W W'):LegH w0 W' L S c l k:=by
 obtain ⟨⟨_,_,_,_,_,_,_,_,_,_,h1,rfl⟩,a,b,d,e⟩:=h
 exact ⟨⟨_,_,_,_,_,_,_,_,_,_,h1.below hb,rfl⟩,a,b,d,e⟩
theorem LegH.mono (h:LegH w0 W L S c l k) {j:Nat} (hj:k≤j) (hk:j≤1000):LegH w0 W L S c l j:=⟨h.ex,h.good.mono hj,h.cf,hk,h.g⟩
theorem FGoes.apart {T:Nat→Prop} (g:FGoes W W' S S') (h:∀ j,S j→¬ T j) (ht:∀ j,T j→j<W.heap.size):∀ j,S' j→¬ T j:=fun j e e2=>by
 rcases g.mine j e with h1 | h1
 ·exact h j h1 e2
 ·have:=ht j e2;omega
theorem FGoes.up (g:FGoes W W' S S') {V:World} {B:Nat} (hB:Below B V W) (hS:∀ j,S j→B≤j) (hs:B≤W.heap.size):Below B V W':=g.kept.up hB hS hs
theorem LegH.up (h:LegH w0 W L S c l k) (g:FGoes W W' S S'):Below w0.heap.size w0 W':=g.kept.up h.low (fun _ e=>(h.own e).1) h.low.size
theorem ogoes_f {sb mb rb rp:Nat} {tv kv qv sv mv mp tv' kv' qv':Value} {m:Lg} (h:LegF w0 W L sb mb rb rp tv kv qv sv mv mp c l) (hA:LegAt w0 W' L sb mb rb rp tv' kv' qv' c m) (g:OGoes W W' L rb rp tv kv qv tv' kv' qv') (hk:LegPlain.Keep l m) :
 LegF w0 W' L sb mb rb rp tv' kv' qv' sv mv mp c m∧FGoes W W' (All L rb rp sb mb tv kv qv sv mv mp) (All L rb rp sb mb tv' kv' qv' sv mv mp):=h.out hA g hk.buf hk.serr hk.ms
theorem free_ex (h:LegH w0 W L S c l k) (r:Bool) (hr:LegPlain.free l=r):Calls Tryz.prog 35 #[.pointer (some ⟨L,0,none⟩)] W fun e w'=>e=.returned (.bool r)∧W=w':=by
 obtain ⟨⟨_,_,_,_,_,_,_,_,_,_,h1,rfl⟩,a,b,d,e⟩:=h
 refine free_any h1.A _ rfl _ ?_
 rw [← hr,a.free]
 cases l.rest with
 | nil=>rfl
 | cons x y=>simp;omega
theorem sent_ex (h:LegH w0 W L S c l k) (r:Bool) (hr:l.sent=r):Calls Tryz.prog 28 #[.pointer (some ⟨L,0,none⟩)] W fun e w'=>e=.returned (.bool r)∧W=w':=by
 obtain ⟨⟨_,_,_,_,_,_,_,_,_,_,h1,rfl⟩,a,b,d,e⟩:=h
 rw [← hr];exact sent_any h1.A
theorem wrong_ex (h:LegH w0 W L S c l k) (r:Int) (hr:(l.wrong:Int)=r):Calls Tryz.prog 30 #[.pointer (some ⟨L,0,none⟩)] W fun e w'=>e=.returned (.int .i64 r)∧W=w':=by
 obtain ⟨⟨_,_,_,_,_,_,_,_,_,_,h1,rfl⟩,a,b,d,e⟩:=h
 rw [← hr];exact wrong_any h1.A
theorem got_ex (h:LegH w0 W L S c l k) (r:Bool) (hr:l.got=r):Calls Tryz.prog 31 #[.pointer (some ⟨L,0,none⟩)] W fun e w'=>e=.returned (.bool r)∧W=w':=by
 obtain ⟨⟨_,_,_,_,_,_,_,_,_,_,h1,rfl⟩,a,b,d,e⟩:=h
 rw [← hr,a.gm];exact got_any h1.A h1.M
theorem quiet_ex (h:LegH w0 W L S c l k) (r:Bool) (hr:decide (l.ring=[])=r):Calls Tryz.prog 27 #[.pointer (some ⟨L,0,none⟩)] W fun e w'=>e=.returned (.bool r)∧W=w':=by
 obtain ⟨⟨_,_,_,_,_,_,_,_,_,_,h1,rfl⟩,a,b,d,e⟩:=h
 refine quiet_any h1.A _ rfl _ ?_
 rw [← hr]
 cases l.ring with
 | nil=>rfl
 | cons x y=>simp;omega
theorem kept_ex (h:LegH w0 W L S c l k) (n:Nat) (hn:l.buf.length+l.ms.text.length=n) (hl:n≤10000000):Calls Tryz.prog 34 #[.pointer (some ⟨L,0,none⟩)] W fun e w'=>e=.returned (.int .i64 (n:Int))∧Sl (Below W.heap.size W w'):=by
 obtain ⟨⟨_,_,_,_,_,_,_,_,_,_,h1,rfl⟩,a,b,d,e⟩:=h
 exact kept_any h1.A h1.S h1.M _ _ n rfl rfl hn hl
theorem peek_ex (h:LegH w0 W L S c l k) (z:Int) (out:List Nat) (ho:l.ring.take z.toNat=out) (n:Nat) (hn:out.length=n):Calls Tryz.prog 33 #[.pointer (some ⟨L,0,none⟩),.int .i64 z] W fun e w'=>e=.returned (.slice (some ⟨W.heap.size,0,none⟩) n n)∧Sl (RowB w' W.heap.size out)∧Sl (Below W.heap.size W w'):=by
 obtain ⟨⟨_,_,_,_,_,_,_,_,_,_,h1,rfl⟩,a,b,d,e⟩:=h
 exact peek_any h1.A z out ho n hn
theorem take_ex (h:LegH w0 W L S c l k) (z:Int) (out:List Nat) (ho:l.ring.take z.toNat=out) (n:Nat) (hn:out.length=n) (m:Lg) (hm:(LegPlain.takeN c l z).1=m):Calls Tryz.prog 24 #[.pointer (some ⟨L,0,none⟩),.int .i64 z] W fun e w'=>∃ S',e=.returned (.slice (some ⟨W.heap.size,0,none⟩) n n)∧Sl (RowB w' W.heap.size out)∧Sl (LegH w0 w' L S' c m k)∧Sl (FGoes W w' S S'):=by
 obtain ⟨⟨_,_,_,_,_,_,_,_,_,_,h1,rfl⟩,a,b,d,e⟩:=h
 subst ho
 refine (ltake_any h1.A e.1 a.few d b z n hn).mono ?_
 rintro x w' ⟨_,_,_,rfl,hR,hA,hG⟩
 obtain ⟨q1,q2⟩:=ogoes_f h1 hA.out hG.out (LegPlain.take_keep c l z)
 subst hm
 exact ⟨_,rfl,hR,⟨⟨⟨_,_,_,_,_,_,_,_,_,_,q1,rfl⟩,LegPlain.good_take b a z,b,d,e⟩⟩,⟨q2⟩⟩
theorem ping_ex (h:LegH w0 W L S c l k) (s:ByteArray) (hs:s.size≤1000000) (hk:k+1≤1000) (m:Lg) (r:Bool) (hm:LegPlain.ping c l (bytes s)=(m,r)):Calls Tryz.prog 22 #[.pointer (some ⟨L,0,none⟩),.string s] W fun e w'=>∃ S',e=.returned (.bool r)∧Sl (LegH w0 w' L S' c m (k+1))∧Sl (FGoes W w' S S'):=by
 obtain ⟨⟨_,_,_,_,_,_,_,_,_,_,h1,rfl⟩,a,b,d,e⟩:=h
 refine (lping_any h1.A e.1 a.few d b a.op s hs).mono ?_
 rintro x w' ⟨_,_,_,rfl,hA,hG⟩
 obtain ⟨q1,q2⟩:=ogoes_f h1 hA.out hG.out (LegPlain.ping_keep c l _)
 have q3:=LegPlain.good_ping b a (bytes s) (bytes_small s)
 rw [hm] at q1 q3 ⊢
 exact ⟨_,rfl,⟨⟨⟨_,_,_,_,_,_,_,_,_,_,q1,rfl⟩,q3,b,hk,e⟩⟩,⟨q2⟩⟩
theorem close_ex (h:LegH w0 W L S c l k) (code:Int) (s:ByteArray) (m:Lg) (r:Bool) (hm:LegPlain.close c l code (bytes s)=(m,r)):Calls Tryz.prog 23 #[.pointer (some ⟨L,0,none⟩),.int .i64 code,.string s] W fun e w'=>∃ S',e=.returned (.bool r)∧Sl (LegH w0 w' L S' c m k)∧Sl (FGoes W w' S S'):=by
 obtain ⟨⟨_,_,_,_,_,_,_,_,_,_,h1,rfl⟩,a,b,d,e⟩:=h
 refine (lclose_any h1.A e.1 a.few d b e.2 code s).mono ?_
 rintro x w' ⟨_,_,_,rfl,hA,hG⟩
 obtain ⟨q1,q2⟩:=ogoes_f h1 hA.out hG.out (LegPlain.close_keep c l code _)
 have q3:=LegPlain.good_close b a code (bytes s) (bytes_small s)
 rw [hm] at q1 q3 ⊢
 exact ⟨_,rfl,⟨⟨⟨_,_,_,_,_,_,_,_,_,_,q1,rfl⟩,q3,b,d,e⟩⟩,⟨q2⟩⟩
theorem send_ex (h:LegH w0 W L S c l k) (o q:Int) (s:ByteArray) (m:Lg) (r:Bool) (hm:LegPlain.send c l o (bytes s)=(m,r)):Calls Tryz.prog 21 #[.pointer (some ⟨L,0,none⟩),.agg #[.int .i64 o,.int .i64 q,.string s]] W fun e w'=>∃ S',e=.returned (.bool r)∧Sl (LegH w0 w' L S' c m k)∧Sl (FGoes W w' S S'):=by
 obtain ⟨⟨_,_,_,_,_,_,_,_,_,_,h1,rfl⟩,a,b,d,e⟩:=h
 refine (lsend_any h1.A e.1 a.few d b a.op o q s).mono ?_
 rintro x w' ⟨_,_,_,rfl,hA,hG⟩
 obtain ⟨q1,q2⟩:=ogoes_f h1 hA.out hG.out (LegPlain.send_keep c l o _)
 have q3:=LegPlain.good_send b a o (bytes s) (bytes_small s)
 rw [hm] at q1 q3 ⊢
 exact ⟨_,rfl,⟨⟨⟨_,_,_,_,_,_,_,_,_,_,q1,rfl⟩,q3,b,d,e⟩⟩,⟨q2⟩⟩
theorem feed_ex (h:LegH w0 W L S c l k) (v:Value) (b:List Nat) (hv:SrcAt W v b) (hb:Small 256 b) (hl:b.length≤30000) (m:Lg) (es:List Ev) (hm:feed c l b=(m,es)):Calls Tryz.prog 20 #[.pointer (some ⟨L,0,none⟩),v] W fun e w'=>∃ S' rv,e=.returned rv∧Sl (OwnE w' W.heap.size rv es)∧Sl (LegH w0 w' L S' c m k)∧Sl (FGoes W w' S S')∧Sl (∀ j,rv.ownBlock=some j→¬ S' j):=by
 obtain ⟨⟨_,_,_,_,_,_,_,_,_,_,h1,rfl⟩,a,x,d,e⟩:=h
 refine (lfeed_any h1 e.1 e.2 a d x v b hv hb hl).mono ?_
 rintro y w' ⟨_,_,_,_,_,_,rv,rfl,hO,hA,hG,hN⟩
 have q3:=LegPlain.good_feed x a b hb
 rw [hm] at hO hA q3
 exact ⟨_,rv,rfl,hO,⟨⟨⟨_,_,_,_,_,_,_,_,_,_,hA.out,rfl⟩,q3,x,d,e⟩⟩,hG,hN⟩
end
theorem new_ex (rs:List Rou.Rb) (a1:Option Addr) (n1 c1:Nat) (a2:Option Addr) (n2 c2:Nat) (tb ct bs sh id po cl:Int) (c:Cf) (d:Nat) (hd:d<4294967296) (w0 W:World) (hB:Below w0.heap.size w0 W) (hG:Mas.Globs w0∧Utf.Globs w0) (hg:_root_.Go.Proofs.YtlahonjmfecikaaGreatDoor.Globs W) (hv:Rou.RtsAt W (.slice a1 n1 c1) rs) (ok:∀ r∈rs,Rou.RbOk r) (hl:rs.length≤1000000) (hc:CfOk c) (hr:Rou.checkB rs n2 tb (c.msg:Int) (c.frm:Int) ct bs (c.out:Int) sh id po cl=true) :
 Calls Tryz.prog 13 #[.agg #[.slice a1 n1 c1,.slice a2 n2 c2,.int .i64 tb,.int .i64 (c.msg:Int),.int .i64 (c.frm:Int),.int .i64 ct,.int .i64 bs,.int .i64 (c.out:Int),.int .i64 sh,.int .i64 id,.int .i64 po,.int .i64 cl],.bool c.masked,.int .u32 (d:Int)] W fun e w'=>∃ L S,e=.returned (.tuple #[.pointer (some ⟨L,0,none⟩),.int .i64 0])∧Sl (LegH w0 w' L S c (L0 d) 0)∧Sl (Below W.heap.size W w')∧Sl (∀ j,S j→W.heap.size≤j):=by
 refine (lnew_yes rs a1 n1 c1 a2 n2 c2 tb ct bs sh id po cl c d hd w0 W hB hg hv ok hl hc hr).mono ?_
 rintro x w' ⟨L,sb,mb,rb,rp,rfl,hL,hb,hge⟩
 obtain ⟨g1,g2,g3,g4,g5⟩:=hge.out
 refine ⟨L,_,rfl,⟨⟨⟨_,_,_,_,_,_,_,_,_,_,hL.out,rfl⟩,LegPlain.good_zero c d,hc,by decide,hG⟩⟩,hb,⟨fun j e=>?_⟩⟩
 rcases e with e | (e | e) | e
 ·rcases e with e | e | e | e | e | e
  ·omega
  ·omega
  ·omega
  ·cases e
  ·cases e
  ·cases e
 ·omega
 ·cases e
 ·have:=Msg.mine_zero e;omega
end Go.Proofs.YtlahonjmfecikaaGreatDoor.Leg
set_option maxRecDepth 100000
namespace Go.Proofs.YtlahonjmfecikaaGreatDoor.Leg
open Go.RowKit Stm
open FramePlain (Fr Fr0)
open LegPlain (Cf Lg)
open Msg (Kept MacS Mine)
open LegPlain (Inv Few CfOk Good came evs errs react bound feed fail L0 takeN pend)
open MsgPlain (Ev Ms M0)
open Evt
def rb1:Rou.Rb:=⟨{data:=#[47]},{data:=#[]},{data:=#[120]}⟩
theorem rb1_ok:∀ r∈[rb1],Rou.RbOk r:=fun r hr=>by
 rw [List.mem_singleton] at hr
 subst hr
 exact ⟨by decide,by decide,by decide⟩
theorem rb1_rs:Rou.okRs [rb1]=true:=by decide +kernel
def cfL (a b o:Nat) (masked:Bool):Cf:=⟨1+o,1+a,1+b,masked⟩
theorem cfL_ok {a b o:Nat} (ha:a<256) (hb:b<256) (ho:o<256) (m:Bool):CfOk (cfL a b o m):=by
 refine ⟨?_,?_,?_,?_,?_,?_⟩<;>(simp only [cfL];omega)
theorem check_L {a b o:Nat} (ha:a<256) (hb:b<256) (ho:o<256):Rou.checkB [rb1] 0 4 ((1+a:Nat):Int) ((1+b:Nat):Int) 3 300 ((1+o:Nat):Int) 5 9 3 4=true:=by
 unfold Rou.checkB
 rw [rb1_rs,show (Rou.spansL 4 ((1+a:Nat):Int) ((1+b:Nat):Int) 3 300 ((1+o:Nat):Int) 5 9 3 4).any Rou.outB=false from by
  rw [List.any_eq_false]
  intro x hx
  unfold Rou.spansL at hx
  simp only [List.mem_cons,List.not_mem_nil,or_false] at hx
  unfold Rou.outB
  rcases hx with rfl | rfl | rfl | rfl | rfl | rfl | rfl | rfl | rfl | rfl<;>simp<;>omega]
 rfl
theorem rts_one {W:World} {g:Nat} (h:W.heap[g]? = some (.cells #[.string {data:=#[47]},.string {data:=#[]},.string {data:=#[120]}] 72 (0,0))):Rou.RtsAt W (.slice (some ⟨g,0,none⟩) 1 1) [rb1]:=by
 refine ⟨_,1,g,0,rfl,Nat.le_refl _,fun _=>rfl,fun i hi j hj=>?_⟩
 obtain rfl:i=0:=by simpa using hi
 rw [cell_of_row _ _ _ _ _ _ h]
 have h3:j=0∨j=1∨j=2:=by omega
 rcases h3 with rfl | rfl | rfl<;>rfl
theorem ret_cfg {fn:Func} {p:Tmp} (h:fn.results=#[.cell p 25]) (tmps:Array Value) (w:World) (g:Nat) (cs:Array Value)
 (hp:tmps.getD p undef=.pointer (some ⟨g,0,none⟩)) (hg:w.heap[g]? = some (.cells cs 25 (0,0))) (hs:cs.size=12) :
 (results fn tmps).run Tryz.prog w=.ok (.agg cs) w:=by
 have hi:(Tryz.prog.info? 25).map (·.size)=some cs.size:=by rw [hs];kernel_rfl
 have hp':tmps[p]?.getD undef=.pointer (some ⟨g,0,none⟩):=by simpa using hp
 simp only [results,h]
 simp [Result.andThen,hp',asAddr,run_loadVar_row (P:=Tryz.prog) w g 25 25 cs (0,0) _ hg Tryz.underlying25 rfl hi]
set_option maxHeartbeats 4000000 in
theorem cfg_any (a b o:Nat) (ha:a<256) (hb:b<256) (ho:o<256) (W:World) :
 Calls Tryz.prog 19 #[.int .u8 (a:Int),.int .u8 (b:Int),.int .u8 (o:Int)] W fun e w'=>∃ g,e=.returned (.agg #[.slice (some ⟨g,0,none⟩) 1 1,.slice none 0 0,.int .i64 4,.int .i64 ((1+a:Nat):Int),.int .i64 ((1+b:Nat):Int),.int .i64 3,.int .i64 300,.int .i64 ((1+o:Nat):Int),.int .i64 5,.int .i64 9,.int .i64 3,.int .i64 4])∧Sl (w'.heap[g]? = some (.cells #[.string {data:=#[47]},.string {data:=#[]},.string {data:=#[120]}] 72 (0,0))∧W.heap.size≤g)∧Sl (Below W.heap.size W w'):=by
 have q1:((1+a:Nat):Int)=1+(a:Int):=by omega
 have q2:((1+b:Nat):Int)=1+(b:Int):=by omega
 have q3:((1+o:Nat):Int)=1+(o:Int):=by omega
 rw [q1,q2,q3]
 clear q1 q2 q3
 go_enter Tryz.func19,Tryz.ntmps19
 go_wp2
 (try simp only [Exit.inBlock,Exit.then])
 refine bodyPost_ret (ret_cfg rfl _ _ W.heap.size _ rfl (below_key (alloc_new W _ _ rfl) ((Below.refl _ _).alloc (Nat.le_refl _) _)) rfl) rfl ?_
 exact ⟨W.heap.size+1,rfl,⟨(by have:=alloc_new (W.alloc (.cells #[.slice (some ⟨W.heap.size+1,0,none⟩) 1 1,.slice none 0 0,.int .i64 4,.int .i64 (1+(a:Int)),.int .i64 (1+(b:Int)),.int .i64 3,.int .i64 300,.int .i64 (1+(o:Int)),.int .i64 5,.int .i64 9,.int .i64 3,.int .i64 4] 25)) (.cells #[.string {data:=#[47]},.string {data:=#[]},.string {data:=#[120]}] 72) (W.heap.size+1) (by simp);exact this),Nat.le_succ _⟩,⟨((Below.refl _ _).alloc (Nat.le_refl _) _).alloc (by simp) _⟩⟩
set_option maxHeartbeats 2000000 in
theorem few_any (kind op code n:Int) (s:ByteArray) (W:World) (r:Bool) (hr:decide (s.size≤300)=r) :
 Calls Tryz.prog 16 #[(.agg #[.int .i64 kind,.int .i64 op,.int .i64 code,.int .i64 n,.string s])] W fun e w'=>e=.returned (.bool r)∧Sl (Below W.heap.size W w'):=by
 subst hr
 obtain ⟨wa,hwa,HB,hx⟩:∃ V,W.alloc (.cells #[.int .i64 kind,.int .i64 op,.int .i64 code,.int .i64 n,.string s] 40)=V∧Below W.heap.size W V∧V.heap[W.heap.size]? = some (.cells #[.int .i64 kind,.int .i64 op,.int .i64 code,.int .i64 n,.string s] 40 (0,0)):=⟨_,rfl,(Below.refl _ _).alloc (Nat.le_refl _) _,alloc_new _ _ _ rfl⟩
 have k4:=Rou.cell_at hx 4 _ rfl
 have hq:decide ((s.size:Int)≤300)=decide (s.size≤300):=by
  by_cases h:s.size≤300
  ·rw [decide_eq_true h,decide_eq_true (by omega)]
  ·rw [decide_eq_false h,decide_eq_false (by omega)]
 go_enter Tryz.func16,Tryz.ntmps16
 go_upto_region 1 with fail
 (try rw [hwa])
 clear hwa
 go_wp2
 go_ret
 exact ⟨by rw [← hq];rfl,⟨HB⟩⟩
end Go.Proofs.YtlahonjmfecikaaGreatDoor.Leg
set_option maxRecDepth 100000
namespace Go.Proofs.YtlahonjmfecikaaGreatDoor.Leg
open Go.RowKit Stm
open FramePlain (Fr Fr0)
open LegPlain (Cf Lg)
open Msg (Kept MacS Mine)
open LegPlain (Inv Few CfOk Good came evs errs react bound feed fail L0 takeN pend)
open MsgPlain (Ev Ms M0)
open Evt
structure G3 (w:World):Prop where
 h:_root_.Go.Proofs.YtlahonjmfecikaaGreatDoor.Globs w
 m:Mas.Globs w
 u:Utf.Globs w
theorem FGoes.ge {W W':World} {S S':Nat→Prop} (g:FGoes W W' S S') {B:Nat} (h:∀ j,S j→B≤j) (hB:B≤W.heap.size):∀ j,S' j→B≤j:=fun j e=>by
 rcases g.mine j e with h1 | h1
 ·exact h j h1
 ·omega
theorem cfg_L {a b o:Nat} (ha:a<256) (hb:b<256) (ho:o<256) {i1 i2 i3:Int} (h1:((1+a:Nat):Int)=i1) (h2:((1+b:Nat):Int)=i2) (h3:((1+o:Nat):Int)=i3) {x1 x2 x3:Int} (e1:(a:Int)=x1) (e2:(b:Int)=x2) (e3:(o:Int)=x3) (W:World) :
 Calls Tryz.prog 19 #[.int .u8 x1,.int .u8 x2,.int .u8 x3] W fun e w'=>∃ g,e=.returned (.agg #[.slice (some ⟨g,0,none⟩) 1 1,.slice none 0 0,.int .i64 4,.int .i64 i1,.int .i64 i2,.int .i64 3,.int .i64 300,.int .i64 i3,.int .i64 5,.int .i64 9,.int .i64 3,.int .i64 4])∧Sl (w'.heap[g]? = some (.cells #[.string {data:=#[47]},.string {data:=#[]},.string {data:=#[120]}] 72 (0,0))∧W.heap.size≤g)∧Sl (Below W.heap.size W w'):=by
 subst h1 h2 h3 e1 e2 e3;exact cfg_any a b o ha hb ho W
theorem new_L {a b o:Nat} (ha:a<256) (hb:b<256) (ho:o<256) {i1 i2 i3:Int} (h1:((1+a:Nat):Int)=i1) (h2:((1+b:Nat):Int)=i2) (h3:((1+o:Nat):Int)=i3) (masked:Bool) (d:Nat) (hd:d<4294967296) {x:Int} (hx:(d:Int)=x) {w0 W:World} (hG:G3 w0) (hB:Below w0.heap.size w0 W) {g:Nat} (hv:Rou.RtsAt W (.slice (some ⟨g,0,none⟩) 1 1) [rb1]) :
 Calls Tryz.prog 13 #[.agg #[.slice (some ⟨g,0,none⟩) 1 1,.slice none 0 0,.int .i64 4,.int .i64 i1,.int .i64 i2,.int .i64 3,.int .i64 300,.int .i64 i3,.int .i64 5,.int .i64 9,.int .i64 3,.int .i64 4],.bool masked,.int .u32 x] W fun e w'=>∃ L S,e=.returned (.tuple #[.pointer (some ⟨L,0,none⟩),.int .i64 0])∧Sl (LegH w0 w' L S (cfL a b o masked) (L0 d) 0)∧Sl (Below W.heap.size W w')∧Sl (∀ j,S j→W.heap.size≤j):=by
 subst h1 h2 h3 hx
 exact new_ex [rb1] _ 1 1 none 0 0 4 3 300 5 9 3 4 (cfL a b o masked) d hd w0 W hB ⟨hG.m,hG.u⟩ (hG.h.of hB) hv rb1_ok (by decide) (cfL_ok ha hb ho masked) (check_L ha hb ho)
def ca:Cf:=cfL 99 49 99 true
theorem wk1:LegPlain.free (L0 7)=true:=by decide +kernel
theorem wk2:feed ca (L0 7) [129,0]=((feed ca (L0 7) [129,0]).1,[]):=Prod.ext rfl (show (feed ca (L0 7) [129,0]).2=[] by decide +kernel)
def la:Lg:=(feed ca (L0 7) [129,0]).1
def lb:Lg:=(takeN ca la 100).1
theorem wk3:la.ring.take (100:Int).toNat=[136,2,3,234]:=by decide +kernel
theorem wk4:(lb.wrong:Int)=100:=by decide +kernel
theorem wk5:lb.sent=true:=by decide +kernel
theorem wk6:lb.got=false:=by decide +kernel
theorem wk7:decide (lb.ring=[])=true:=by decide +kernel
theorem wk8:lb.buf.length+lb.ms.text.length=0:=by decide +kernel
theorem wk9 (o:Int) (d:List Nat):LegPlain.send ca lb o d=(lb,false):=by
 unfold LegPlain.send
 rw [if_neg (fun e=>absurd e.1 (by decide +kernel))]
theorem wk10 (d:List Nat):LegPlain.ping ca lb d=(lb,false):=by
 unfold LegPlain.ping
 rw [if_pos (.inl wk5)]
theorem wk11 (k:Int) (d:List Nat):LegPlain.close ca lb k d=(lb,false):=by
 unfold LegPlain.close
 rw [if_pos (.inl wk5)]
theorem wk12:lb.ring.take (9:Int).toNat=[]:=by decide +kernel
theorem wk13:strOf [136,2,3,234]=⟨#[136,2,3,234]⟩:=by decide +kernel
set_option maxHeartbeats 16000000 in
theorem awake_any {w0:World} (W:World) (hG:G3 w0) (hB:Below w0.heap.size w0 W):Calls Tryz.prog 11 #[] W fun e w'=>e=.returned (.bool true)∧Sl (Below W.heap.size W w'):=by
 obtain ⟨i1,h1⟩:∃ i:Int,((1+99:Nat):Int)=i:=⟨_,rfl⟩
 obtain ⟨i2,h2⟩:∃ i:Int,((1+49:Nat):Int)=i:=⟨_,rfl⟩
 have CF:=cfg_L (a:=99) (b:=49) (o:=99) (by decide) (by decide) (by decide) h1 h2 h1 (x1:=99) (x2:=49) (x3:=99) rfl rfl rfl W
 have NW:Sl (∀ V g,Below w0.heap.size w0 V→Rou.RtsAt V (.slice (some ⟨g,0,none⟩) 1 1) [rb1]→Calls Tryz.prog 13 #[.agg #[.slice (some ⟨g,0,none⟩) 1 1,.slice none 0 0,.int .i64 4,.int .i64 i1,.int .i64 i2,.int .i64 3,.int .i64 300,.int .i64 i1,.int .i64 5,.int .i64 9,.int .i64 3,.int .i64 4],.bool true,.int .u32 7] V fun e w'=>∃ L S,e=.returned (.tuple #[.pointer (some ⟨L,0,none⟩),.int .i64 0])∧Sl (LegH w0 w' L S ca (L0 7) 0)∧Sl (Below V.heap.size V w')∧Sl (∀ j,S j→V.heap.size≤j)):=⟨fun V g hV hv=>new_L (a:=99) (b:=49) (o:=99) (by decide) (by decide) (by decide) h1 h2 h1 true 7 (by decide) rfl hG hV hv⟩
 have HB:=Sl.mk hB
 obtain ⟨B,hBB⟩:∃ b,W.heap.size=b:=⟨_,rfl⟩
 have HBB:=Sl.mk hBB
 clear h1 h2 hG hB hBB
 go_enter Tryz.func11,Tryz.ntmps11
 go_wp2_with fail
 refine CF.mono ?_
 rintro e w1 ⟨g,rfl,HV,HB1⟩
 have NW1:=NW.out w1 g (HB.out.trans (HB1.out.mono HB.out.size)) (rts_one HV.out.1)
 clear CF NW
 go_wp2_with fail
 refine NW1.mono ?_
 rintro e w2 ⟨L,S,rfl,HL,HB2,HS⟩
 clear NW1
 have HB3:Sl (Below B W w2):=⟨by rw [← HBB.out];exact HB1.out.trans (HB2.out.mono HB1.out.size)⟩
 have HS3:Sl ((∀ j,S j→B≤j)∧B≤w2.heap.size):=⟨fun j e=>by have:=HS.out j e;have:=HB1.out.size;have:=HBB.out;omega,by have:=HB3.out.size;have:=HBB.out;omega⟩
 clear HB1 HB2 HV HS
 have FR:=free_ex HL.out true wk1
 go_wp2_with fail
 refine FR.mono ?_
 rintro e w2' ⟨rfl,rfl⟩
 clear FR
 obtain ⟨X,hX⟩:∃ V,w2.alloc (.cells #[.int .u8 129,.int .u8 0] 5)=V:=⟨_,rfl⟩
 have hXB:Below w2.heap.size w2 X:=by rw [← hX];exact (Below.refl _ _).alloc (Nat.le_refl _) _
 have hXR:RowB X w2.heap.size [129,0]:=by rw [← hX];exact alloc_new _ _ _ rfl
 have FD:=feed_ex (HL.out.below hXB) (.slice (some ⟨w2.heap.size,0,none⟩) 2 2) [129,0] hXR.src (by intro y hy;simp at hy;rcases hy with rfl | rfl<;>decide) (by decide) _ _ wk2
 have HB4:Sl (Below B W X):=⟨HB3.out.trans (hXB.mono HS3.out.2)⟩
 have HS4:Sl ((∀ j,S j→B≤j)∧B≤X.heap.size):=⟨HS3.out.1,Nat.le_trans HS3.out.2 hXB.size⟩
 clear hXB hXR HB3 HS3 HL
 go_wp2_with fail
 (try rw [hX])
 refine FD.mono ?_
 rintro e w3 ⟨S3,rv,rfl,HO3,HL3,HG3,-⟩
 clear FD hX
 obtain ⟨fa,fc,rfl⟩:∃ a c,rv=.slice a 0 c:=by obtain ⟨a,c,e⟩:=HO3.out.slice;exact ⟨a,c,e⟩
 have HB5:Sl (Below B W w3):=⟨HG3.out.up HB4.out HS4.out.1 HS4.out.2⟩
 have HS5:Sl ((∀ j,S3 j→B≤j)∧B≤w3.heap.size):=⟨HG3.out.ge HS4.out.1 HS4.out.2,Nat.le_trans HS4.out.2 HG3.out.kept.size⟩
 clear HB4 HS4 HG3 HO3
 have TK:=take_ex HL3.out 100 [136,2,3,234] wk3 4 rfl lb rfl
 go_wp2_with fail
 refine TK.mono ?_
 rintro e w4 ⟨S4,rfl,HR4,HL4,HG4⟩
 clear TK HL3
 have HB6:Sl (Below B W w4):=⟨HG4.out.up HB5.out HS5.out.1 HS5.out.2⟩
 have HS6:Sl ((∀ j,S4 j→B≤j)∧B≤w4.heap.size):=⟨HG4.out.ge HS5.out.1 HS5.out.2,Nat.le_trans HS5.out.2 HG4.out.kept.size⟩
 clear HB5 HS5 HG4
 have CV:=HR4.out.str (k:=4) rfl
 rw [wk13] at CV
 have C1:=wrong_ex HL4.out 100 wk4
 go_wp2_with fail
 refine C1.mono ?_
 rintro e w5 ⟨rfl,rfl⟩
 clear C1 CV HR4
 have C1:=sent_ex HL4.out true wk5
 go_wp2_with fail
 refine C1.mono ?_
 rintro e w5 ⟨rfl,rfl⟩
 clear C1
 have C1:=got_ex HL4.out false wk6
 go_wp2_with fail
 refine C1.mono ?_
 rintro e w5 ⟨rfl,rfl⟩
 clear C1
 have C1:=quiet_ex HL4.out true wk7
 go_wp2_with fail
 refine C1.mono ?_
 rintro e w5 ⟨rfl,rfl⟩
 clear C1
 have C1:=kept_ex HL4.out 0 wk8 (by decide)
 go_wp2_with fail
 refine C1.mono ?_
 rintro e w5 ⟨rfl,HB7⟩
 clear C1
 have HL5:=Sl.mk (HL4.out.below HB7.out)
 have HB8:Sl (Below B W w5):=⟨HB6.out.trans (HB7.out.mono HS6.out.2)⟩
 have HS8:Sl ((∀ j,S4 j→B≤j)∧B≤w5.heap.size):=⟨HS6.out.1,Nat.le_trans HS6.out.2 HB7.out.size⟩
 clear HL4 HB6 HS6 HB7
 have C1:=send_ex HL5.out 1 0 {data:=#[]} lb false (wk9 _ _)
 go_wp2_with fail
 refine C1.mono ?_
 rintro e w6 ⟨S6,rfl,HL6,HG6⟩
 clear C1 HL5
 have HB9:Sl (Below B W w6):=⟨HG6.out.up HB8.out HS8.out.1 HS8.out.2⟩
 have HS9:Sl ((∀ j,S6 j→B≤j)∧B≤w6.heap.size):=⟨HG6.out.ge HS8.out.1 HS8.out.2,Nat.le_trans HS8.out.2 HG6.out.kept.size⟩
 clear HB8 HS8 HG6
 have C1:=ping_ex HL6.out {data:=#[]} (by decide) (by decide) lb false (wk10 _)
 go_wp2_with fail
 refine C1.mono ?_
 rintro e w7 ⟨S7,rfl,HL7,HG7⟩
 clear C1 HL6
 have HB10:Sl (Below B W w7):=⟨HG7.out.up HB9.out HS9.out.1 HS9.out.2⟩
 have HS10:Sl ((∀ j,S7 j→B≤j)∧B≤w7.heap.size):=⟨HG7.out.ge HS9.out.1 HS9.out.2,Nat.le_trans HS9.out.2 HG7.out.kept.size⟩
 clear HB9 HS9 HG7
 have C1:=close_ex HL7.out 1000 {data:=#[]} lb false (wk11 _ _)
 go_wp2_with fail
 refine C1.mono ?_
 rintro e w8 ⟨S8,rfl,HL8,HG8⟩
 clear C1 HL7
 have HB11:Sl (Below B W w8):=⟨HG8.out.up HB10.out HS10.out.1 HS10.out.2⟩
 have HS11:Sl ((∀ j,S8 j→B≤j)∧B≤w8.heap.size):=⟨HG8.out.ge HS10.out.1 HS10.out.2,Nat.le_trans HS10.out.2 HG8.out.kept.size⟩
 clear HB10 HS10 HG8
 have C1:=peek_ex HL8.out 9 [] wk12 0 rfl
 go_wp2_with fail
 refine C1.mono ?_
 rintro e w9 ⟨rfl,-,HB12⟩
 clear C1 HL8
 go_wp2
 go_ret
 exact ⟨rfl,⟨by rw [HBB.out];exact HB11.out.trans (HB12.out.mono HS11.out.2)⟩⟩
end Go.Proofs.YtlahonjmfecikaaGreatDoor.Leg
set_option maxRecDepth 100000
namespace Go.Proofs.YtlahonjmfecikaaGreatDoor.Leg
open Go.RowKit Stm
open FramePlain (Fr Fr0)
open LegPlain (Cf Lg)
open Msg (Kept MacS Mine)
open LegPlain (Inv Few CfOk Good came evs errs react bound feed fail L0 takeN pend)
open MsgPlain (Ev Ms M0)
open Evt
structure Drain (l m:Lg) (s:List Nat):Prop where
 keep:LegPlain.Keep l m
 sent:m.sent=l.sent
 said:m.said=l.said
 last:m.last=l.last
 gone:m.gone=l.gone++s
theorem Drain.refl (l:Lg):Drain l l []:=⟨⟨rfl,rfl,rfl,rfl,rfl⟩,rfl,rfl,rfl,(List.append_nil _).symm⟩
theorem mv_gone (c:Cf):∀ (k:Nat) (x:Lg),(LegPlain.mv c k x).gone=x.gone
 | 0,l=>rfl
 | k+1,l=>by
   unfold LegPlain.mv
   split
   ·rfl
   ·split
    ·exact mv_gone c k _
    ·exact mv_gone c k _
    ·rfl
theorem drain_take (c:Cf) (l:Lg) (n:Int):Drain l (takeN c l n).1 (l.ring.take n.toNat):=by
 have hk:=LegPlain.take_keep c l n
 have h:=LegPlain.mv_keep c (l.ctl.length+l.rest.length) {l with gone:=l.gone++l.ring.take n.toNat,ring:=l.ring.drop n.toNat}
 exact ⟨hk,h.2.1,h.2.2.1,h.2.2.2,mv_gone c _ _⟩
theorem Drain.trans {l m n:Lg} {s t:List Nat} (h:Drain l m s) (k:Drain m n t):Drain l n (s++t) :=
 ⟨⟨k.keep.got.trans h.keep.got,k.keep.wrong.trans h.keep.wrong,k.keep.buf.trans h.keep.buf,k.keep.serr.trans h.keep.serr,k.keep.ms.trans h.keep.ms⟩,k.sent.trans h.sent,k.said.trans h.said,k.last.trans h.last,by rw [k.gone,h.gone,List.append_assoc]⟩
end Go.Proofs.YtlahonjmfecikaaGreatDoor.Leg
set_option maxRecDepth 100000
namespace Go.Proofs.YtlahonjmfecikaaGreatDoor.Leg
open Go.RowKit Stm
open FramePlain (Fr Fr0)
open LegPlain (Cf Lg)
open Msg (Kept MacS Mine)
open LegPlain (Inv Few CfOk Good came evs errs react bound feed fail L0 takeN pend wts)
open MsgPlain (Ev Ms M0)
open Evt
theorem getD_small8 {l:List Nat} (h:Small 256 l) (i:Nat):l.getD i 0<256:=LegPlain.getD_small h i
end Go.Proofs.YtlahonjmfecikaaGreatDoor.Leg
set_option maxRecDepth 100000
namespace Go.Proofs.YtlahonjmfecikaaGreatDoor.Leg
open Go.RowKit Go.WideShapes Go.ChangeShapes Evt
theorem agg_of_cells8 {v:Value} {l:List Value} (h:v.cells.toList=l) (hl:l.length≠1):v=.agg l.toArray:=by
 subst h
 cases v with
 | agg cs=>simp [Value.cells]
 | _=>exact absurd rfl hl
theorem sizes_of_trod {H:Type} {enc:TypeId×Value→H} {W:World} {v:Value} {d:DataW H} {p:List MemPlace} (h:DataW.Trod enc Tryz.prog W 0 (fun _=>true) true 45 v d p) :
 ∃ a b o:Nat,v=.agg #[.int .u8 (a:Int),.int .u8 (b:Int),.int .u8 (o:Int)]∧a<256∧b<256∧o<256:=by
 obtain ⟨fuel,hf⟩:=h
 obtain ⟨xs,n,_,hx,hl,hlen,hf⟩:=DataW.trod_array Tryz.underlying45 hf
 have c22:Tryz.prog.cellsOf 45=3:=by kernel_rfl
 have c5:Tryz.prog.cellsOf 5=1:=by kernel_rfl
 rw [c22] at hl
 rw [c5] at hf
 match hcs:v.cells.toList,hl with
 | [a0,a1,a2],_ =>
   have e:=agg_of_cells8 hcs (by simp)
   match xs,hlen with
   | [y0,y1,y2],_ =>
     rw [hcs] at hf
     obtain ⟨z0,g0,_,w0⟩:=DataW.trod_int Tryz.underlying5 (hf 0 (by decide))
     obtain ⟨z1,g1,_,w1⟩:=DataW.trod_int Tryz.underlying5 (hf 1 (by decide))
     obtain ⟨z2,g2,_,w2⟩:=DataW.trod_int Tryz.underlying5 (hf 2 (by decide))
     simp at g0 g1 g2
     subst g0 g1 g2
     have b0:=bounds_u8 w0
     have b1:=bounds_u8 w1
     have b2:=bounds_u8 w2
     obtain ⟨n0,rfl⟩:=Int.eq_ofNat_of_zero_le b0.1
     obtain ⟨n1,rfl⟩:=Int.eq_ofNat_of_zero_le b1.1
     obtain ⟨n2,rfl⟩:=Int.eq_ofNat_of_zero_le b2.1
     exact ⟨n0,n1,n2,e,by omega,by omega,by omega⟩
end Go.Proofs.YtlahonjmfecikaaGreatDoor.Leg
set_option maxRecDepth 100000
namespace Go.Proofs.YtlahonjmfecikaaGreatDoor.Leg
open Go.RowKit Go.WideShapes Go.ChangeShapes Evt
structure Ac where
 kind:Int
 op:Int
 code:Int
 n:Int
 s:ByteArray
def Ac0:Ac:=⟨0,0,0,0,ByteArray.empty⟩
def ac (x:Ac):List Value:=[.int .i64 x.kind,.int .i64 x.op,.int .i64 x.code,.int .i64 x.n,.string x.s]
structure AcOk (x:Ac):Prop where
 s:x.s.size≤maxLen
 n:-9223372036854775808≤x.n∧x.n≤9223372036854775807
def ActsAt (W:World) (v:Value) (es:List Ac):Prop :=
 ∃ (a:Option Addr) (cap sb so:Nat),v=.slice a es.length cap∧es.length≤cap∧(0<es.length→a=some ⟨sb,so,none⟩)∧∀ i,i<es.length→∀ j,j<5→W.cell? ⟨sb,so+i*5+j,none⟩=(ac (es.getD i Ac0))[j]?
theorem list5 {α:Type} {l:List α} (h:l.length=5):∃ a b c d e,l=[a,b,c,d,e] :=
 match l,h with
 | [a,b,c,d,e],_=>⟨a,b,c,d,e,rfl⟩
theorem ac_of_trod {H:Type} {enc:TypeId×Value→H} {W:World} {base fuel:Nat} {sp:Nat→Bool} {held:Bool} {cs:List Value} {x:DataW H×List MemPlace}
 (hf:DataW.trod enc Tryz.prog W base sp held fuel 40 cs=some x):∃ e,cs=ac e∧AcOk e:=by
 obtain ⟨xs,n,_,hx,hl,hxl,hf⟩:=DataW.trod_struct Tryz.underlying40 hf
 have c3:Tryz.prog.cellsOf 3=1:=by kernel_rfl
 have c9:Tryz.prog.cellsOf 9=1:=by kernel_rfl
 have cf:Tryz.prog.cellsOf 40=5:=by kernel_rfl
 rw [cf] at hl
 match xs,hxl with
 | [y0,y1,y2,y3,y4],_ =>
   have h0:DataW.trod enc Tryz.prog W base sp held n 3 ((cs.drop 0).take (Tryz.prog.cellsOf 3))=some y0:=hf 0 _ rfl
   have h1:DataW.trod enc Tryz.prog W base sp held n 3 ((cs.drop 1).take (Tryz.prog.cellsOf 3))=some y1:=hf 1 _ rfl
   have h2:DataW.trod enc Tryz.prog W base sp held n 3 ((cs.drop 2).take (Tryz.prog.cellsOf 3))=some y2:=hf 2 _ rfl
   have h3:DataW.trod enc Tryz.prog W base sp held n 3 ((cs.drop 3).take (Tryz.prog.cellsOf 3))=some y3:=hf 3 _ rfl
   have h4:DataW.trod enc Tryz.prog W base sp held n 9 ((cs.drop 4).take (Tryz.prog.cellsOf 9))=some y4:=hf 4 _ rfl
   obtain ⟨a0,a1,a2,a3,a4,hcs⟩:=list5 hl
   rw [hcs] at h0 h1 h2 h3 h4
   rw [c3] at h0 h1 h2 h3
   rw [c9] at h4
   simp only [List.drop_zero,List.drop_succ_cons,List.take_succ_cons,List.take_zero] at h0 h1 h2 h3 h4
   obtain ⟨f0,g0,_,w0⟩:=DataW.trod_int Tryz.underlying3 h0
   obtain ⟨f1,g1,_,w1⟩:=DataW.trod_int Tryz.underlying3 h1
   obtain ⟨f2,g2,_,w2⟩:=DataW.trod_int Tryz.underlying3 h2
   obtain ⟨f3,g3,_,w3⟩:=DataW.trod_int Tryz.underlying3 h3
   obtain ⟨f4,g4,_,w4⟩:=DataW.trod_string Tryz.underlying9 h4
   simp only [List.cons.injEq,and_true] at g0 g1 g2 g3 g4
   subst g0 g1 g2 g3 g4
   exact ⟨⟨f0,f1,f2,f3,f4⟩,hcs,w4,bounds_i64 w3⟩
theorem actsAt_of_trod {H:Type} {enc:TypeId×Value→H} {W:World} {ad:Option Addr} {len cap:Nat} {d:DataW H} {p:List MemPlace} (h:DataW.Trod enc Tryz.prog W 0 (fun _=>true) true 27 (.slice ad len cap) d p) :
 ∃ l,ActsAt W (.slice ad len cap) l∧(∀ e∈l,AcOk e)∧l.length≤maxLen:=by
 obtain ⟨fuel,hf⟩:=h
 have cf:Tryz.prog.cellsOf 40=5:=by kernel_rfl
 rcases DataW.trod_slice Tryz.underlying27 hf with ⟨hcs,_⟩ | ⟨a,len',cap',el,rest,n,_,hcs,_,hb,hl,hm,hz,hcell,_⟩
 ·simp [Value.cells] at hcs
  obtain ⟨rfl,rfl,rfl⟩:=hcs
  exact ⟨[],⟨none,0,0,0,rfl,by simp,fun h=>by simp at h,fun i hi=>by simp at hi⟩,fun f hf=>by simp at hf,by simp⟩
 ·simp [Value.cells] at hcs
  obtain ⟨rfl,rfl,rfl⟩:=hcs
  rw [cf] at hcell
  have hsome:∀ i,i<len→∃ x,el[i]? = some x:=fun i hi=>⟨el[i]'(by omega),List.getElem?_eq_getElem (by omega)⟩
  by_cases h0:len=0
  ·subst h0
   exact ⟨[],⟨some a,cap,0,0,rfl,by simp,fun h=>by simp at h,fun i hi=>by simp at hi⟩,fun f hf=>by simp at hf,by simp⟩
  ·have hspot:a.spot=none:=by
    obtain ⟨x,hx⟩:=hsome 0 (by omega)
    have hc:=hcell 0 (by omega)
    rw [hx,Option.bind_eq_some_iff] at hc
    obtain ⟨cs,hcs,_⟩:=hc
    obtain ⟨_,hlen,hce⟩:=World.cells?_some hcs
    have:=hce 0 (by omega)
    rw [List.getElem?_eq_getElem (by omega)] at this
    simpa [Addr.add] using World.cell?_spot this
   obtain ⟨b,off,spot⟩:=a
   simp only at hspot
   subst hspot
   obtain ⟨l,hll,hp⟩:=list_of Ac0 len (fun i e=>AcOk e∧∀ j,j<5→W.cell? ⟨b,off+i*5+j,none⟩=(ac e)[j]?) (fun i hi=>by
    obtain ⟨x,hx⟩:=hsome i hi
    have hc:=hcell i hi
    rw [hx,Addr.add_mid,Option.bind_eq_some_iff] at hc
    obtain ⟨cs,hcs,hd⟩:=hc
    obtain ⟨_,hlen,hce⟩:=World.cells?_some hcs
    obtain ⟨e,he,hok⟩:=ac_of_trod hd
    subst he
    refine ⟨e,hok,fun j hj=>?_⟩
    have:=hce j hj
    rw [Addr.add_mid] at this
    exact this)
   refine ⟨l,⟨some ⟨b,off,none⟩,cap,b,off,by rw [hll],by rw [hll];omega,fun _=>rfl,fun i hi=>(hp i (by omega)).2⟩,fun e he=>?_,by rw [hll];omega⟩
   obtain ⟨i,hi,rfl⟩:=List.getElem_of_mem he
   have:=(hp i (by omega)).1
   rwa [List.getD_eq_getElem?_getD,List.getElem?_eq_getElem hi] at this
end Go.Proofs.YtlahonjmfecikaaGreatDoor.Leg
set_option maxRecDepth 100000
namespace Go.Proofs.YtlahonjmfecikaaGreatDoor.Leg
open Go.RowKit Stm
open FramePlain (Fr Fr0)
open LegPlain (Cf Lg)
open Msg (Kept MacS Mine)
open LegPlain (Inv Few CfOk Good came evs errs react bound feed fail L0 takeN pend wts)
open MsgPlain (Ev Ms M0)
open Evt
theorem acts_at {W w:World} {sb so:Nat} {xs:List Ac} (h:∀ i,i<xs.length→∀ j,j<5→w.cell? ⟨sb,so+i*5+j,none⟩=(ac (xs.getD i Ac0))[j]?) (hB:Below w.heap.size w W) (i:Nat) (hi:i<xs.length) {kind op code num:Int} {s:ByteArray} (ha:xs.getD i Ac0=⟨kind,op,code,num,s⟩) :
 W.cell? ⟨sb,so+i*5,none⟩=some (.int .i64 kind)∧W.cell? ⟨sb,so+i*5+1,none⟩=some (.int .i64 op)∧W.cell? ⟨sb,so+i*5+2,none⟩=some (.int .i64 code)∧W.cell? ⟨sb,so+i*5+3,none⟩=some (.int .i64 num)∧W.cell? ⟨sb,so+i*5+4,none⟩=some (.string s):=by
 have g:∀ j v,j<5→(ac ⟨kind,op,code,num,s⟩)[j]? = some v→W.cell? ⟨sb,so+i*5+j,none⟩=some v:=fun j v hj hv=>by
  have h1:=h i hi j hj
  rw [ha,hv] at h1
  rw [hB.cell (p:=⟨sb,so+i*5+j,none⟩) (block_lt_of_cell h1)]
  exact h1
 exact ⟨g 0 _ (by omega) rfl,g 1 _ (by omega) rfl,g 2 _ (by omega) rfl,g 3 _ (by omega) rfl,g 4 _ (by omega) rfl⟩
theorem act_cells {W:World} {g:Nat} {kind op code num:Int} {s:ByteArray} (h:W.heap[g]? = some (.cells #[.int .i64 kind,.int .i64 op,.int .i64 code,.int .i64 num,.string s] 40 (0,0))):W.cell? ⟨g,0,none⟩=some (.int .i64 kind)∧W.cell? ⟨g,1,none⟩=some (.int .i64 op)∧W.cell? ⟨g,2,none⟩=some (.int .i64 code)∧W.cell? ⟨g,3,none⟩=some (.int .i64 num)∧W.cell? ⟨g,4,none⟩=some (.string s):=by
 refine ⟨?_,?_,?_,?_,?_⟩<;>(rw [cell_of_row _ _ _ _ _ _ h];rfl)
theorem take_pend2 {c:Cf} (hf:c.frm≤65536) {l:Lg} (h:LegPlain.Low c l) (n:Int):pend (takeN c l n).1+(l.ring.take n.toNat).length≤pend l:=by
 obtain ⟨h1,_,_⟩:=LegPlain.move_low hf (l:={l with gone:=l.gone++l.ring.take n.toNat,ring:=l.ring.drop n.toNat}) h.ctl h.rest h.tail
 have hp:pend {l with gone:=l.gone++l.ring.take n.toNat,ring:=l.ring.drop n.toNat}=l.ring.length-n.toNat+l.tail.length+wts l.ctl+wts l.rest:=by
  show (l.ring.drop n.toNat).length+_+_+_=_
  rw [List.length_drop]
 have hq:pend l=l.ring.length+l.tail.length+wts l.ctl+wts l.rest:=rfl
 have hr:(l.ring.take n.toNat).length=min n.toNat l.ring.length:=List.length_take ..
 show pend (LegPlain.move c _)+_≤_
 omega
theorem gone_small {c:Cf} (hf:c.frm≤65536) {l:Lg} (h:LegPlain.Ok c l):∀ y∈l.gone++l.ring,y<256:=fun y hy=>by
 have h1:=(LegPlain.all_out hf l.hist h.inv.hist).2
 rw [← h.inv.bytes] at h1
 exact h1 y (List.mem_append_left _ hy)
end Go.Proofs.YtlahonjmfecikaaGreatDoor.Leg
set_option maxRecDepth 100000
namespace Go.Proofs.YtlahonjmfecikaaGreatDoor.Fra
open Go.RowKit MaskPlain FramePlain Mas
theorem index_at {W:World} {ev:Operand→Value} {o:Oper} {x y:Operand} {s:ByteArray} {L:List Nat} {i l:Nat} (ho:o.op=.index 9 x y) (hx:ev x=.string s) (hy:ev y=.int .i64 (i:Int)) (hs:bytes s=L∧i<L.length) (hl:L.getD i 0=l) :
 (execOp ev o).run Tryz.prog W=.ok (.value (.int .u8 (l:Int))) W:=by
 obtain ⟨hs1,hs2⟩:=hs
 have hz:i<s.size:=by rw [← bytes_length,hs1];exact hs2
 have hb:=bytes_getD s i hz
 rw [hs1,hl] at hb
 subst hb
 simp only [execOp,ho,hx,hy]
 go_simp
 rfl
theorem geq_run {W:World} {ev:Operand→Value} {o:Oper} {x y:Operand} {n:Nat} {r:Bool} (ho:o.op=.binOp .geq 5 x y 5) (hx:ev x=.int .u8 (n:Int)) (hy:ev y=.int .u8 128) (hr:decide (128≤n)=r) :
 (execOp ev o).run Tryz.prog W=.ok (.value (.bool r)) W:=by
 subst hr
 simp only [execOp,ho,hx,hy]
 by_cases h:128≤n
 ·have h2:((n:Int)≥128)=True:=eq_true (by omega)
  rw [decide_eq_true h]
  go_simp
 ·have h2:((n:Int)≥128)=False:=eq_false (by omega)
  rw [decide_eq_false h]
  go_simp
theorem upto_run {W:World} {ev:Operand→Value} {o:Oper} {x y:Operand} {s t:ByteArray} {n:Nat} (ho:o.op=.slice 9 x none (some y) none) (hx:ev x=.string s) (hy:ev y=.int .u64 (n:Int)) (hn:n≤s.size) (ht:s.extract 0 n=t) :
 (execOp ev o).run Tryz.prog W=.ok (.value (.string t)) W:=by
 subst ht
 simp only [execOp,ho,hx,hy,Option.map_some,Option.map_none]
 go_simp
theorem store_key0 {W:World} {ev:Operand→Value} {o:Oper} {x y:Operand} {g:Nat} {c0 c1 c2 c7:Value} {a b c d p q r t:Nat} (ho:o.op=.store 59 x y) (hx:ev x=.pointer (some ⟨g,3,none⟩)) (hy:ev y=.agg #[.int .u8 ((p:Nat):Int),.int .u8 ((q:Nat):Int),.int .u8 ((r:Nat):Int),.int .u8 ((t:Nat):Int)])
 (hg:W.heap[g]? = some (.cells #[c0,c1,c2,.int .u8 ((a:Nat):Int),.int .u8 ((b:Nat):Int),.int .u8 ((c:Nat):Int),.int .u8 ((d:Nat):Int),c7] 61 (0,0))) :
 (execOp ev o).run Tryz.prog W=.ok .skip (W.setRow g #[c0,c1,c2,.int .u8 ((p:Nat):Int),.int .u8 ((q:Nat):Int),.int .u8 ((r:Nat):Int),.int .u8 ((t:Nat):Int),c7]):=by
 have hst:=run_storeCells_at Tryz.prog g 3 61 (u8s [p,q,r,t]) 0 _ W hg (by simp) (u8s_one _)
 have hi:=key_info (key:=[p,q,r,t]) rfl
 cases hq:Tryz.prog.info? 59 with
 | none=>rw [hq] at hi;cases hi
 | some i =>
   have hs:i.size=4:=by rw [hq] at hi;simpa using hi
   unfold execOp
   simp only [ho,hx,hy,Instr.storeAt,Instr.sureAddr,Sem.run_bind,Sem.run_pure,Result.andThen_ok,storeVar,sizeOf,typeInfo]
   simp [Value.cells,hq,hs]
   refine (congrArg (fun r=>Result.andThen r _) hst).trans ?_
   rfl
theorem bad_parts (x:Nat) (h:x<256):(bad x=true↔(x / 16 % 8≠0∨(2<x % 16∧ctl ((x % 16:Nat):Int)=false)∨(ctl ((x % 16:Nat):Int)=true∧decide (128≤x)=false))):=by
 have:∀ c:Fin 256,(bad c.val=true↔(c.val / 16 % 8≠0∨(2<c.val % 16∧ctl ((c.val % 16:Nat):Int)=false)∨(ctl ((c.val % 16:Nat):Int)=true∧decide (128≤c.val)=false))):=by decide +kernel
 exact this ⟨x,h⟩
theorem ctl_eight {n:Nat} (h:ctl (n:Int)=true):8≤n:=by
 unfold ctl at h
 rw [Bool.and_eq_true,decide_eq_true_eq,decide_eq_true_eq] at h
 omega
set_option maxHeartbeats 16000000 in
theorem refgetf_any (s:ByteArray) (most:Int) (w:World) (hs:s.size≤100000) (hmo:most≤9223372036854775807):Calls Tryz.prog 94 #[.string s,.int .i64 most] w fun e w'=>e=.returned (resF (getF (bytes s) most))∧Sl (Below w.heap.size w w'):=by
 obtain ⟨w1,hw1⟩:∃ w1,w.alloc (.cells #[.bool false,.int .i64 0,.bool false,.int .u8 0,.int .u8 0,.int .u8 0,.int .u8 0,.string {data:=#[]}] 61)=w1:=⟨_,rfl⟩
 have HB1:Sl (Below w.heap.size w w1):=⟨by rw [← hw1];exact (bx_below w _).out⟩
 have HZ1:Sl (w1.heap[w.heap.size]? = some (.cells #[.bool false,.int .i64 0,.bool false,.int .u8 0,.int .u8 0,.int .u8 0,.int .u8 0,.string {data:=#[]}] 61 (0,0))):=⟨by rw [← hw1];exact bx_new _ _⟩
 have hbl:=bytes_length s
 have HSM:=Sl.mk (bytes_small s)
 by_cases h0:s.size=0
 ·obtain rfl:s={data:=#[]}:=bytes_inj (List.eq_nil_of_length_eq_zero (by rw [bytes_length];exact h0))
  have HQ:Sl (getF (bytes {data:=#[]}) most=(Fr0,0,90)):=⟨rfl⟩
  clear hs hmo hbl h0
  go_enter Tryz.func94,Tryz.ntmps94
  go_upto_region 2 with fail
  have HI:=fr_info (cs:=#[.bool false,.int .i64 0,.bool false,.int .u8 0,.int .u8 0,.int .u8 0,.int .u8 0,.string {data:=#[]}]) rfl
  go_wp2_with (refine wpList_store_row rfl 61 (.tmp 4) (.tmp 14) rfl w.heap.size #[.bool false,.int .i64 0,.bool false,.int .u8 0,.int .u8 0,.int .u8 0,.int .u8 0,.string {data:=#[]}] rfl rfl 61 #[.bool false,.int .i64 0,.bool false,.int .u8 0,.int .u8 0,.int .u8 0,.int .u8 0,.string {data:=#[]}] HZ1.out HI rfl (fr_all _ _ _ _ _ _ _ _) ?_)
  refine bodyPost_ret (ret_fr rfl _ _ w.heap.size 61 _ (0,0) rfl (setRow_heap _ _ _ _ _ _ HZ1.out) rfl) rfl ?_
  rw [HQ.out]
  exact ⟨rfl,⟨below_setRow HB1.out (Nat.le_refl _) _⟩⟩
 obtain ⟨x,xs,hb⟩:∃ x xs,bytes s=x :: xs:=by
  cases hb:bytes s with
  | nil=>rw [hb] at hbl;exact absurd hbl.symm h0
  | cons x xs=>exact ⟨x,xs,rfl⟩
 rw [hb] at hbl HSM ⊢
 have HBX:=Sl.mk hb
 have HXS:Sl (Small 256 xs):=⟨fun y hy=>HSM.out y (List.mem_cons_of_mem _ hy)⟩
 have h0s:0<s.size:=by omega
 have hx:(s[0]'h0s).toNat=x:=by
  have:=bytes_getD s 0 h0s
  rw [hb,List.getD_cons_zero] at this
  rw [this];rfl
 have hx256:x<256:=HSM.out x (by simp)
 have hse:(s.toList==[])=false:=by
  rw [Bool.eq_false_iff]
  intro h
  rw [beq_bytes,hb] at h
  simp at h
 obtain ⟨fin,hfin⟩:∃ fin,decide (128≤x)=fin:=⟨_,rfl⟩
 have HFIN:=Sl.mk hfin
 have hbp:=bad_parts x hx256
 obtain ⟨o,ho⟩:∃ o,x % 16=o:=⟨_,rfl⟩
 have HO16:=Sl.mk ho
 obtain ⟨q0,hq0⟩:∃ q0,x / 16=q0:=⟨_,rfl⟩
 obtain ⟨r0,hr0⟩:∃ r0,q0 % 8=r0:=⟨_,rfl⟩
 rw [hq0,hr0,ho,hfin] at hbp
 obtain ⟨ct,hct⟩:∃ ct,ctl (o:Int)=ct:=⟨_,rfl⟩
 rw [hct] at hbp
 have bad_iff:=Sl.mk hbp
 have CTI:Sl ((ct=true→8≤x % 16)∧True):=⟨fun h=>by rw [ho];exact ctl_eight (hct.trans h),trivial⟩
 have C15:∀ W,Calls Tryz.prog 124 #[.int .i64 (o:Int)] W fun e w'=>e=.returned (.bool ct)∧W=w':=fun W=>by rw [← hct];exact refcontrol_any (o:Int) W
 have hwx:IntKind.i64.wrap (x:Int)=(x:Int):=by rw [IntKind.wrap_i64];omega
 have hmod:(x:Int) % 16=(o:Int):=by omega
 have htm:Int.tmod (x:Int) 16=(o:Int):=by rw [← hmod,Int.tmod_eq_emod_of_nonneg (by omega)]
 have hdiv:(x:Int) / 16=(q0:Int):=by omega
 have htd:Int.tdiv (x:Int) 16=(q0:Int):=by rw [← hdiv,Int.tdiv_eq_ediv_of_nonneg (by omega)]
 have hmr:(q0:Int) % 8=(r0:Int):=by omega
 have htr:Int.tmod (q0:Int) 8=(r0:Int):=by rw [← hmr,Int.tmod_eq_emod_of_nonneg (by omega)]
 clear hb hbp hct ho hq0 hr0 hfin h0
 go_enter Tryz.func94,Tryz.ntmps94
 go_upto_region 3 with fail
 obtain ⟨Rw,hR⟩:∃ Rw,w1.drew=Rw:=⟨_,rfl⟩
 have HS0:Below w.heap.size w Rw:=by rw [← hR];exact HB1.out.drew
 have HZR:Rw.heap[w.heap.size]? = some (.cells #[.bool false,.int .i64 0,.bool false,.int .u8 0,.int .u8 0,.int .u8 0,.int .u8 0,.string {data:=#[]}] 61 (0,0)):=by rw [← hR];exact HZ1.out
 refine wp_region_noPanic ?_
 refine wp_region_held (S:=fun W=>Below w.heap.size w W) (by kernel_rfl) ?_
 change wpAnyH _ _ _ _ _ _ _ _ w1.drew
 rw [hR]
 clear hR HB1 HZ1
 refine heldTake (d:=some 15) (op:=.move (Operand.tmp 0)) (g:=none) 0 ?v0 rfl (by kernel_rfl) (by kernel_rfl) (by kernel_rfl) (by kernel_rfl) ?y0 HS0 ?_
 case y0=>intro o' ho W hS;simp only [execOp,ho];go_simp;try rfl
 simp only [Act.put,List.setIfInBounds_toArray,List.set_cons_zero,List.set_cons_succ]
 refine heldTake (d:=some 16) (op:=.index 9 (Operand.tmp 15) (Operand.const (Value.int IntKind.i64 0))) (g:=none) 1 (.int .u8 (x:Int)) rfl (by kernel_rfl) (by kernel_rfl) (by kernel_rfl) (by kernel_rfl) ?y1 HS0 ?_
 case y1=>intro o' ho W hS;exact index_at (i:=0) ho (by rfl) (by rfl) ⟨HBX.out,by simp⟩ rfl
 simp only [Act.put,List.setIfInBounds_toArray,List.set_cons_zero,List.set_cons_succ]
 refine heldTake (d:=some 17) (op:=.binOp BinOp.geq 5 (Operand.tmp 16) (Operand.const (Value.int IntKind.u8 128)) 5) (g:=none) 2 (.bool fin) rfl (by kernel_rfl) (by kernel_rfl) (by kernel_rfl) (by kernel_rfl) ?y2 HS0 ?_
 case y2=>intro o' ho W hS;exact geq_run ho (by rfl) (by rfl) HFIN.out
 simp only [Act.put,List.setIfInBounds_toArray,List.set_cons_zero,List.set_cons_succ]
 refine heldTake (d:=some 18) (op:=.move (Operand.tmp 0)) (g:=none) 3 ?v3 rfl (by kernel_rfl) (by kernel_rfl) (by kernel_rfl) (by kernel_rfl) ?y3 HS0 ?_
 case y3=>intro o' ho W hS;simp only [execOp,ho];go_simp;try rfl
 simp only [Act.put,List.setIfInBounds_toArray,List.set_cons_zero,List.set_cons_succ]
 refine heldTake (d:=some 19) (op:=.index 9 (Operand.tmp 18) (Operand.const (Value.int IntKind.i64 0))) (g:=none) 4 (.int .u8 (x:Int)) rfl (by kernel_rfl) (by kernel_rfl) (by kernel_rfl) (by kernel_rfl) ?y4 HS0 ?_
 case y4=>intro o' ho W hS;exact index_at (i:=0) ho (by rfl) (by rfl) ⟨HBX.out,by simp⟩ rfl
 simp only [Act.put,List.setIfInBounds_toArray,List.set_cons_zero,List.set_cons_succ]
 refine heldTake (d:=some 20) (op:=.convert 5 3 (Operand.tmp 19)) (g:=none) 5 ?v5 rfl (by kernel_rfl) (by kernel_rfl) (by kernel_rfl) (by kernel_rfl) ?y5 HS0 ?_
 case y5=>intro o' ho W hS;simp only [execOp,ho];go_simp;try rfl
 simp only [Act.put,List.setIfInBounds_toArray,List.set_cons_zero,List.set_cons_succ]
 refine heldTake (d:=some 21) (op:=.binOp BinOp.rem 3 (Operand.tmp 20) (Operand.const (Value.int IntKind.i64 16)) 3) (g:=none) 6 ?v6 rfl (by kernel_rfl) (by kernel_rfl) (by kernel_rfl) (by kernel_rfl) ?y6 HS0 ?_
 case y6=>intro o' ho W hS;simp only [execOp,ho];go_simp;try rfl
 simp only [Act.put,List.setIfInBounds_toArray,List.set_cons_zero,List.set_cons_succ]
 refine heldTake (d:=some 22) (op:=.build 61 #[(0,Operand.tmp 17),(1,Operand.tmp 21)]) (g:=none) 7 ?v7 rfl (by kernel_rfl) (by kernel_rfl) (by kernel_rfl) (by kernel_rfl) ?y7 HS0 ?_
 case y7=>intro o' ho W hS;simp only [execOp,ho];go_simp;try rfl
 simp only [Act.put,List.setIfInBounds_toArray,List.set_cons_zero,List.set_cons_succ]
 obtain ⟨w2,hw2⟩:∃ W,Rw.alloc (.cells #[.bool false,.int .i64 0,.bool false,.int .u8 0,.int .u8 0,.int .u8 0,.int .u8 0,.string {data:=#[]}] 61)=W:=⟨_,rfl⟩
 obtain ⟨fb,hfb⟩:∃ fb,Rw.heap.size=fb:=⟨_,rfl⟩
 have HB2:Sl (Below w.heap.size w w2):=⟨by rw [← hw2];exact HS0.alloc HS0.size _⟩
 have HF2:w2.heap[fb]? = some (.cells #[.bool false,.int .i64 0,.bool false,.int .u8 0,.int .u8 0,.int .u8 0,.int .u8 0,.string {data:=#[]}] 61 (0,0)):=by rw [← hw2,← hfb];exact bx_new _ _
 have hne:w.heap.size<fb:=by rw [← hfb];exact (Array.getElem?_eq_some_iff.1 HZR).1
 have HZ2:w2.heap[w.heap.size]? = some (.cells #[.bool false,.int .i64 0,.bool false,.int .u8 0,.int .u8 0,.int .u8 0,.int .u8 0,.string {data:=#[]}] 61 (0,0)):=by rw [← hw2,alloc_old _ _ _ (by omega)];exact HZR
 refine heldRunT (d:=some 7) (op:=.alloc 61) (g:=none) (t:=0) 8 (.pointer (some ⟨fb,0,none⟩)) w2 rfl (by kernel_rfl) (by kernel_rfl) ?y8 HB2.out ?_
 case y8=>intro o' ho _;simp only [execOp,ho];go_simp;first | done | (refine ⟨?_,?_⟩<;>first | rw [hfb] | rw [hw2] | rfl) | (rw [hfb];done) | (rw [hw2,hfb];done) | rfl
 simp only [Act.put,List.setIfInBounds_toArray,List.set_cons_zero,List.set_cons_succ]
 obtain ⟨w3,hw3⟩:∃ W,w2.setRow fb #[.bool fin,.int .i64 (o:Int),.bool false,.int .u8 0,.int .u8 0,.int .u8 0,.int .u8 0,.string {data:=#[]}]=W:=⟨_,rfl⟩
 have HB3:Sl (Below w.heap.size w w3):=⟨by rw [← hw3];exact below_setRow HB2.out (by omega) _⟩
 have HF3:Sl (w3.heap[fb]? = some (.cells #[.bool fin,.int .i64 (o:Int),.bool false,.int .u8 0,.int .u8 0,.int .u8 0,.int .u8 0,.string {data:=#[]}] 61 (0,0))):=⟨by rw [← hw3];exact setRow_heap _ _ _ _ _ _ HF2⟩
 have HZ3:Sl (w3.heap[w.heap.size]? = some (.cells #[.bool false,.int .i64 0,.bool false,.int .u8 0,.int .u8 0,.int .u8 0,.int .u8 0,.string {data:=#[]}] 61 (0,0))):=⟨by rw [← hw3,setRow_other _ _ _ _ (by omega)];exact HZ2⟩
 have HFB:=Sl.mk hne
 refine heldStore (d:=none) (op:=.store 61 (Operand.tmp 7) (Operand.tmp 22)) (g:=none) (t:=0) 9 w3 rfl (by kernel_rfl) (by kernel_rfl) ?y9 HB3.out ?_
 case y9=>intro o' ho ht;rw [← hw3];exact store8 ho (by rfl) (by rfl) HF2 ⟨rfl,rfl⟩ (fr_all _ _ _ _ _ _ _ _)
 simp only [Act.put]
 refine wpAnyH_done (by kernel_rfl) ?_ _
 refine NoPanic.normal ?_
 clear HS0 HZR hw2 hfb HB2 HF2 HZ2 hw3
 obtain ⟨e0,e1,e2,e3,e4,e5,e6,e7⟩:=bx8 HF3.out
 by_cases hr0:r0=0
 ·have hqr:((r0:Int) != 0)=false:=by subst hr0;rfl
  by_cases ho2:2<o
  ·have hqo:((o:Int)>2)=True:=eq_true (by omega)
   cases ct with
   | false =>
     have hbad:bad x=true:=bad_iff.out.2 (.inr (.inl ⟨ho2,rfl⟩))
     have HQ:Sl (getF (x :: xs) most=(Fr0,0,91)):=⟨getF_bad most hbad⟩
     go_wp2_with fail
     refine (C15 _).mono ?_
     rintro e' w' ⟨rfl,rfl⟩
     go_upto_region 5 with fail
     have HI:=fr_info (cs:=#[.bool false,.int .i64 0,.bool false,.int .u8 0,.int .u8 0,.int .u8 0,.int .u8 0,.string {data:=#[]}]) rfl
     go_wp2_with (refine wpList_store_row rfl 61 (.tmp 4) (.tmp 50) rfl w.heap.size #[.bool false,.int .i64 0,.bool false,.int .u8 0,.int .u8 0,.int .u8 0,.int .u8 0,.string {data:=#[]}] rfl rfl 61 #[.bool false,.int .i64 0,.bool false,.int .u8 0,.int .u8 0,.int .u8 0,.int .u8 0,.string {data:=#[]}] HZ3.out HI rfl (fr_all _ _ _ _ _ _ _ _) ?_)
     refine bodyPost_ret (ret_fr rfl _ _ w.heap.size 61 _ (0,0) rfl (setRow_heap _ _ _ _ _ _ HZ3.out) rfl) rfl ?_
     rw [HQ.out]
     exact ⟨rfl,⟨below_setRow HB3.out (Nat.le_refl _) _⟩⟩
   | true =>
     cases fin with
     | false =>
       have hbad:bad x=true:=bad_iff.out.2 (.inr (.inr ⟨rfl,rfl⟩))
       have HQ:Sl (getF (x :: xs) most=(Fr0,0,91)):=⟨getF_bad most hbad⟩
       go_wp2_with fail
       refine (C15 _).mono ?_
       rintro e' w' ⟨rfl,rfl⟩
       go_wp2_with fail
       refine (C15 _).mono ?_
       rintro e' w' ⟨rfl,rfl⟩
       go_upto_region 5 with fail
       have HI:=fr_info (cs:=#[.bool false,.int .i64 0,.bool false,.int .u8 0,.int .u8 0,.int .u8 0,.int .u8 0,.string {data:=#[]}]) rfl
       go_wp2_with (refine wpList_store_row rfl 61 (.tmp 4) (.tmp 50) rfl w.heap.size #[.bool false,.int .i64 0,.bool false,.int .u8 0,.int .u8 0,.int .u8 0,.int .u8 0,.string {data:=#[]}] rfl rfl 61 #[.bool false,.int .i64 0,.bool false,.int .u8 0,.int .u8 0,.int .u8 0,.int .u8 0,.string {data:=#[]}] HZ3.out HI rfl (fr_all _ _ _ _ _ _ _ _) ?_)
       refine bodyPost_ret (ret_fr rfl _ _ w.heap.size 61 _ (0,0) rfl (setRow_heap _ _ _ _ _ _ HZ3.out) rfl) rfl ?_
       rw [HQ.out]
       exact ⟨rfl,⟨below_setRow HB3.out (Nat.le_refl _) _⟩⟩
     | true =>
       have hbad:bad x=false:=by
        cases hb:bad x with
        | false=>rfl
        | true=>rcases bad_iff.out.1 hb with h | h | h;exact absurd hr0 h;cases h.2;cases h.2
       go_wp2_with fail
       refine (C15 _).mono ?_
       rintro e' w' ⟨rfl,rfl⟩
       go_wp2_with fail
       refine (C15 _).mono ?_
       rintro e' w' ⟨rfl,rfl⟩
       by_cases hl1:0<xs.length
       ·have hq6:((s.size:Int)>1)=True:=eq_true (by rw [← hbl];simp;omega)
        have h1s':1<s.size:=by rw [← hbl];simp;omega
        obtain ⟨y',hy'⟩:∃ y,xs.getD 0 0=y:=⟨_,rfl⟩
        have hy1':(s[1]'h1s').toNat=y':=by rw [bytes_tail s x xs HBX.out 0 h1s'];exact hy'
        have hy256':y'<256:=by rw [← hy'];exact HXS.out.getD (by omega) 0
        obtain ⟨yr,hyr⟩:∃ yr,y' % 128=yr:=⟨_,rfl⟩
        have hym:(y':Int) % 128=(yr:Int):=by omega
        have hymt:Int.tmod (y':Int) 128=(yr:Int):=by rw [← hym,Int.tmod_eq_emod_of_nonneg (by omega)]
        by_cases h125:125<yr
        ·have hq7:((yr:Int)>125)=True:=eq_true (by omega)
         have HQ:Sl (getF (x :: xs) most=(Fr0,0,91)):=⟨by rw [getF_cons,if_neg (by rw [hbad];decide),if_pos ⟨hl1,CTI.out.1 (by trivial),by rw [hy',hyr];exact h125⟩]⟩
         go_wp2_with fail
         refine (C15 _).mono ?_
         rintro e' w' ⟨rfl,rfl⟩
         go_upto_region 7 with fail
         have HI:=fr_info (cs:=#[.bool false,.int .i64 0,.bool false,.int .u8 0,.int .u8 0,.int .u8 0,.int .u8 0,.string {data:=#[]}]) rfl
         go_wp2_with (refine wpList_store_row rfl 61 (.tmp 4) (.tmp 65) rfl w.heap.size #[.bool false,.int .i64 0,.bool false,.int .u8 0,.int .u8 0,.int .u8 0,.int .u8 0,.string {data:=#[]}] rfl rfl 61 #[.bool false,.int .i64 0,.bool false,.int .u8 0,.int .u8 0,.int .u8 0,.int .u8 0,.string {data:=#[]}] HZ3.out HI rfl (fr_all _ _ _ _ _ _ _ _) ?_)
         refine bodyPost_ret (ret_fr rfl _ _ w.heap.size 61 _ (0,0) rfl (setRow_heap _ _ _ _ _ _ HZ3.out) rfl) rfl ?_
         rw [HQ.out]
         exact ⟨rfl,⟨below_setRow HB3.out (Nat.le_refl _) _⟩⟩
        ·have hq7:((yr:Int)>125)=False:=eq_false (by omega)
         have HN6:Sl (¬ (0<xs.length∧8≤x % 16∧125<xs.getD 0 0 % 128)):=⟨fun h=>by have:=h.2.2;rw [hy',hyr] at this;exact h125 this⟩
         go_wp2_with fail
         refine (C15 _).mono ?_
         rintro e' w' ⟨rfl,rfl⟩
         obtain ⟨⟨n,k,e⟩,hnke⟩:∃ r,getL xs=r:=⟨_,rfl⟩
         have hle:=get_le xs
         rw [hnke] at hle
         have hcodes:=get_codes xs
         rw [hnke] at hcodes
         simp only at hle hcodes
         have HGC:=Sl.mk (getF_cons x xs most)
         have C29:∀ W,Calls Tryz.prog 125 #[.string (s.extract 1 s.size)] W fun e' w'=>e'=.returned (.tuple #[.int .u64 (n:Int),.int .i64 (k:Int),.int .i64 (e:Int)])∧W=w':=fun W=>by
          have:=refget_any (s.extract 1 s.size) W (by rw [ByteArray.size_extract];omega)
          rw [show bytes (s.extract 1 s.size)=xs by rw [bytes_extract,HBX.out,List.take_of_length_le (by rw [← HBX.out,bytes_length];exact Nat.le_refl _)];rfl,hnke] at this
          exact this
         go_wp2_with fail
         refine (C29 _).mono ?_
         rintro e' w' ⟨rfl,rfl⟩
         clear C29 hy1' hym hymt hq7 e0 e1 e2 e3 e4 e5 e6 e7
         rcases hcodes with he | he | he
         ·subst he
          have HGE:Sl (getF (x :: xs) most=if most<(n:Int) then (Fr0,0,92) else fillF true (o:Int) (decide (128≤xs.getD 0 0)) (1+k) n (xs.drop k)):=⟨by
           rw [HGC.out,if_neg (by rw [hbad];decide),if_neg HN6.out,hnke,if_neg (show ¬ (0:Nat)=81 by decide),if_neg (show ¬ (0:Nat)=80 by decide)]
           by_cases hmn:most<(n:Int)
           ·rw [if_pos hmn,if_pos hmn]
           ·rw [if_neg hmn,if_neg hmn,rest_fill,HO16.out,HFIN.out]⟩
          have hxs:0<xs.length:=by
           cases xs with
           | nil=>have h2:(getL []).2.2=80:=rfl;rw [hnke] at h2;cases h2
           | cons y ys=>simp
          obtain ⟨y,hy⟩:∃ y,xs.getD 0 0=y:=⟨_,rfl⟩
          rw [hy] at HGE
          have h1s:1<s.size:=by rw [← hbl];simp;omega
          have hxl:xs.length+1=s.size:=by rw [← hbl];simp
          have hy1:(s[1]'h1s).toNat=y:=by rw [bytes_tail s x xs HBX.out 0 h1s];exact hy
          by_cases hneg:most<0
          ·have hq1:(most<0)=True:=eq_true hneg
           have HQ:Sl (getF (x :: xs) most=(Fr0,0,92)):=⟨by rw [HGE.out];exact if_pos (by omega)⟩
           clear hneg hnke hle HGC
           go_upto_region 14 with fail
           have HI:=fr_info (cs:=#[.bool false,.int .i64 0,.bool false,.int .u8 0,.int .u8 0,.int .u8 0,.int .u8 0,.string {data:=#[]}]) rfl
           go_wp2_with (refine wpList_store_row rfl 61 (.tmp 4) (.tmp 87) rfl w.heap.size #[.bool false,.int .i64 0,.bool false,.int .u8 0,.int .u8 0,.int .u8 0,.int .u8 0,.string {data:=#[]}] rfl rfl 61 #[.bool false,.int .i64 0,.bool false,.int .u8 0,.int .u8 0,.int .u8 0,.int .u8 0,.string {data:=#[]}] HZ3.out HI rfl (fr_all _ _ _ _ _ _ _ _) ?_)
           refine bodyPost_ret (ret_fr rfl _ _ w.heap.size 61 _ (0,0) rfl (setRow_heap _ _ _ _ _ _ HZ3.out) rfl) rfl ?_
           rw [HQ.out]
           exact ⟨rfl,⟨below_setRow HB3.out (Nat.le_refl _) _⟩⟩
          ·have hq1:(most<0)=False:=eq_false hneg
           obtain ⟨mo,rfl⟩:=Int.eq_ofNat_of_zero_le (show 0≤most by omega)
           have hmw:IntKind.u64.wrap (mo:Int)=(mo:Int):=by rw [IntKind.wrap_u64];omega
           by_cases hov:mo<n
           ·have hq2:((n:Int)>(mo:Int))=True:=eq_true (by omega)
            have HQ:Sl (getF (x :: xs) (mo:Int)=(Fr0,0,92)):=⟨by rw [HGE.out];exact if_pos (by omega)⟩
            clear hneg hnke hle HGC
            go_upto_region 14 with fail
            have HI:=fr_info (cs:=#[.bool false,.int .i64 0,.bool false,.int .u8 0,.int .u8 0,.int .u8 0,.int .u8 0,.string {data:=#[]}]) rfl
            go_wp2_with (refine wpList_store_row rfl 61 (.tmp 4) (.tmp 87) rfl w.heap.size #[.bool false,.int .i64 0,.bool false,.int .u8 0,.int .u8 0,.int .u8 0,.int .u8 0,.string {data:=#[]}] rfl rfl 61 #[.bool false,.int .i64 0,.bool false,.int .u8 0,.int .u8 0,.int .u8 0,.int .u8 0,.string {data:=#[]}] HZ3.out HI rfl (fr_all _ _ _ _ _ _ _ _) ?_)
            refine bodyPost_ret (ret_fr rfl _ _ w.heap.size 61 _ (0,0) rfl (setRow_heap _ _ _ _ _ _ HZ3.out) rfl) rfl ?_
            rw [HQ.out]
            exact ⟨rfl,⟨below_setRow HB3.out (Nat.le_refl _) _⟩⟩
           ·have hq2:((n:Int)>(mo:Int))=False:=eq_false (by omega)
            obtain ⟨pk,hpk⟩:∃ pk,1+k=pk:=⟨_,rfl⟩
            have HQ:Sl (getF (x :: xs) (mo:Int)=fillF true (o:Int) (decide (128≤y)) pk n (xs.drop k)):=⟨by rw [HGE.out,if_neg (by omega),hpk]⟩
            have hwk:IntKind.i64.wrap (1+(k:Int))=(pk:Int):=by rw [IntKind.wrap_i64];omega
            obtain ⟨rl,hrl⟩:∃ rl,(xs.drop k).length=rl:=⟨_,rfl⟩
            have hrl2:pk+rl=s.size:=by rw [← hrl,List.length_drop,← hbl,List.length_cons];omega
            have hpks:pk≤s.size:=by omega
            obtain ⟨RS,hRS⟩:∃ RS,s.extract pk s.size=RS:=⟨_,rfl⟩
            have HRS:Sl (bytes RS=xs.drop k∧RS.size=rl):=⟨by rw [← hRS,bytes_extract,HBX.out,List.take_of_length_le (by rw [← HBX.out,bytes_length];exact Nat.le_refl _),← hpk,Nat.add_comm];rfl,by rw [← hRS,ByteArray.size_extract];omega⟩
            have hrz:=HRS.out.2
            have hn64:n≤9223372036854775807:=by omega
            have hwl:IntKind.u64.wrap (rl:Int)=(rl:Int):=by rw [IntKind.wrap_u64];omega
            clear hneg hov hnke hle HGC HGE
            by_cases h128:128≤y
            ·have hqy:((y:Int)≥128)=True:=eq_true (by omega)
             rw [decide_eq_true h128] at HQ
             have z2:w3.frozen? ⟨fb,2,none⟩=false:=frozen_of_row _ _ _ _ _ HF3.out
             obtain ⟨f0,f1,f2,f3,f4,f5,f6,f7⟩:=bx8 HF3.out
             obtain ⟨w4,hw4⟩:∃ W,w3.setCell ⟨fb,2,none⟩ (.bool true)=W:=⟨_,rfl⟩
             have HB4:Sl (Below w.heap.size w w4):=⟨by rw [← hw4];exact HB3.out.setCell (by show w.heap.size≤fb;have:=HFB.out;omega) _⟩
             have HF4:Sl (w4.heap[fb]? = some (.cells #[.bool true,.int .i64 (o:Int),.bool true,.int .u8 0,.int .u8 0,.int .u8 0,.int .u8 0,.string {data:=#[]}] 61 (0,0))):=⟨by rw [← hw4,heap_setCell_same _ _ _ _ _ _ HF3.out];rfl⟩
             have HZ4:Sl (w4.heap[w.heap.size]? = some (.cells #[.bool false,.int .i64 0,.bool false,.int .u8 0,.int .u8 0,.int .u8 0,.int .u8 0,.string {data:=#[]}] 61 (0,0))):=⟨by rw [← hw4,heap_setCell_other _ _ _ _ (by show w.heap.size≠fb;have:=HFB.out;omega)];exact HZ3.out⟩
             by_cases h4:rl<4
             ·have hq4:((rl:Int)<4)=True:=eq_true (by omega)
              have HQ1:=HQ
              have HQ:Sl (getF (x :: xs) (mo:Int)=(Fr0,0,90)):=⟨by rw [HQ1.out];unfold fillF;rw [if_pos rfl,if_pos (by omega)]⟩
              clear HQ1 h4 h128
              go_upto_region 19 with fail
              have HI:=fr_info (cs:=#[.bool false,.int .i64 0,.bool false,.int .u8 0,.int .u8 0,.int .u8 0,.int .u8 0,.string {data:=#[]}]) rfl
              go_wp2_with (refine wpList_store_row rfl 61 (.tmp 4) (.tmp 99) rfl w.heap.size #[.bool false,.int .i64 0,.bool false,.int .u8 0,.int .u8 0,.int .u8 0,.int .u8 0,.string {data:=#[]}] rfl rfl 61 #[.bool false,.int .i64 0,.bool false,.int .u8 0,.int .u8 0,.int .u8 0,.int .u8 0,.string {data:=#[]}] HZ4.out HI rfl (fr_all _ _ _ _ _ _ _ _) ?_)
              refine bodyPost_ret (ret_fr rfl _ _ w.heap.size 61 _ (0,0) rfl (setRow_heap _ _ _ _ _ _ HZ4.out) rfl) rfl ?_
              rw [HQ.out]
              exact ⟨rfl,⟨below_setRow HB4.out (Nat.le_refl _) _⟩⟩
             ·have hq4:((rl:Int)<4)=False:=eq_false (by omega)
              obtain ⟨a,b,c,d,hkey⟩:=four_of (xs.drop k) (by omega)
              have HKS:Sl (Small 256 [a,b,c,d]):=⟨by rw [← hkey];exact (HXS.out.drop k).take 4⟩
              have HKEY:=Sl.mk hkey
              have HIX:Sl (∀ i v,i<4→[a,b,c,d].getD i 0=v→(xs.drop k).getD i 0=v):=⟨fun i v hi hv=>by
               rw [← hv,← hkey]
               simp only [List.getD_eq_getElem?_getD,List.getElem?_take_of_lt hi]⟩
              have h4r:4≤(xs.drop k).length:=by omega
              have H4R:=Sl.mk h4r
              obtain ⟨R4,hR4⟩:∃ R4,RS.extract 4 RS.size=R4:=⟨_,rfl⟩
              have hR4':RS.extract 4 rl=R4:=by rw [← hrz];exact hR4
              obtain ⟨r4,hr4⟩:∃ r4,rl-4=r4:=⟨_,rfl⟩
              have HR4:Sl (bytes R4=(xs.drop k).drop 4∧R4.size=r4):=⟨by rw [← hR4,bytes_extract,HRS.out.1,List.take_of_length_le (by rw [hrl,hrz];exact Nat.le_refl _)],by rw [← hR4,ByteArray.size_extract];omega⟩
              have hr4z:=HR4.out.2
              have HR4L:Sl ((xs.drop k).drop 4=(xs.drop k).drop 4):=⟨rfl⟩
              have hwl4:IntKind.u64.wrap (r4:Int)=(r4:Int):=by rw [IntKind.wrap_u64];omega
              clear hwl hkey
              go_upto_region 20 with fail
              obtain ⟨Rw,hR⟩:∃ Rw,w4.drew=Rw:=⟨_,rfl⟩
              have HS0:Below w.heap.size w Rw:=by rw [← hR];exact HB4.out.drew
              have HFR:Rw.heap[fb]? = some (.cells #[.bool true,.int .i64 (o:Int),.bool true,.int .u8 0,.int .u8 0,.int .u8 0,.int .u8 0,.string {data:=#[]}] 61 (0,0)):=by rw [← hR];exact HF4.out
              have HZR:Rw.heap[w.heap.size]? = some (.cells #[.bool false,.int .i64 0,.bool false,.int .u8 0,.int .u8 0,.int .u8 0,.int .u8 0,.string {data:=#[]}] 61 (0,0)):=by rw [← hR];exact HZ4.out
              refine wp_region_noPanic ?_
              refine wp_region_held (S:=fun W=>Below w.heap.size w W) (by kernel_rfl) ?_
              change wpAnyH _ _ _ _ _ _ _ _ w4.drew
              rw [hR]
              clear hR HB4 HF4 HZ4 z2 f0 f1 f2 f3 f4 f5 f6 f7 hw4
              refine heldTake (d:=some 100) (op:=.move (Operand.tmp 11)) (g:=none) 0 ?v0n3 rfl (by kernel_rfl) (by kernel_rfl) (by kernel_rfl) (by kernel_rfl) ?y0n3 HS0 ?_
              case y0n3=>intro o' ho W hS;simp only [execOp,ho];go_simp;try rfl
              simp only [Act.put,List.setIfInBounds_toArray,List.set_cons_zero,List.set_cons_succ]
              refine heldTake (d:=some 101) (op:=.index 9 (Operand.tmp 100) (Operand.const (Value.int IntKind.i64 0))) (g:=none) 1 (.int .u8 (a:Int)) rfl (by kernel_rfl) (by kernel_rfl) (by kernel_rfl) (by kernel_rfl) ?y1n3 HS0 ?_
              case y1n3=>intro o' ho W hS;exact index_at (i:=0) ho (by rfl) (by rfl) ⟨HRS.out.1,by have:=H4R.out;omega⟩ (HIX.out 0 _ (by decide) rfl)
              simp only [Act.put,List.setIfInBounds_toArray,List.set_cons_zero,List.set_cons_succ]
              refine heldTake (d:=some 102) (op:=.move (Operand.tmp 11)) (g:=none) 2 ?v2n3 rfl (by kernel_rfl) (by kernel_rfl) (by kernel_rfl) (by kernel_rfl) ?y2n3 HS0 ?_
              case y2n3=>intro o' ho W hS;simp only [execOp,ho];go_simp;try rfl
              simp only [Act.put,List.setIfInBounds_toArray,List.set_cons_zero,List.set_cons_succ]
              refine heldTake (d:=some 103) (op:=.index 9 (Operand.tmp 102) (Operand.const (Value.int IntKind.i64 1))) (g:=none) 3 (.int .u8 (b:Int)) rfl (by kernel_rfl) (by kernel_rfl) (by kernel_rfl) (by kernel_rfl) ?y3n3 HS0 ?_
              case y3n3=>intro o' ho W hS;exact index_at (i:=1) ho (by rfl) (by rfl) ⟨HRS.out.1,by have:=H4R.out;omega⟩ (HIX.out 1 _ (by decide) rfl)
              simp only [Act.put,List.setIfInBounds_toArray,List.set_cons_zero,List.set_cons_succ]
              refine heldTake (d:=some 104) (op:=.move (Operand.tmp 11)) (g:=none) 4 ?v4n3 rfl (by kernel_rfl) (by kernel_rfl) (by kernel_rfl) (by kernel_rfl) ?y4n3 HS0 ?_
              case y4n3=>intro o' ho W hS;simp only [execOp,ho];go_simp;try rfl
              simp only [Act.put,List.setIfInBounds_toArray,List.set_cons_zero,List.set_cons_succ]
              refine heldTake (d:=some 105) (op:=.index 9 (Operand.tmp 104) (Operand.const (Value.int IntKind.i64 2))) (g:=none) 5 (.int .u8 (c:Int)) rfl (by kernel_rfl) (by kernel_rfl) (by kernel_rfl) (by kernel_rfl) ?y5n3 HS0 ?_
              case y5n3=>intro o' ho W hS;exact index_at (i:=2) ho (by rfl) (by rfl) ⟨HRS.out.1,by have:=H4R.out;omega⟩ (HIX.out 2 _ (by decide) rfl)
              simp only [Act.put,List.setIfInBounds_toArray,List.set_cons_zero,List.set_cons_succ]
              refine heldTake (d:=some 106) (op:=.move (Operand.tmp 11)) (g:=none) 6 ?v6n3 rfl (by kernel_rfl) (by kernel_rfl) (by kernel_rfl) (by kernel_rfl) ?y6n3 HS0 ?_
              case y6n3=>intro o' ho W hS;simp only [execOp,ho];go_simp;try rfl
              simp only [Act.put,List.setIfInBounds_toArray,List.set_cons_zero,List.set_cons_succ]
              refine heldTake (d:=some 107) (op:=.index 9 (Operand.tmp 106) (Operand.const (Value.int IntKind.i64 3))) (g:=none) 7 (.int .u8 (d:Int)) rfl (by kernel_rfl) (by kernel_rfl) (by kernel_rfl) (by kernel_rfl) ?y7n3 HS0 ?_
              case y7n3=>intro o' ho W hS;exact index_at (i:=3) ho (by rfl) (by rfl) ⟨HRS.out.1,by have:=H4R.out;omega⟩ (HIX.out 3 _ (by decide) rfl)
              simp only [Act.put,List.setIfInBounds_toArray,List.set_cons_zero,List.set_cons_succ]
              refine heldTake (d:=some 108) (op:=.build 59 #[(0,Operand.tmp 101),(1,Operand.tmp 103),(2,Operand.tmp 105),(3,Operand.tmp 107)]) (g:=none) 8 ?v8n3 rfl (by kernel_rfl) (by kernel_rfl) (by kernel_rfl) (by kernel_rfl) ?y8n3 HS0 ?_
              case y8n3=>intro o' ho W hS;simp only [execOp,ho];go_simp;try rfl
              simp only [Act.put,List.setIfInBounds_toArray,List.set_cons_zero,List.set_cons_succ]
              refine heldTake (d:=some 109) (op:=.fieldAddr 61 (Operand.tmp 7) 3) (g:=none) 9 ?v9n3 rfl (by kernel_rfl) (by kernel_rfl) (by kernel_rfl) (by kernel_rfl) ?y9n3 HS0 ?_
              case y9n3=>intro o' ho W hS;simp only [execOp,ho];go_simp;try rfl
              simp only [Act.put,List.setIfInBounds_toArray,List.set_cons_zero,List.set_cons_succ]
              obtain ⟨w5,hw5⟩:∃ W,Rw.setRow fb #[.bool true,.int .i64 (o:Int),.bool true,.int .u8 (a:Int),.int .u8 (b:Int),.int .u8 (c:Int),.int .u8 (d:Int),.string {data:=#[]}]=W:=⟨_,rfl⟩
              have HB5:Sl (Below w.heap.size w w5):=⟨by rw [← hw5];exact below_setRow HS0 (by have:=HFB.out;omega) _⟩
              have HF5:Sl (w5.heap[fb]? = some (.cells #[.bool true,.int .i64 (o:Int),.bool true,.int .u8 (a:Int),.int .u8 (b:Int),.int .u8 (c:Int),.int .u8 (d:Int),.string {data:=#[]}] 61 (0,0))):=⟨by rw [← hw5];exact setRow_heap _ _ _ _ _ _ HFR⟩
              have HZ5:Sl (w5.heap[w.heap.size]? = some (.cells #[.bool false,.int .i64 0,.bool false,.int .u8 0,.int .u8 0,.int .u8 0,.int .u8 0,.string {data:=#[]}] 61 (0,0))):=⟨by rw [← hw5,setRow_other _ _ _ _ (by have:=HFB.out;omega)];exact HZR⟩
              refine heldStore (d:=none) (op:=.store 59 (Operand.tmp 109) (Operand.tmp 108)) (g:=none) (t:=0) 10 w5 rfl (by kernel_rfl) (by kernel_rfl) ?y10n3 HB5.out ?_
              case y10n3=>intro o' ho ht;rw [← hw5];exact store_key0 (a:=0) (b:=0) (c:=0) (d:=0) ho (by rfl) (by rfl) HFR
              simp only [Act.put]
              refine wpAnyH_done (by kernel_rfl) ?_ _
              refine NoPanic.normal ?_
              clear HS0 HFR HZR hw5
              have h4p:4≤rl:=by omega
              have h4i:(4:Int)≤(rl:Int):=by omega
              have h4t:((4:Int)≤(rl:Int))=True:=eq_true h4i
              by_cases hrn:r4<n
              ·have hqn:((r4:Int)<(n:Int))=True:=eq_true (by omega)
               have HQ1:=HQ
               have HQ:Sl (getF (x :: xs) (mo:Int)=(Fr0,0,90)):=⟨by rw [HQ1.out];unfold fillF;rw [if_pos rfl,if_pos (by omega)]⟩
               clear HQ1 h4 h128 hrn
               go_upto_region 23 with fail
               have HI:=fr_info (cs:=#[.bool false,.int .i64 0,.bool false,.int .u8 0,.int .u8 0,.int .u8 0,.int .u8 0,.string {data:=#[]}]) rfl
               go_wp2_with (refine wpList_store_row rfl 61 (.tmp 4) (.tmp 117) rfl w.heap.size #[.bool false,.int .i64 0,.bool false,.int .u8 0,.int .u8 0,.int .u8 0,.int .u8 0,.string {data:=#[]}] rfl rfl 61 #[.bool false,.int .i64 0,.bool false,.int .u8 0,.int .u8 0,.int .u8 0,.int .u8 0,.string {data:=#[]}] HZ5.out HI rfl (fr_all _ _ _ _ _ _ _ _) ?_)
               refine bodyPost_ret (ret_fr rfl _ _ w.heap.size 61 _ (0,0) rfl (setRow_heap _ _ _ _ _ _ HZ5.out) rfl) rfl ?_
               rw [HQ.out]
               exact ⟨rfl,⟨below_setRow HB5.out (Nat.le_refl _) _⟩⟩
              ·have hqn:((r4:Int)<(n:Int))=False:=eq_false (by omega)
               have HRN:Sl (n≤R4.size∧4+n≤(xs.drop k).length):=⟨by omega,by omega⟩
               obtain ⟨en,hen⟩:∃ en,pk+4+n=en:=⟨_,rfl⟩
               have HEN:=Sl.mk hen
               have z4:IntKind.i64.wrap ((s.size:Int)-(r4:Int))=((pk+4:Nat):Int):=by rw [IntKind.wrap_i64];omega
               obtain ⟨p4,hp4⟩:∃ p4,pk+4=p4:=⟨_,rfl⟩
               rw [hp4] at z4
               have z5:IntKind.i64.wrap ((p4:Int)+(n:Int))=(en:Int):=by rw [IntKind.wrap_i64];omega
               clear hrn h4 h128 hrl
               obtain ⟨PD,hPD⟩:∃ PD,R4.extract 0 n=PD:=⟨_,rfl⟩
               have HPD:Sl (bytes PD=((xs.drop k).drop 4).take n):=⟨by rw [← hPD,bytes_extract,List.drop_zero,HR4.out.1]⟩
               obtain ⟨TD,hTD⟩:∃ TD,strOf (turn [a,b,c,d] (rest4 0) (bytes PD))=TD:=⟨_,rfl⟩
               have C27:∀ W,Calls Tryz.prog 126 #[.agg #[.int .u8 (a:Int),.int .u8 (b:Int),.int .u8 (c:Int),.int .u8 (d:Int)],.int .i64 0,.string PD] W fun e w'=>e=.returned (.string TD)∧Sl (Below W.heap.size W w'):=fun W=>by rw [← hTD];exact refapply_any [a,b,c,d] 0 PD W rfl HKS.out (by rw [← hPD,ByteArray.size_extract];omega)
               have hw48:IntKind.i64.wrap (n:Int)=(n:Int):=by rw [IntKind.wrap_i64];omega
               go_upto_region 24 with fail
               obtain ⟨Rw,hR⟩:∃ Rw,w5.drew=Rw:=⟨_,rfl⟩
               have HS0:Below w.heap.size w Rw:=by rw [← hR];exact HB5.out.drew
               have HFR:Rw.heap[fb]? = some (.cells #[.bool true,.int .i64 (o:Int),.bool true,.int .u8 (a:Int),.int .u8 (b:Int),.int .u8 (c:Int),.int .u8 (d:Int),.string {data:=#[]}] 61 (0,0)):=by rw [← hR];exact HF5.out
               have HZR:Rw.heap[w.heap.size]? = some (.cells #[.bool false,.int .i64 0,.bool false,.int .u8 0,.int .u8 0,.int .u8 0,.int .u8 0,.string {data:=#[]}] 61 (0,0)):=by rw [← hR];exact HZ5.out
               refine wp_region_noPanic ?_
               refine wp_region_held (S:=fun W=>Below w.heap.size w W) (by kernel_rfl) ?_
               change wpAnyH _ _ _ _ _ _ _ _ w5.drew
               rw [hR]
               clear hR HB5 HF5 HZ5
               refine heldTake (d:=some 118) (op:=.fieldAddr 61 (Operand.tmp 7) 3) (g:=none) 0 ?v0n1 rfl (by kernel_rfl) (by kernel_rfl) (by kernel_rfl) (by kernel_rfl) ?y0n1 HS0 ?_
               case y0n1=>intro o' ho W hS;simp only [execOp,ho];go_simp;try rfl
               simp only [Act.put,List.setIfInBounds_toArray,List.set_cons_zero,List.set_cons_succ]
               refine heldTake (d:=some 120) (op:=.move (Operand.tmp 11)) (g:=none) 2 ?v2n1 rfl (by kernel_rfl) (by kernel_rfl) (by kernel_rfl) (by kernel_rfl) ?y2n1 HS0 ?_
               case y2n1=>intro o' ho W hS;simp only [execOp,ho];go_simp;try rfl
               simp only [Act.put,List.setIfInBounds_toArray,List.set_cons_zero,List.set_cons_succ]
               refine heldTake (d:=some 121) (op:=.move (Operand.tmp 8)) (g:=none) 3 ?v3n1 rfl (by kernel_rfl) (by kernel_rfl) (by kernel_rfl) (by kernel_rfl) ?y3n1 HS0 ?_
               case y3n1=>intro o' ho W hS;simp only [execOp,ho];go_simp;try rfl
               simp only [Act.put,List.setIfInBounds_toArray,List.set_cons_zero,List.set_cons_succ]
               refine heldTake (d:=some 122) (op:=.slice 9 (Operand.tmp 120) none (some (Operand.tmp 121)) none) (g:=none) 4 (.string PD) rfl (by kernel_rfl) (by kernel_rfl) (by kernel_rfl) (by kernel_rfl) ?y4n1 HS0 ?_
               case y4n1=>intro o' ho W hS;exact upto_run ho (by rfl) (by rfl) (by have:=HRN.out;omega) hPD
               simp only [Act.put,List.setIfInBounds_toArray,List.set_cons_zero,List.set_cons_succ]
               refine heldRunT (d:=some 119) (op:=.load 59 (Operand.tmp 118)) (g:=none) (t:=59) 1 (.agg #[.int .u8 (a:Int),.int .u8 (b:Int),.int .u8 (c:Int),.int .u8 (d:Int)]) Rw rfl (by kernel_rfl) (by kernel_rfl) ?y1n1 HS0 ?_
               case y1n1=>intro o' ho _;simp only [execOp,ho];obtain ⟨f0,f1,f2,f3,f4,f5,f6,f7⟩:=bx8 HFR;go_simp;try rfl
               simp only [Act.put,List.setIfInBounds_toArray,List.set_cons_zero,List.set_cons_succ]
               refine heldCall (d:=some 123) (op:=.call {callee:=Callee.value (Operand.func 126),args:=#[Operand.tmp 119,Operand.const (Value.int IntKind.i64 0),Operand.tmp 122],argTypes:=#[59,3,9]}) (g:=none) 5 126 #[.agg #[.int .u8 (a:Int),.int .u8 (b:Int),.int .u8 (c:Int),.int .u8 (d:Int)],.int .i64 0,.string PD] rfl (by kernel_rfl) (by kernel_rfl) ?y5n1 ?_
               case y5n1=>intro o' ho;simp only [execOp,ho];go_simp;try rfl
               refine (C27 Rw).mono ?_
               rintro e X ⟨rfl,HXX⟩
               have HS1:Below w.heap.size w X:=HS0.trans (HXX.out.mono HS0.size)
               have HFX:X.heap[fb]? = some (.cells #[.bool true,.int .i64 (o:Int),.bool true,.int .u8 (a:Int),.int .u8 (b:Int),.int .u8 (c:Int),.int .u8 (d:Int),.string {data:=#[]}] 61 (0,0)):=below_key HFR HXX.out
               have HZX:X.heap[w.heap.size]? = some (.cells #[.bool false,.int .i64 0,.bool false,.int .u8 0,.int .u8 0,.int .u8 0,.int .u8 0,.string {data:=#[]}] 61 (0,0)):=below_key HZR HXX.out
               refine ⟨_,rfl,HS1,?_⟩
               simp only [Act.put,List.setIfInBounds_toArray,List.set_cons_zero,List.set_cons_succ]
               refine heldTake (d:=some 124) (op:=.fieldAddr 61 (Operand.tmp 7) 4) (g:=none) 6 ?v6n1 rfl (by kernel_rfl) (by kernel_rfl) (by kernel_rfl) (by kernel_rfl) ?y6n1 HS1 ?_
               case y6n1=>intro o' ho W hS;simp only [execOp,ho];go_simp;try rfl
               simp only [Act.put,List.setIfInBounds_toArray,List.set_cons_zero,List.set_cons_succ]
               obtain ⟨w8,hw8⟩:∃ W,X.setCell ⟨fb,7,none⟩ (.string TD)=W:=⟨_,rfl⟩
               have hfz:X.frozen? ⟨fb,7,none⟩=false:=frozen_of_row _ _ _ _ _ HFX
               have hc7:X.cell? ⟨fb,7,none⟩=some (.string {data:=#[]}):=(bx8 HFX).2.2.2.2.2.2.2
               have HB8:Sl (Below w.heap.size w w8):=⟨by rw [← hw8];exact HS1.setCell (by show w.heap.size≤fb;have:=HFB.out;omega) _⟩
               have HF8:Sl (w8.heap[fb]? = some (.cells #[.bool true,.int .i64 (o:Int),.bool true,.int .u8 (a:Int),.int .u8 (b:Int),.int .u8 (c:Int),.int .u8 (d:Int),.string TD] 61 (0,0))):=⟨by rw [← hw8,heap_setCell_same _ _ _ _ _ _ HFX];rfl⟩
               have HZ8:Sl (w8.heap[w.heap.size]? = some (.cells #[.bool false,.int .i64 0,.bool false,.int .u8 0,.int .u8 0,.int .u8 0,.int .u8 0,.string {data:=#[]}] 61 (0,0))):=⟨by rw [← hw8,heap_setCell_other _ _ _ _ (by show w.heap.size≠fb;have:=HFB.out;omega)];exact HZX⟩
               refine heldStore (d:=none) (op:=.store 9 (Operand.tmp 124) (Operand.tmp 123)) (g:=none) (t:=0) 7 w8 rfl (by kernel_rfl) (by kernel_rfl) ?y7n1 HB8.out ?_
               case y7n1=>intro o' ho ht;simp only [execOp,ho];go_simp;first | done | rw [hw8] | rfl
               simp only [Act.put]
               refine wpAnyH_done (by kernel_rfl) ?_ _
               refine NoPanic.normal ?_
               have HQ2:Sl (getF (x :: xs) (mo:Int)=(⟨true,(o:Int),true,[a,b,c,d],turn [a,b,c,d] 0 (((xs.drop k).drop 4).take n)⟩,en,0)):=⟨by rw [HQ.out];unfold fillF;rw [if_pos rfl,if_neg (by have:=HRN.out;omega),HKEY.out,HEN.out]<;>rfl⟩
               have HTD2:Sl (TD=strOf (turn [a,b,c,d] 0 (((xs.drop k).drop 4).take n))):=⟨by rw [← hTD,HPD.out]<;>rfl⟩
               have HI:=fr_info (cs:=#[.bool true,.int .i64 (o:Int),.bool true,.int .u8 (a:Int),.int .u8 (b:Int),.int .u8 (c:Int),.int .u8 (d:Int),.string TD]) rfl
               obtain ⟨h0,h1,h2,h3,h4,h5,h6,h7⟩:=bx8 HF8.out
               clear hfz hc7 hw8 HZX HFX HS1 HXX HS0 HFR HZR C27 hPD hTD
               go_wp2_with (refine wpList_store_row rfl 61 (.tmp 4) (.tmp 125) rfl w.heap.size #[.bool true,.int .i64 (o:Int),.bool true,.int .u8 (a:Int),.int .u8 (b:Int),.int .u8 (c:Int),.int .u8 (d:Int),.string TD] rfl rfl 61 #[.bool false,.int .i64 0,.bool false,.int .u8 0,.int .u8 0,.int .u8 0,.int .u8 0,.string {data:=#[]}] HZ8.out HI rfl (fr_all _ _ _ _ _ _ _ _) ?_)
               refine bodyPost_ret (ret_fr rfl _ _ w.heap.size 61 _ (0,0) rfl (setRow_heap _ _ _ _ _ _ HZ8.out) rfl) rfl ?_
               rw [HQ2.out,HTD2.out]
               exact ⟨rfl,⟨below_setRow HB8.out (Nat.le_refl _) _⟩⟩
            ·have hqy:((y:Int)≥128)=False:=eq_false (by omega)
             rw [decide_eq_false h128] at HQ
             by_cases hrn:rl<n
             ·have hqn:((rl:Int)<(n:Int))=True:=eq_true (by omega)
              have HQ1:=HQ
              have HQ:Sl (getF (x :: xs) (mo:Int)=(Fr0,0,90)):=⟨by rw [HQ1.out];unfold fillF;rw [if_neg (by decide),if_pos (by omega)]⟩
              clear HQ1 h128 hrn
              go_upto_region 23 with fail
              have HI:=fr_info (cs:=#[.bool false,.int .i64 0,.bool false,.int .u8 0,.int .u8 0,.int .u8 0,.int .u8 0,.string {data:=#[]}]) rfl
              go_wp2_with (refine wpList_store_row rfl 61 (.tmp 4) (.tmp 117) rfl w.heap.size #[.bool false,.int .i64 0,.bool false,.int .u8 0,.int .u8 0,.int .u8 0,.int .u8 0,.string {data:=#[]}] rfl rfl 61 #[.bool false,.int .i64 0,.bool false,.int .u8 0,.int .u8 0,.int .u8 0,.int .u8 0,.string {data:=#[]}] HZ3.out HI rfl (fr_all _ _ _ _ _ _ _ _) ?_)
              refine bodyPost_ret (ret_fr rfl _ _ w.heap.size 61 _ (0,0) rfl (setRow_heap _ _ _ _ _ _ HZ3.out) rfl) rfl ?_
              rw [HQ.out]
              exact ⟨rfl,⟨below_setRow HB3.out (Nat.le_refl _) _⟩⟩
             ·have hqn:((rl:Int)<(n:Int))=False:=eq_false (by omega)
              have HRN:Sl (n≤RS.size∧n≤(xs.drop k).length):=⟨by omega,by omega⟩
              obtain ⟨en,hen⟩:∃ en,pk+n=en:=⟨_,rfl⟩
              have HEN:=Sl.mk hen
              have z4:IntKind.i64.wrap ((s.size:Int)-(rl:Int))=(pk:Int):=by rw [IntKind.wrap_i64];omega
              have z5:IntKind.i64.wrap ((pk:Int)+(n:Int))=(en:Int):=by rw [IntKind.wrap_i64];omega
              clear hrn h128 hrl
              obtain ⟨PD,hPD⟩:∃ PD,RS.extract 0 n=PD:=⟨_,rfl⟩
              have HPD:Sl (bytes PD=(xs.drop k).take n):=⟨by rw [← hPD,bytes_extract,List.drop_zero,HRS.out.1]⟩
              obtain ⟨TD,hTD⟩:∃ TD,strOf (turn [0,0,0,0] (rest4 0) (bytes PD))=TD:=⟨_,rfl⟩
              have C27:∀ W,Calls Tryz.prog 126 #[.agg #[.int .u8 0,.int .u8 0,.int .u8 0,.int .u8 0],.int .i64 0,.string PD] W fun e w'=>e=.returned (.string TD)∧Sl (Below W.heap.size W w'):=fun W=>by rw [← hTD];exact refapply_any [0,0,0,0] 0 PD W rfl (fun x hx=>by simp at hx;omega) (by rw [← hPD,ByteArray.size_extract];omega)
              have hw48:IntKind.i64.wrap (n:Int)=(n:Int):=by rw [IntKind.wrap_i64];omega
              go_upto_region 24 with fail
              obtain ⟨Rw,hR⟩:∃ Rw,w3.drew=Rw:=⟨_,rfl⟩
              have HS0:Below w.heap.size w Rw:=by rw [← hR];exact HB3.out.drew
              have HFR:Rw.heap[fb]? = some (.cells #[.bool true,.int .i64 (o:Int),.bool false,.int .u8 0,.int .u8 0,.int .u8 0,.int .u8 0,.string {data:=#[]}] 61 (0,0)):=by rw [← hR];exact HF3.out
              have HZR:Rw.heap[w.heap.size]? = some (.cells #[.bool false,.int .i64 0,.bool false,.int .u8 0,.int .u8 0,.int .u8 0,.int .u8 0,.string {data:=#[]}] 61 (0,0)):=by rw [← hR];exact HZ3.out
              refine wp_region_noPanic ?_
              refine wp_region_held (S:=fun W=>Below w.heap.size w W) (by kernel_rfl) ?_
              change wpAnyH _ _ _ _ _ _ _ _ w3.drew
              rw [hR]
              clear hR HB3 HF3 HZ3
              refine heldTake (d:=some 118) (op:=.fieldAddr 61 (Operand.tmp 7) 3) (g:=none) 0 ?v0n2 rfl (by kernel_rfl) (by kernel_rfl) (by kernel_rfl) (by kernel_rfl) ?y0n2 HS0 ?_
              case y0n2=>intro o' ho W hS;simp only [execOp,ho];go_simp;try rfl
              simp only [Act.put,List.setIfInBounds_toArray,List.set_cons_zero,List.set_cons_succ]
              refine heldTake (d:=some 120) (op:=.move (Operand.tmp 11)) (g:=none) 2 ?v2n2 rfl (by kernel_rfl) (by kernel_rfl) (by kernel_rfl) (by kernel_rfl) ?y2n2 HS0 ?_
              case y2n2=>intro o' ho W hS;simp only [execOp,ho];go_simp;try rfl
              simp only [Act.put,List.setIfInBounds_toArray,List.set_cons_zero,List.set_cons_succ]
              refine heldTake (d:=some 121) (op:=.move (Operand.tmp 8)) (g:=none) 3 ?v3n2 rfl (by kernel_rfl) (by kernel_rfl) (by kernel_rfl) (by kernel_rfl) ?y3n2 HS0 ?_
              case y3n2=>intro o' ho W hS;simp only [execOp,ho];go_simp;try rfl
              simp only [Act.put,List.setIfInBounds_toArray,List.set_cons_zero,List.set_cons_succ]
              refine heldTake (d:=some 122) (op:=.slice 9 (Operand.tmp 120) none (some (Operand.tmp 121)) none) (g:=none) 4 (.string PD) rfl (by kernel_rfl) (by kernel_rfl) (by kernel_rfl) (by kernel_rfl) ?y4n2 HS0 ?_
              case y4n2=>intro o' ho W hS;exact upto_run ho (by rfl) (by rfl) (by have:=HRN.out;omega) hPD
              simp only [Act.put,List.setIfInBounds_toArray,List.set_cons_zero,List.set_cons_succ]
              refine heldRunT (d:=some 119) (op:=.load 59 (Operand.tmp 118)) (g:=none) (t:=59) 1 (.agg #[.int .u8 0,.int .u8 0,.int .u8 0,.int .u8 0]) Rw rfl (by kernel_rfl) (by kernel_rfl) ?y1n2 HS0 ?_
              case y1n2=>intro o' ho _;simp only [execOp,ho];obtain ⟨f0,f1,f2,f3,f4,f5,f6,f7⟩:=bx8 HFR;go_simp;try rfl
              simp only [Act.put,List.setIfInBounds_toArray,List.set_cons_zero,List.set_cons_succ]
              refine heldCall (d:=some 123) (op:=.call {callee:=Callee.value (Operand.func 126),args:=#[Operand.tmp 119,Operand.const (Value.int IntKind.i64 0),Operand.tmp 122],argTypes:=#[59,3,9]}) (g:=none) 5 126 #[.agg #[.int .u8 0,.int .u8 0,.int .u8 0,.int .u8 0],.int .i64 0,.string PD] rfl (by kernel_rfl) (by kernel_rfl) ?y5n2 ?_
              case y5n2=>intro o' ho;simp only [execOp,ho];go_simp;try rfl
              refine (C27 Rw).mono ?_
              rintro e X ⟨rfl,HXX⟩
              have HS1:Below w.heap.size w X:=HS0.trans (HXX.out.mono HS0.size)
              have HFX:X.heap[fb]? = some (.cells #[.bool true,.int .i64 (o:Int),.bool false,.int .u8 0,.int .u8 0,.int .u8 0,.int .u8 0,.string {data:=#[]}] 61 (0,0)):=below_key HFR HXX.out
              have HZX:X.heap[w.heap.size]? = some (.cells #[.bool false,.int .i64 0,.bool false,.int .u8 0,.int .u8 0,.int .u8 0,.int .u8 0,.string {data:=#[]}] 61 (0,0)):=below_key HZR HXX.out
              refine ⟨_,rfl,HS1,?_⟩
              simp only [Act.put,List.setIfInBounds_toArray,List.set_cons_zero,List.set_cons_succ]
              refine heldTake (d:=some 124) (op:=.fieldAddr 61 (Operand.tmp 7) 4) (g:=none) 6 ?v6n2 rfl (by kernel_rfl) (by kernel_rfl) (by kernel_rfl) (by kernel_rfl) ?y6n2 HS1 ?_
              case y6n2=>intro o' ho W hS;simp only [execOp,ho];go_simp;try rfl
              simp only [Act.put,List.setIfInBounds_toArray,List.set_cons_zero,List.set_cons_succ]
              obtain ⟨w8,hw8⟩:∃ W,X.setCell ⟨fb,7,none⟩ (.string TD)=W:=⟨_,rfl⟩
              have hfz:X.frozen? ⟨fb,7,none⟩=false:=frozen_of_row _ _ _ _ _ HFX
              have hc7:X.cell? ⟨fb,7,none⟩=some (.string {data:=#[]}):=(bx8 HFX).2.2.2.2.2.2.2
              have HB8:Sl (Below w.heap.size w w8):=⟨by rw [← hw8];exact HS1.setCell (by show w.heap.size≤fb;have:=HFB.out;omega) _⟩
              have HF8:Sl (w8.heap[fb]? = some (.cells #[.bool true,.int .i64 (o:Int),.bool false,.int .u8 0,.int .u8 0,.int .u8 0,.int .u8 0,.string TD] 61 (0,0))):=⟨by rw [← hw8,heap_setCell_same _ _ _ _ _ _ HFX];rfl⟩
              have HZ8:Sl (w8.heap[w.heap.size]? = some (.cells #[.bool false,.int .i64 0,.bool false,.int .u8 0,.int .u8 0,.int .u8 0,.int .u8 0,.string {data:=#[]}] 61 (0,0))):=⟨by rw [← hw8,heap_setCell_other _ _ _ _ (by show w.heap.size≠fb;have:=HFB.out;omega)];exact HZX⟩
              refine heldStore (d:=none) (op:=.store 9 (Operand.tmp 124) (Operand.tmp 123)) (g:=none) (t:=0) 7 w8 rfl (by kernel_rfl) (by kernel_rfl) ?y7n2 HB8.out ?_
              case y7n2=>intro o' ho ht;simp only [execOp,ho];go_simp;first | done | rw [hw8] | rfl
              simp only [Act.put]
              refine wpAnyH_done (by kernel_rfl) ?_ _
              refine NoPanic.normal ?_
              have HQ2:Sl (getF (x :: xs) (mo:Int)=(⟨true,(o:Int),false,[0,0,0,0],(xs.drop k).take n⟩,en,0)):=⟨by rw [HQ.out];unfold fillF;rw [if_neg (by decide),if_neg (by have:=HRN.out;omega),HEN.out]<;>rfl⟩
              have HTD2:Sl (TD=strOf ((xs.drop k).take n)):=⟨by rw [← hTD,HPD.out,turn_zero (z:=[0,0,0,0]) (by decide)]<;>rfl⟩
              have HI:=fr_info (cs:=#[.bool true,.int .i64 (o:Int),.bool false,.int .u8 0,.int .u8 0,.int .u8 0,.int .u8 0,.string TD]) rfl
              obtain ⟨h0,h1,h2,h3,h4,h5,h6,h7⟩:=bx8 HF8.out
              clear hfz hc7 hw8 HZX HFX HS1 HXX HS0 HFR HZR C27 hPD hTD
              go_wp2_with (refine wpList_store_row rfl 61 (.tmp 4) (.tmp 125) rfl w.heap.size #[.bool true,.int .i64 (o:Int),.bool false,.int .u8 0,.int .u8 0,.int .u8 0,.int .u8 0,.string TD] rfl rfl 61 #[.bool false,.int .i64 0,.bool false,.int .u8 0,.int .u8 0,.int .u8 0,.int .u8 0,.string {data:=#[]}] HZ8.out HI rfl (fr_all _ _ _ _ _ _ _ _) ?_)
              refine bodyPost_ret (ret_fr rfl _ _ w.heap.size 61 _ (0,0) rfl (setRow_heap _ _ _ _ _ _ HZ8.out) rfl) rfl ?_
              rw [HQ2.out,HTD2.out]
              exact ⟨rfl,⟨below_setRow HB8.out (Nat.le_refl _) _⟩⟩
         ·subst he
          have HQ:Sl (getF (x :: xs) most=(Fr0,0,90)):=⟨by rw [HGC.out,if_neg (by rw [hbad];decide),if_neg HN6.out,hnke,if_neg (show ¬ (80:Nat)=81 by decide),if_pos rfl]⟩
          clear hnke hle HGC
          go_upto_region 12 with fail
          have HI:=fr_info (cs:=#[.bool false,.int .i64 0,.bool false,.int .u8 0,.int .u8 0,.int .u8 0,.int .u8 0,.string {data:=#[]}]) rfl
          go_wp2_with (refine wpList_store_row rfl 61 (.tmp 4) (.tmp 78) rfl w.heap.size #[.bool false,.int .i64 0,.bool false,.int .u8 0,.int .u8 0,.int .u8 0,.int .u8 0,.string {data:=#[]}] rfl rfl 61 #[.bool false,.int .i64 0,.bool false,.int .u8 0,.int .u8 0,.int .u8 0,.int .u8 0,.string {data:=#[]}] HZ3.out HI rfl (fr_all _ _ _ _ _ _ _ _) ?_)
          refine bodyPost_ret (ret_fr rfl _ _ w.heap.size 61 _ (0,0) rfl (setRow_heap _ _ _ _ _ _ HZ3.out) rfl) rfl ?_
          rw [HQ.out]
          exact ⟨rfl,⟨below_setRow HB3.out (Nat.le_refl _) _⟩⟩
         ·subst he
          have HQ:Sl (getF (x :: xs) most=(Fr0,0,91)):=⟨by rw [HGC.out,if_neg (by rw [hbad];decide),if_neg HN6.out,hnke,if_pos rfl]⟩
          clear hnke hle HGC
          go_upto_region 10 with fail
          have HI:=fr_info (cs:=#[.bool false,.int .i64 0,.bool false,.int .u8 0,.int .u8 0,.int .u8 0,.int .u8 0,.string {data:=#[]}]) rfl
          go_wp2_with (refine wpList_store_row rfl 61 (.tmp 4) (.tmp 75) rfl w.heap.size #[.bool false,.int .i64 0,.bool false,.int .u8 0,.int .u8 0,.int .u8 0,.int .u8 0,.string {data:=#[]}] rfl rfl 61 #[.bool false,.int .i64 0,.bool false,.int .u8 0,.int .u8 0,.int .u8 0,.int .u8 0,.string {data:=#[]}] HZ3.out HI rfl (fr_all _ _ _ _ _ _ _ _) ?_)
          refine bodyPost_ret (ret_fr rfl _ _ w.heap.size 61 _ (0,0) rfl (setRow_heap _ _ _ _ _ _ HZ3.out) rfl) rfl ?_
          rw [HQ.out]
          exact ⟨rfl,⟨below_setRow HB3.out (Nat.le_refl _) _⟩⟩
       ·have hq6:((s.size:Int)>1)=False:=eq_false (by rw [← hbl];simp;omega)
        have HN6:Sl (¬ (0<xs.length∧8≤x % 16∧125<xs.getD 0 0 % 128)):=⟨fun h=>hl1 h.1⟩
        obtain ⟨⟨n,k,e⟩,hnke⟩:∃ r,getL xs=r:=⟨_,rfl⟩
        have hle:=get_le xs
        rw [hnke] at hle
        have hcodes:=get_codes xs
        rw [hnke] at hcodes
        simp only at hle hcodes
        have HGC:=Sl.mk (getF_cons x xs most)
        have C29:∀ W,Calls Tryz.prog 125 #[.string (s.extract 1 s.size)] W fun e' w'=>e'=.returned (.tuple #[.int .u64 (n:Int),.int .i64 (k:Int),.int .i64 (e:Int)])∧W=w':=fun W=>by
         have:=refget_any (s.extract 1 s.size) W (by rw [ByteArray.size_extract];omega)
         rw [show bytes (s.extract 1 s.size)=xs by rw [bytes_extract,HBX.out,List.take_of_length_le (by rw [← HBX.out,bytes_length];exact Nat.le_refl _)];rfl,hnke] at this
         exact this
        go_wp2_with fail
        refine (C29 _).mono ?_
        rintro e' w' ⟨rfl,rfl⟩
        clear C29 e0 e1 e2 e3 e4 e5 e6 e7
        have he:e=80:=by
         cases xs with
         | nil=>have h2:(getL []).2.2=80:=rfl;rw [hnke] at h2;exact h2
         | cons y ys=>exact absurd (show 0<(y :: ys).length by simp) hl1
        subst he
        have HQ:Sl (getF (x :: xs) most=(Fr0,0,90)):=⟨by rw [HGC.out,if_neg (by rw [hbad];decide),if_neg HN6.out,hnke,if_neg (show ¬ (80:Nat)=81 by decide),if_pos rfl]⟩
        clear hnke hle HGC
        go_upto_region 12 with fail
        have HI:=fr_info (cs:=#[.bool false,.int .i64 0,.bool false,.int .u8 0,.int .u8 0,.int .u8 0,.int .u8 0,.string {data:=#[]}]) rfl
        go_wp2_with (refine wpList_store_row rfl 61 (.tmp 4) (.tmp 78) rfl w.heap.size #[.bool false,.int .i64 0,.bool false,.int .u8 0,.int .u8 0,.int .u8 0,.int .u8 0,.string {data:=#[]}] rfl rfl 61 #[.bool false,.int .i64 0,.bool false,.int .u8 0,.int .u8 0,.int .u8 0,.int .u8 0,.string {data:=#[]}] HZ3.out HI rfl (fr_all _ _ _ _ _ _ _ _) ?_)
        refine bodyPost_ret (ret_fr rfl _ _ w.heap.size 61 _ (0,0) rfl (setRow_heap _ _ _ _ _ _ HZ3.out) rfl) rfl ?_
        rw [HQ.out]
        exact ⟨rfl,⟨below_setRow HB3.out (Nat.le_refl _) _⟩⟩
  ·have hqo:((o:Int)>2)=False:=eq_false (by omega)
   have hct:ct=false:=by cases ct with
    | false=>rfl
    | true=>have:=CTI.out.1 (by trivial);rw [HO16.out] at this;omega
   subst hct
   have hbad:bad x=false:=by
    cases hb:bad x with
    | false=>rfl
    | true=>rcases bad_iff.out.1 hb with h | h | h;exact absurd hr0 h;exact absurd h.1 ho2;cases h.1
   have HN6:Sl (¬ (0<xs.length∧8≤x % 16∧125<xs.getD 0 0 % 128)):=⟨fun h=>by have h2:=h.2.1;rw [HO16.out] at h2;omega⟩
   go_wp2_with fail
   refine (C15 _).mono ?_
   rintro e' w' ⟨rfl,rfl⟩
   by_cases hl1:0<xs.length
   ·have hq6:((s.size:Int)>1)=True:=eq_true (by rw [← hbl];simp;omega)
    go_wp2_with fail
    refine (C15 _).mono ?_
    rintro e' w' ⟨rfl,rfl⟩
    obtain ⟨⟨n,k,e⟩,hnke⟩:∃ r,getL xs=r:=⟨_,rfl⟩
    have hle:=get_le xs
    rw [hnke] at hle
    have hcodes:=get_codes xs
    rw [hnke] at hcodes
    simp only at hle hcodes
    have HGC:=Sl.mk (getF_cons x xs most)
    have C29:∀ W,Calls Tryz.prog 125 #[.string (s.extract 1 s.size)] W fun e' w'=>e'=.returned (.tuple #[.int .u64 (n:Int),.int .i64 (k:Int),.int .i64 (e:Int)])∧W=w':=fun W=>by
     have:=refget_any (s.extract 1 s.size) W (by rw [ByteArray.size_extract];omega)
     rw [show bytes (s.extract 1 s.size)=xs by rw [bytes_extract,HBX.out,List.take_of_length_le (by rw [← HBX.out,bytes_length];exact Nat.le_refl _)];rfl,hnke] at this
     exact this
    go_wp2_with fail
    refine (C29 _).mono ?_
    rintro e' w' ⟨rfl,rfl⟩
    clear C29 e0 e1 e2 e3 e4 e5 e6 e7
    rcases hcodes with he | he | he
    ·subst he
     have HGE:Sl (getF (x :: xs) most=if most<(n:Int) then (Fr0,0,92) else fillF fin (o:Int) (decide (128≤xs.getD 0 0)) (1+k) n (xs.drop k)):=⟨by
      rw [HGC.out,if_neg (by rw [hbad];decide),if_neg HN6.out,hnke,if_neg (show ¬ (0:Nat)=81 by decide),if_neg (show ¬ (0:Nat)=80 by decide)]
      by_cases hmn:most<(n:Int)
      ·rw [if_pos hmn,if_pos hmn]
      ·rw [if_neg hmn,if_neg hmn,rest_fill,HO16.out,HFIN.out]⟩
     have hxs:0<xs.length:=by
      cases xs with
      | nil=>have h2:(getL []).2.2=80:=rfl;rw [hnke] at h2;cases h2
      | cons y ys=>simp
     obtain ⟨y,hy⟩:∃ y,xs.getD 0 0=y:=⟨_,rfl⟩
     rw [hy] at HGE
     have h1s:1<s.size:=by rw [← hbl];simp;omega
     have hxl:xs.length+1=s.size:=by rw [← hbl];simp
     have hy1:(s[1]'h1s).toNat=y:=by rw [bytes_tail s x xs HBX.out 0 h1s];exact hy
     by_cases hneg:most<0
     ·have hq1:(most<0)=True:=eq_true hneg
      have HQ:Sl (getF (x :: xs) most=(Fr0,0,92)):=⟨by rw [HGE.out];exact if_pos (by omega)⟩
      clear hneg hnke hle HGC
      go_upto_region 14 with fail
      have HI:=fr_info (cs:=#[.bool false,.int .i64 0,.bool false,.int .u8 0,.int .u8 0,.int .u8 0,.int .u8 0,.string {data:=#[]}]) rfl
      go_wp2_with (refine wpList_store_row rfl 61 (.tmp 4) (.tmp 87) rfl w.heap.size #[.bool false,.int .i64 0,.bool false,.int .u8 0,.int .u8 0,.int .u8 0,.int .u8 0,.string {data:=#[]}] rfl rfl 61 #[.bool false,.int .i64 0,.bool false,.int .u8 0,.int .u8 0,.int .u8 0,.int .u8 0,.string {data:=#[]}] HZ3.out HI rfl (fr_all _ _ _ _ _ _ _ _) ?_)
      refine bodyPost_ret (ret_fr rfl _ _ w.heap.size 61 _ (0,0) rfl (setRow_heap _ _ _ _ _ _ HZ3.out) rfl) rfl ?_
      rw [HQ.out]
      exact ⟨rfl,⟨below_setRow HB3.out (Nat.le_refl _) _⟩⟩
     ·have hq1:(most<0)=False:=eq_false hneg
      obtain ⟨mo,rfl⟩:=Int.eq_ofNat_of_zero_le (show 0≤most by omega)
      have hmw:IntKind.u64.wrap (mo:Int)=(mo:Int):=by rw [IntKind.wrap_u64];omega
      by_cases hov:mo<n
      ·have hq2:((n:Int)>(mo:Int))=True:=eq_true (by omega)
       have HQ:Sl (getF (x :: xs) (mo:Int)=(Fr0,0,92)):=⟨by rw [HGE.out];exact if_pos (by omega)⟩
       clear hneg hnke hle HGC
       go_upto_region 14 with fail
       have HI:=fr_info (cs:=#[.bool false,.int .i64 0,.bool false,.int .u8 0,.int .u8 0,.int .u8 0,.int .u8 0,.string {data:=#[]}]) rfl
       go_wp2_with (refine wpList_store_row rfl 61 (.tmp 4) (.tmp 87) rfl w.heap.size #[.bool false,.int .i64 0,.bool false,.int .u8 0,.int .u8 0,.int .u8 0,.int .u8 0,.string {data:=#[]}] rfl rfl 61 #[.bool false,.int .i64 0,.bool false,.int .u8 0,.int .u8 0,.int .u8 0,.int .u8 0,.string {data:=#[]}] HZ3.out HI rfl (fr_all _ _ _ _ _ _ _ _) ?_)
       refine bodyPost_ret (ret_fr rfl _ _ w.heap.size 61 _ (0,0) rfl (setRow_heap _ _ _ _ _ _ HZ3.out) rfl) rfl ?_
       rw [HQ.out]
       exact ⟨rfl,⟨below_setRow HB3.out (Nat.le_refl _) _⟩⟩
      ·have hq2:((n:Int)>(mo:Int))=False:=eq_false (by omega)
       obtain ⟨pk,hpk⟩:∃ pk,1+k=pk:=⟨_,rfl⟩
       have HQ:Sl (getF (x :: xs) (mo:Int)=fillF fin (o:Int) (decide (128≤y)) pk n (xs.drop k)):=⟨by rw [HGE.out,if_neg (by omega),hpk]⟩
       have hwk:IntKind.i64.wrap (1+(k:Int))=(pk:Int):=by rw [IntKind.wrap_i64];omega
       obtain ⟨rl,hrl⟩:∃ rl,(xs.drop k).length=rl:=⟨_,rfl⟩
       have hrl2:pk+rl=s.size:=by rw [← hrl,List.length_drop,← hbl,List.length_cons];omega
       have hpks:pk≤s.size:=by omega
       obtain ⟨RS,hRS⟩:∃ RS,s.extract pk s.size=RS:=⟨_,rfl⟩
       have HRS:Sl (bytes RS=xs.drop k∧RS.size=rl):=⟨by rw [← hRS,bytes_extract,HBX.out,List.take_of_length_le (by rw [← HBX.out,bytes_length];exact Nat.le_refl _),← hpk,Nat.add_comm];rfl,by rw [← hRS,ByteArray.size_extract];omega⟩
       have hrz:=HRS.out.2
       have hn64:n≤9223372036854775807:=by omega
       have hwl:IntKind.u64.wrap (rl:Int)=(rl:Int):=by rw [IntKind.wrap_u64];omega
       clear hneg hov hnke hle HGC HGE
       by_cases h128:128≤y
       ·have hqy:((y:Int)≥128)=True:=eq_true (by omega)
        rw [decide_eq_true h128] at HQ
        have z2:w3.frozen? ⟨fb,2,none⟩=false:=frozen_of_row _ _ _ _ _ HF3.out
        obtain ⟨f0,f1,f2,f3,f4,f5,f6,f7⟩:=bx8 HF3.out
        obtain ⟨w4,hw4⟩:∃ W,w3.setCell ⟨fb,2,none⟩ (.bool true)=W:=⟨_,rfl⟩
        have HB4:Sl (Below w.heap.size w w4):=⟨by rw [← hw4];exact HB3.out.setCell (by show w.heap.size≤fb;have:=HFB.out;omega) _⟩
        have HF4:Sl (w4.heap[fb]? = some (.cells #[.bool fin,.int .i64 (o:Int),.bool true,.int .u8 0,.int .u8 0,.int .u8 0,.int .u8 0,.string {data:=#[]}] 61 (0,0))):=⟨by rw [← hw4,heap_setCell_same _ _ _ _ _ _ HF3.out];rfl⟩
        have HZ4:Sl (w4.heap[w.heap.size]? = some (.cells #[.bool false,.int .i64 0,.bool false,.int .u8 0,.int .u8 0,.int .u8 0,.int .u8 0,.string {data:=#[]}] 61 (0,0))):=⟨by rw [← hw4,heap_setCell_other _ _ _ _ (by show w.heap.size≠fb;have:=HFB.out;omega)];exact HZ3.out⟩
        by_cases h4:rl<4
        ·have hq4:((rl:Int)<4)=True:=eq_true (by omega)
         have HQ1:=HQ
         have HQ:Sl (getF (x :: xs) (mo:Int)=(Fr0,0,90)):=⟨by rw [HQ1.out];unfold fillF;rw [if_pos rfl,if_pos (by omega)]⟩
         clear HQ1 h4 h128
         go_upto_region 19 with fail
         have HI:=fr_info (cs:=#[.bool false,.int .i64 0,.bool false,.int .u8 0,.int .u8 0,.int .u8 0,.int .u8 0,.string {data:=#[]}]) rfl
         go_wp2_with (refine wpList_store_row rfl 61 (.tmp 4) (.tmp 99) rfl w.heap.size #[.bool false,.int .i64 0,.bool false,.int .u8 0,.int .u8 0,.int .u8 0,.int .u8 0,.string {data:=#[]}] rfl rfl 61 #[.bool false,.int .i64 0,.bool false,.int .u8 0,.int .u8 0,.int .u8 0,.int .u8 0,.string {data:=#[]}] HZ4.out HI rfl (fr_all _ _ _ _ _ _ _ _) ?_)
         refine bodyPost_ret (ret_fr rfl _ _ w.heap.size 61 _ (0,0) rfl (setRow_heap _ _ _ _ _ _ HZ4.out) rfl) rfl ?_
         rw [HQ.out]
         exact ⟨rfl,⟨below_setRow HB4.out (Nat.le_refl _) _⟩⟩
        ·have hq4:((rl:Int)<4)=False:=eq_false (by omega)
         obtain ⟨a,b,c,d,hkey⟩:=four_of (xs.drop k) (by omega)
         have HKS:Sl (Small 256 [a,b,c,d]):=⟨by rw [← hkey];exact (HXS.out.drop k).take 4⟩
         have HKEY:=Sl.mk hkey
         have HIX:Sl (∀ i v,i<4→[a,b,c,d].getD i 0=v→(xs.drop k).getD i 0=v):=⟨fun i v hi hv=>by
          rw [← hv,← hkey]
          simp only [List.getD_eq_getElem?_getD,List.getElem?_take_of_lt hi]⟩
         have h4r:4≤(xs.drop k).length:=by omega
         have H4R:=Sl.mk h4r
         obtain ⟨R4,hR4⟩:∃ R4,RS.extract 4 RS.size=R4:=⟨_,rfl⟩
         have hR4':RS.extract 4 rl=R4:=by rw [← hrz];exact hR4
         obtain ⟨r4,hr4⟩:∃ r4,rl-4=r4:=⟨_,rfl⟩
         have HR4:Sl (bytes R4=(xs.drop k).drop 4∧R4.size=r4):=⟨by rw [← hR4,bytes_extract,HRS.out.1,List.take_of_length_le (by rw [hrl,hrz];exact Nat.le_refl _)],by rw [← hR4,ByteArray.size_extract];omega⟩
         have hr4z:=HR4.out.2
         have HR4L:Sl ((xs.drop k).drop 4=(xs.drop k).drop 4):=⟨rfl⟩
         have hwl4:IntKind.u64.wrap (r4:Int)=(r4:Int):=by rw [IntKind.wrap_u64];omega
         clear hwl hkey
         go_upto_region 20 with fail
         obtain ⟨Rw,hR⟩:∃ Rw,w4.drew=Rw:=⟨_,rfl⟩
         have HS0:Below w.heap.size w Rw:=by rw [← hR];exact HB4.out.drew
         have HFR:Rw.heap[fb]? = some (.cells #[.bool fin,.int .i64 (o:Int),.bool true,.int .u8 0,.int .u8 0,.int .u8 0,.int .u8 0,.string {data:=#[]}] 61 (0,0)):=by rw [← hR];exact HF4.out
         have HZR:Rw.heap[w.heap.size]? = some (.cells #[.bool false,.int .i64 0,.bool false,.int .u8 0,.int .u8 0,.int .u8 0,.int .u8 0,.string {data:=#[]}] 61 (0,0)):=by rw [← hR];exact HZ4.out
         refine wp_region_noPanic ?_
         refine wp_region_held (S:=fun W=>Below w.heap.size w W) (by kernel_rfl) ?_
         change wpAnyH _ _ _ _ _ _ _ _ w4.drew
         rw [hR]
         clear hR HB4 HF4 HZ4 z2 f0 f1 f2 f3 f4 f5 f6 f7 hw4
         refine heldTake (d:=some 100) (op:=.move (Operand.tmp 11)) (g:=none) 0 ?v0n8 rfl (by kernel_rfl) (by kernel_rfl) (by kernel_rfl) (by kernel_rfl) ?y0n8 HS0 ?_
         case y0n8=>intro o' ho W hS;simp only [execOp,ho];go_simp;try rfl
         simp only [Act.put,List.setIfInBounds_toArray,List.set_cons_zero,List.set_cons_succ]
         refine heldTake (d:=some 101) (op:=.index 9 (Operand.tmp 100) (Operand.const (Value.int IntKind.i64 0))) (g:=none) 1 (.int .u8 (a:Int)) rfl (by kernel_rfl) (by kernel_rfl) (by kernel_rfl) (by kernel_rfl) ?y1n8 HS0 ?_
         case y1n8=>intro o' ho W hS;exact index_at (i:=0) ho (by rfl) (by rfl) ⟨HRS.out.1,by have:=H4R.out;omega⟩ (HIX.out 0 _ (by decide) rfl)
         simp only [Act.put,List.setIfInBounds_toArray,List.set_cons_zero,List.set_cons_succ]
         refine heldTake (d:=some 102) (op:=.move (Operand.tmp 11)) (g:=none) 2 ?v2n8 rfl (by kernel_rfl) (by kernel_rfl) (by kernel_rfl) (by kernel_rfl) ?y2n8 HS0 ?_
         case y2n8=>intro o' ho W hS;simp only [execOp,ho];go_simp;try rfl
         simp only [Act.put,List.setIfInBounds_toArray,List.set_cons_zero,List.set_cons_succ]
         refine heldTake (d:=some 103) (op:=.index 9 (Operand.tmp 102) (Operand.const (Value.int IntKind.i64 1))) (g:=none) 3 (.int .u8 (b:Int)) rfl (by kernel_rfl) (by kernel_rfl) (by kernel_rfl) (by kernel_rfl) ?y3n8 HS0 ?_
         case y3n8=>intro o' ho W hS;exact index_at (i:=1) ho (by rfl) (by rfl) ⟨HRS.out.1,by have:=H4R.out;omega⟩ (HIX.out 1 _ (by decide) rfl)
         simp only [Act.put,List.setIfInBounds_toArray,List.set_cons_zero,List.set_cons_succ]
         refine heldTake (d:=some 104) (op:=.move (Operand.tmp 11)) (g:=none) 4 ?v4n8 rfl (by kernel_rfl) (by kernel_rfl) (by kernel_rfl) (by kernel_rfl) ?y4n8 HS0 ?_
         case y4n8=>intro o' ho W hS;simp only [execOp,ho];go_simp;try rfl
         simp only [Act.put,List.setIfInBounds_toArray,List.set_cons_zero,List.set_cons_succ]
         refine heldTake (d:=some 105) (op:=.index 9 (Operand.tmp 104) (Operand.const (Value.int IntKind.i64 2))) (g:=none) 5 (.int .u8 (c:Int)) rfl (by kernel_rfl) (by kernel_rfl) (by kernel_rfl) (by kernel_rfl) ?y5n8 HS0 ?_
         case y5n8=>intro o' ho W hS;exact index_at (i:=2) ho (by rfl) (by rfl) ⟨HRS.out.1,by have:=H4R.out;omega⟩ (HIX.out 2 _ (by decide) rfl)
         simp only [Act.put,List.setIfInBounds_toArray,List.set_cons_zero,List.set_cons_succ]
         refine heldTake (d:=some 106) (op:=.move (Operand.tmp 11)) (g:=none) 6 ?v6n8 rfl (by kernel_rfl) (by kernel_rfl) (by kernel_rfl) (by kernel_rfl) ?y6n8 HS0 ?_
         case y6n8=>intro o' ho W hS;simp only [execOp,ho];go_simp;try rfl
         simp only [Act.put,List.setIfInBounds_toArray,List.set_cons_zero,List.set_cons_succ]
         refine heldTake (d:=some 107) (op:=.index 9 (Operand.tmp 106) (Operand.const (Value.int IntKind.i64 3))) (g:=none) 7 (.int .u8 (d:Int)) rfl (by kernel_rfl) (by kernel_rfl) (by kernel_rfl) (by kernel_rfl) ?y7n8 HS0 ?_
         case y7n8=>intro o' ho W hS;exact index_at (i:=3) ho (by rfl) (by rfl) ⟨HRS.out.1,by have:=H4R.out;omega⟩ (HIX.out 3 _ (by decide) rfl)
         simp only [Act.put,List.setIfInBounds_toArray,List.set_cons_zero,List.set_cons_succ]
         refine heldTake (d:=some 108) (op:=.build 59 #[(0,Operand.tmp 101),(1,Operand.tmp 103),(2,Operand.tmp 105),(3,Operand.tmp 107)]) (g:=none) 8 ?v8n8 rfl (by kernel_rfl) (by kernel_rfl) (by kernel_rfl) (by kernel_rfl) ?y8n8 HS0 ?_
         case y8n8=>intro o' ho W hS;simp only [execOp,ho];go_simp;try rfl
         simp only [Act.put,List.setIfInBounds_toArray,List.set_cons_zero,List.set_cons_succ]
         refine heldTake (d:=some 109) (op:=.fieldAddr 61 (Operand.tmp 7) 3) (g:=none) 9 ?v9n8 rfl (by kernel_rfl) (by kernel_rfl) (by kernel_rfl) (by kernel_rfl) ?y9n8 HS0 ?_
         case y9n8=>intro o' ho W hS;simp only [execOp,ho];go_simp;try rfl
         simp only [Act.put,List.setIfInBounds_toArray,List.set_cons_zero,List.set_cons_succ]
         obtain ⟨w5,hw5⟩:∃ W,Rw.setRow fb #[.bool fin,.int .i64 (o:Int),.bool true,.int .u8 (a:Int),.int .u8 (b:Int),.int .u8 (c:Int),.int .u8 (d:Int),.string {data:=#[]}]=W:=⟨_,rfl⟩
         have HB5:Sl (Below w.heap.size w w5):=⟨by rw [← hw5];exact below_setRow HS0 (by have:=HFB.out;omega) _⟩
         have HF5:Sl (w5.heap[fb]? = some (.cells #[.bool fin,.int .i64 (o:Int),.bool true,.int .u8 (a:Int),.int .u8 (b:Int),.int .u8 (c:Int),.int .u8 (d:Int),.string {data:=#[]}] 61 (0,0))):=⟨by rw [← hw5];exact setRow_heap _ _ _ _ _ _ HFR⟩
         have HZ5:Sl (w5.heap[w.heap.size]? = some (.cells #[.bool false,.int .i64 0,.bool false,.int .u8 0,.int .u8 0,.int .u8 0,.int .u8 0,.string {data:=#[]}] 61 (0,0))):=⟨by rw [← hw5,setRow_other _ _ _ _ (by have:=HFB.out;omega)];exact HZR⟩
         refine heldStore (d:=none) (op:=.store 59 (Operand.tmp 109) (Operand.tmp 108)) (g:=none) (t:=0) 10 w5 rfl (by kernel_rfl) (by kernel_rfl) ?y10n8 HB5.out ?_
         case y10n8=>intro o' ho ht;rw [← hw5];exact store_key0 (a:=0) (b:=0) (c:=0) (d:=0) ho (by rfl) (by rfl) HFR
         simp only [Act.put]
         refine wpAnyH_done (by kernel_rfl) ?_ _
         refine NoPanic.normal ?_
         clear HS0 HFR HZR hw5
         have h4p:4≤rl:=by omega
         have h4i:(4:Int)≤(rl:Int):=by omega
         have h4t:((4:Int)≤(rl:Int))=True:=eq_true h4i
         by_cases hrn:r4<n
         ·have hqn:((r4:Int)<(n:Int))=True:=eq_true (by omega)
          have HQ1:=HQ
          have HQ:Sl (getF (x :: xs) (mo:Int)=(Fr0,0,90)):=⟨by rw [HQ1.out];unfold fillF;rw [if_pos rfl,if_pos (by omega)]⟩
          clear HQ1 h4 h128 hrn
          go_upto_region 23 with fail
          have HI:=fr_info (cs:=#[.bool false,.int .i64 0,.bool false,.int .u8 0,.int .u8 0,.int .u8 0,.int .u8 0,.string {data:=#[]}]) rfl
          go_wp2_with (refine wpList_store_row rfl 61 (.tmp 4) (.tmp 117) rfl w.heap.size #[.bool false,.int .i64 0,.bool false,.int .u8 0,.int .u8 0,.int .u8 0,.int .u8 0,.string {data:=#[]}] rfl rfl 61 #[.bool false,.int .i64 0,.bool false,.int .u8 0,.int .u8 0,.int .u8 0,.int .u8 0,.string {data:=#[]}] HZ5.out HI rfl (fr_all _ _ _ _ _ _ _ _) ?_)
          refine bodyPost_ret (ret_fr rfl _ _ w.heap.size 61 _ (0,0) rfl (setRow_heap _ _ _ _ _ _ HZ5.out) rfl) rfl ?_
          rw [HQ.out]
          exact ⟨rfl,⟨below_setRow HB5.out (Nat.le_refl _) _⟩⟩
         ·have hqn:((r4:Int)<(n:Int))=False:=eq_false (by omega)
          have HRN:Sl (n≤R4.size∧4+n≤(xs.drop k).length):=⟨by omega,by omega⟩
          obtain ⟨en,hen⟩:∃ en,pk+4+n=en:=⟨_,rfl⟩
          have HEN:=Sl.mk hen
          have z4:IntKind.i64.wrap ((s.size:Int)-(r4:Int))=((pk+4:Nat):Int):=by rw [IntKind.wrap_i64];omega
          obtain ⟨p4,hp4⟩:∃ p4,pk+4=p4:=⟨_,rfl⟩
          rw [hp4] at z4
          have z5:IntKind.i64.wrap ((p4:Int)+(n:Int))=(en:Int):=by rw [IntKind.wrap_i64];omega
          clear hrn h4 h128 hrl
          obtain ⟨PD,hPD⟩:∃ PD,R4.extract 0 n=PD:=⟨_,rfl⟩
          have HPD:Sl (bytes PD=((xs.drop k).drop 4).take n):=⟨by rw [← hPD,bytes_extract,List.drop_zero,HR4.out.1]⟩
          obtain ⟨TD,hTD⟩:∃ TD,strOf (turn [a,b,c,d] (rest4 0) (bytes PD))=TD:=⟨_,rfl⟩
          have C27:∀ W,Calls Tryz.prog 126 #[.agg #[.int .u8 (a:Int),.int .u8 (b:Int),.int .u8 (c:Int),.int .u8 (d:Int)],.int .i64 0,.string PD] W fun e w'=>e=.returned (.string TD)∧Sl (Below W.heap.size W w'):=fun W=>by rw [← hTD];exact refapply_any [a,b,c,d] 0 PD W rfl HKS.out (by rw [← hPD,ByteArray.size_extract];omega)
          have hw48:IntKind.i64.wrap (n:Int)=(n:Int):=by rw [IntKind.wrap_i64];omega
          go_upto_region 24 with fail
          obtain ⟨Rw,hR⟩:∃ Rw,w5.drew=Rw:=⟨_,rfl⟩
          have HS0:Below w.heap.size w Rw:=by rw [← hR];exact HB5.out.drew
          have HFR:Rw.heap[fb]? = some (.cells #[.bool fin,.int .i64 (o:Int),.bool true,.int .u8 (a:Int),.int .u8 (b:Int),.int .u8 (c:Int),.int .u8 (d:Int),.string {data:=#[]}] 61 (0,0)):=by rw [← hR];exact HF5.out
          have HZR:Rw.heap[w.heap.size]? = some (.cells #[.bool false,.int .i64 0,.bool false,.int .u8 0,.int .u8 0,.int .u8 0,.int .u8 0,.string {data:=#[]}] 61 (0,0)):=by rw [← hR];exact HZ5.out
          refine wp_region_noPanic ?_
          refine wp_region_held (S:=fun W=>Below w.heap.size w W) (by kernel_rfl) ?_
          change wpAnyH _ _ _ _ _ _ _ _ w5.drew
          rw [hR]
          clear hR HB5 HF5 HZ5
          refine heldTake (d:=some 118) (op:=.fieldAddr 61 (Operand.tmp 7) 3) (g:=none) 0 ?v0n6 rfl (by kernel_rfl) (by kernel_rfl) (by kernel_rfl) (by kernel_rfl) ?y0n6 HS0 ?_
          case y0n6=>intro o' ho W hS;simp only [execOp,ho];go_simp;try rfl
          simp only [Act.put,List.setIfInBounds_toArray,List.set_cons_zero,List.set_cons_succ]
          refine heldTake (d:=some 120) (op:=.move (Operand.tmp 11)) (g:=none) 2 ?v2n6 rfl (by kernel_rfl) (by kernel_rfl) (by kernel_rfl) (by kernel_rfl) ?y2n6 HS0 ?_
          case y2n6=>intro o' ho W hS;simp only [execOp,ho];go_simp;try rfl
          simp only [Act.put,List.setIfInBounds_toArray,List.set_cons_zero,List.set_cons_succ]
          refine heldTake (d:=some 121) (op:=.move (Operand.tmp 8)) (g:=none) 3 ?v3n6 rfl (by kernel_rfl) (by kernel_rfl) (by kernel_rfl) (by kernel_rfl) ?y3n6 HS0 ?_
          case y3n6=>intro o' ho W hS;simp only [execOp,ho];go_simp;try rfl
          simp only [Act.put,List.setIfInBounds_toArray,List.set_cons_zero,List.set_cons_succ]
          refine heldTake (d:=some 122) (op:=.slice 9 (Operand.tmp 120) none (some (Operand.tmp 121)) none) (g:=none) 4 (.string PD) rfl (by kernel_rfl) (by kernel_rfl) (by kernel_rfl) (by kernel_rfl) ?y4n6 HS0 ?_
          case y4n6=>intro o' ho W hS;exact upto_run ho (by rfl) (by rfl) (by have:=HRN.out;omega) hPD
          simp only [Act.put,List.setIfInBounds_toArray,List.set_cons_zero,List.set_cons_succ]
          refine heldRunT (d:=some 119) (op:=.load 59 (Operand.tmp 118)) (g:=none) (t:=59) 1 (.agg #[.int .u8 (a:Int),.int .u8 (b:Int),.int .u8 (c:Int),.int .u8 (d:Int)]) Rw rfl (by kernel_rfl) (by kernel_rfl) ?y1n6 HS0 ?_
          case y1n6=>intro o' ho _;simp only [execOp,ho];obtain ⟨f0,f1,f2,f3,f4,f5,f6,f7⟩:=bx8 HFR;go_simp;try rfl
          simp only [Act.put,List.setIfInBounds_toArray,List.set_cons_zero,List.set_cons_succ]
          refine heldCall (d:=some 123) (op:=.call {callee:=Callee.value (Operand.func 126),args:=#[Operand.tmp 119,Operand.const (Value.int IntKind.i64 0),Operand.tmp 122],argTypes:=#[59,3,9]}) (g:=none) 5 126 #[.agg #[.int .u8 (a:Int),.int .u8 (b:Int),.int .u8 (c:Int),.int .u8 (d:Int)],.int .i64 0,.string PD] rfl (by kernel_rfl) (by kernel_rfl) ?y5n6 ?_
          case y5n6=>intro o' ho;simp only [execOp,ho];go_simp;try rfl
          refine (C27 Rw).mono ?_
          rintro e X ⟨rfl,HXX⟩
          have HS1:Below w.heap.size w X:=HS0.trans (HXX.out.mono HS0.size)
          have HFX:X.heap[fb]? = some (.cells #[.bool fin,.int .i64 (o:Int),.bool true,.int .u8 (a:Int),.int .u8 (b:Int),.int .u8 (c:Int),.int .u8 (d:Int),.string {data:=#[]}] 61 (0,0)):=below_key HFR HXX.out
          have HZX:X.heap[w.heap.size]? = some (.cells #[.bool false,.int .i64 0,.bool false,.int .u8 0,.int .u8 0,.int .u8 0,.int .u8 0,.string {data:=#[]}] 61 (0,0)):=below_key HZR HXX.out
          refine ⟨_,rfl,HS1,?_⟩
          simp only [Act.put,List.setIfInBounds_toArray,List.set_cons_zero,List.set_cons_succ]
          refine heldTake (d:=some 124) (op:=.fieldAddr 61 (Operand.tmp 7) 4) (g:=none) 6 ?v6n6 rfl (by kernel_rfl) (by kernel_rfl) (by kernel_rfl) (by kernel_rfl) ?y6n6 HS1 ?_
          case y6n6=>intro o' ho W hS;simp only [execOp,ho];go_simp;try rfl
          simp only [Act.put,List.setIfInBounds_toArray,List.set_cons_zero,List.set_cons_succ]
          obtain ⟨w8,hw8⟩:∃ W,X.setCell ⟨fb,7,none⟩ (.string TD)=W:=⟨_,rfl⟩
          have hfz:X.frozen? ⟨fb,7,none⟩=false:=frozen_of_row _ _ _ _ _ HFX
          have hc7:X.cell? ⟨fb,7,none⟩=some (.string {data:=#[]}):=(bx8 HFX).2.2.2.2.2.2.2
          have HB8:Sl (Below w.heap.size w w8):=⟨by rw [← hw8];exact HS1.setCell (by show w.heap.size≤fb;have:=HFB.out;omega) _⟩
          have HF8:Sl (w8.heap[fb]? = some (.cells #[.bool fin,.int .i64 (o:Int),.bool true,.int .u8 (a:Int),.int .u8 (b:Int),.int .u8 (c:Int),.int .u8 (d:Int),.string TD] 61 (0,0))):=⟨by rw [← hw8,heap_setCell_same _ _ _ _ _ _ HFX];rfl⟩
          have HZ8:Sl (w8.heap[w.heap.size]? = some (.cells #[.bool false,.int .i64 0,.bool false,.int .u8 0,.int .u8 0,.int .u8 0,.int .u8 0,.string {data:=#[]}] 61 (0,0))):=⟨by rw [← hw8,heap_setCell_other _ _ _ _ (by show w.heap.size≠fb;have:=HFB.out;omega)];exact HZX⟩
          refine heldStore (d:=none) (op:=.store 9 (Operand.tmp 124) (Operand.tmp 123)) (g:=none) (t:=0) 7 w8 rfl (by kernel_rfl) (by kernel_rfl) ?y7n6 HB8.out ?_
          case y7n6=>intro o' ho ht;simp only [execOp,ho];go_simp;first | done | rw [hw8] | rfl
          simp only [Act.put]
          refine wpAnyH_done (by kernel_rfl) ?_ _
          refine NoPanic.normal ?_
          have HQ2:Sl (getF (x :: xs) (mo:Int)=(⟨fin,(o:Int),true,[a,b,c,d],turn [a,b,c,d] 0 (((xs.drop k).drop 4).take n)⟩,en,0)):=⟨by rw [HQ.out];unfold fillF;rw [if_pos rfl,if_neg (by have:=HRN.out;omega),HKEY.out,HEN.out]<;>rfl⟩
          have HTD2:Sl (TD=strOf (turn [a,b,c,d] 0 (((xs.drop k).drop 4).take n))):=⟨by rw [← hTD,HPD.out]<;>rfl⟩
          have HI:=fr_info (cs:=#[.bool fin,.int .i64 (o:Int),.bool true,.int .u8 (a:Int),.int .u8 (b:Int),.int .u8 (c:Int),.int .u8 (d:Int),.string TD]) rfl
          obtain ⟨h0,h1,h2,h3,h4,h5,h6,h7⟩:=bx8 HF8.out
          clear hfz hc7 hw8 HZX HFX HS1 HXX HS0 HFR HZR C27 hPD hTD
          go_wp2_with (refine wpList_store_row rfl 61 (.tmp 4) (.tmp 125) rfl w.heap.size #[.bool fin,.int .i64 (o:Int),.bool true,.int .u8 (a:Int),.int .u8 (b:Int),.int .u8 (c:Int),.int .u8 (d:Int),.string TD] rfl rfl 61 #[.bool false,.int .i64 0,.bool false,.int .u8 0,.int .u8 0,.int .u8 0,.int .u8 0,.string {data:=#[]}] HZ8.out HI rfl (fr_all _ _ _ _ _ _ _ _) ?_)
          refine bodyPost_ret (ret_fr rfl _ _ w.heap.size 61 _ (0,0) rfl (setRow_heap _ _ _ _ _ _ HZ8.out) rfl) rfl ?_
          rw [HQ2.out,HTD2.out]
          exact ⟨rfl,⟨below_setRow HB8.out (Nat.le_refl _) _⟩⟩
       ·have hqy:((y:Int)≥128)=False:=eq_false (by omega)
        rw [decide_eq_false h128] at HQ
        by_cases hrn:rl<n
        ·have hqn:((rl:Int)<(n:Int))=True:=eq_true (by omega)
         have HQ1:=HQ
         have HQ:Sl (getF (x :: xs) (mo:Int)=(Fr0,0,90)):=⟨by rw [HQ1.out];unfold fillF;rw [if_neg (by decide),if_pos (by omega)]⟩
         clear HQ1 h128 hrn
         go_upto_region 23 with fail
         have HI:=fr_info (cs:=#[.bool false,.int .i64 0,.bool false,.int .u8 0,.int .u8 0,.int .u8 0,.int .u8 0,.string {data:=#[]}]) rfl
         go_wp2_with (refine wpList_store_row rfl 61 (.tmp 4) (.tmp 117) rfl w.heap.size #[.bool false,.int .i64 0,.bool false,.int .u8 0,.int .u8 0,.int .u8 0,.int .u8 0,.string {data:=#[]}] rfl rfl 61 #[.bool false,.int .i64 0,.bool false,.int .u8 0,.int .u8 0,.int .u8 0,.int .u8 0,.string {data:=#[]}] HZ3.out HI rfl (fr_all _ _ _ _ _ _ _ _) ?_)
         refine bodyPost_ret (ret_fr rfl _ _ w.heap.size 61 _ (0,0) rfl (setRow_heap _ _ _ _ _ _ HZ3.out) rfl) rfl ?_
         rw [HQ.out]
         exact ⟨rfl,⟨below_setRow HB3.out (Nat.le_refl _) _⟩⟩
        ·have hqn:((rl:Int)<(n:Int))=False:=eq_false (by omega)
         have HRN:Sl (n≤RS.size∧n≤(xs.drop k).length):=⟨by omega,by omega⟩
         obtain ⟨en,hen⟩:∃ en,pk+n=en:=⟨_,rfl⟩
         have HEN:=Sl.mk hen
         have z4:IntKind.i64.wrap ((s.size:Int)-(rl:Int))=(pk:Int):=by rw [IntKind.wrap_i64];omega
         have z5:IntKind.i64.wrap ((pk:Int)+(n:Int))=(en:Int):=by rw [IntKind.wrap_i64];omega
         clear hrn h128 hrl
         obtain ⟨PD,hPD⟩:∃ PD,RS.extract 0 n=PD:=⟨_,rfl⟩
         have HPD:Sl (bytes PD=(xs.drop k).take n):=⟨by rw [← hPD,bytes_extract,List.drop_zero,HRS.out.1]⟩
         obtain ⟨TD,hTD⟩:∃ TD,strOf (turn [0,0,0,0] (rest4 0) (bytes PD))=TD:=⟨_,rfl⟩
         have C27:∀ W,Calls Tryz.prog 126 #[.agg #[.int .u8 0,.int .u8 0,.int .u8 0,.int .u8 0],.int .i64 0,.string PD] W fun e w'=>e=.returned (.string TD)∧Sl (Below W.heap.size W w'):=fun W=>by rw [← hTD];exact refapply_any [0,0,0,0] 0 PD W rfl (fun x hx=>by simp at hx;omega) (by rw [← hPD,ByteArray.size_extract];omega)
         have hw48:IntKind.i64.wrap (n:Int)=(n:Int):=by rw [IntKind.wrap_i64];omega
         go_upto_region 24 with fail
         obtain ⟨Rw,hR⟩:∃ Rw,w3.drew=Rw:=⟨_,rfl⟩
         have HS0:Below w.heap.size w Rw:=by rw [← hR];exact HB3.out.drew
         have HFR:Rw.heap[fb]? = some (.cells #[.bool fin,.int .i64 (o:Int),.bool false,.int .u8 0,.int .u8 0,.int .u8 0,.int .u8 0,.string {data:=#[]}] 61 (0,0)):=by rw [← hR];exact HF3.out
         have HZR:Rw.heap[w.heap.size]? = some (.cells #[.bool false,.int .i64 0,.bool false,.int .u8 0,.int .u8 0,.int .u8 0,.int .u8 0,.string {data:=#[]}] 61 (0,0)):=by rw [← hR];exact HZ3.out
         refine wp_region_noPanic ?_
         refine wp_region_held (S:=fun W=>Below w.heap.size w W) (by kernel_rfl) ?_
         change wpAnyH _ _ _ _ _ _ _ _ w3.drew
         rw [hR]
         clear hR HB3 HF3 HZ3
         refine heldTake (d:=some 118) (op:=.fieldAddr 61 (Operand.tmp 7) 3) (g:=none) 0 ?v0n7 rfl (by kernel_rfl) (by kernel_rfl) (by kernel_rfl) (by kernel_rfl) ?y0n7 HS0 ?_
         case y0n7=>intro o' ho W hS;simp only [execOp,ho];go_simp;try rfl
         simp only [Act.put,List.setIfInBounds_toArray,List.set_cons_zero,List.set_cons_succ]
         refine heldTake (d:=some 120) (op:=.move (Operand.tmp 11)) (g:=none) 2 ?v2n7 rfl (by kernel_rfl) (by kernel_rfl) (by kernel_rfl) (by kernel_rfl) ?y2n7 HS0 ?_
         case y2n7=>intro o' ho W hS;simp only [execOp,ho];go_simp;try rfl
         simp only [Act.put,List.setIfInBounds_toArray,List.set_cons_zero,List.set_cons_succ]
         refine heldTake (d:=some 121) (op:=.move (Operand.tmp 8)) (g:=none) 3 ?v3n7 rfl (by kernel_rfl) (by kernel_rfl) (by kernel_rfl) (by kernel_rfl) ?y3n7 HS0 ?_
         case y3n7=>intro o' ho W hS;simp only [execOp,ho];go_simp;try rfl
         simp only [Act.put,List.setIfInBounds_toArray,List.set_cons_zero,List.set_cons_succ]
         refine heldTake (d:=some 122) (op:=.slice 9 (Operand.tmp 120) none (some (Operand.tmp 121)) none) (g:=none) 4 (.string PD) rfl (by kernel_rfl) (by kernel_rfl) (by kernel_rfl) (by kernel_rfl) ?y4n7 HS0 ?_
         case y4n7=>intro o' ho W hS;exact upto_run ho (by rfl) (by rfl) (by have:=HRN.out;omega) hPD
         simp only [Act.put,List.setIfInBounds_toArray,List.set_cons_zero,List.set_cons_succ]
         refine heldRunT (d:=some 119) (op:=.load 59 (Operand.tmp 118)) (g:=none) (t:=59) 1 (.agg #[.int .u8 0,.int .u8 0,.int .u8 0,.int .u8 0]) Rw rfl (by kernel_rfl) (by kernel_rfl) ?y1n7 HS0 ?_
         case y1n7=>intro o' ho _;simp only [execOp,ho];obtain ⟨f0,f1,f2,f3,f4,f5,f6,f7⟩:=bx8 HFR;go_simp;try rfl
         simp only [Act.put,List.setIfInBounds_toArray,List.set_cons_zero,List.set_cons_succ]
         refine heldCall (d:=some 123) (op:=.call {callee:=Callee.value (Operand.func 126),args:=#[Operand.tmp 119,Operand.const (Value.int IntKind.i64 0),Operand.tmp 122],argTypes:=#[59,3,9]}) (g:=none) 5 126 #[.agg #[.int .u8 0,.int .u8 0,.int .u8 0,.int .u8 0],.int .i64 0,.string PD] rfl (by kernel_rfl) (by kernel_rfl) ?y5n7 ?_
         case y5n7=>intro o' ho;simp only [execOp,ho];go_simp;try rfl
         refine (C27 Rw).mono ?_
         rintro e X ⟨rfl,HXX⟩
         have HS1:Below w.heap.size w X:=HS0.trans (HXX.out.mono HS0.size)
         have HFX:X.heap[fb]? = some (.cells #[.bool fin,.int .i64 (o:Int),.bool false,.int .u8 0,.int .u8 0,.int .u8 0,.int .u8 0,.string {data:=#[]}] 61 (0,0)):=below_key HFR HXX.out
         have HZX:X.heap[w.heap.size]? = some (.cells #[.bool false,.int .i64 0,.bool false,.int .u8 0,.int .u8 0,.int .u8 0,.int .u8 0,.string {data:=#[]}] 61 (0,0)):=below_key HZR HXX.out
         refine ⟨_,rfl,HS1,?_⟩
         simp only [Act.put,List.setIfInBounds_toArray,List.set_cons_zero,List.set_cons_succ]
         refine heldTake (d:=some 124) (op:=.fieldAddr 61 (Operand.tmp 7) 4) (g:=none) 6 ?v6n7 rfl (by kernel_rfl) (by kernel_rfl) (by kernel_rfl) (by kernel_rfl) ?y6n7 HS1 ?_
         case y6n7=>intro o' ho W hS;simp only [execOp,ho];go_simp;try rfl
         simp only [Act.put,List.setIfInBounds_toArray,List.set_cons_zero,List.set_cons_succ]
         obtain ⟨w8,hw8⟩:∃ W,X.setCell ⟨fb,7,none⟩ (.string TD)=W:=⟨_,rfl⟩
         have hfz:X.frozen? ⟨fb,7,none⟩=false:=frozen_of_row _ _ _ _ _ HFX
         have hc7:X.cell? ⟨fb,7,none⟩=some (.string {data:=#[]}):=(bx8 HFX).2.2.2.2.2.2.2
         have HB8:Sl (Below w.heap.size w w8):=⟨by rw [← hw8];exact HS1.setCell (by show w.heap.size≤fb;have:=HFB.out;omega) _⟩
         have HF8:Sl (w8.heap[fb]? = some (.cells #[.bool fin,.int .i64 (o:Int),.bool false,.int .u8 0,.int .u8 0,.int .u8 0,.int .u8 0,.string TD] 61 (0,0))):=⟨by rw [← hw8,heap_setCell_same _ _ _ _ _ _ HFX];rfl⟩
         have HZ8:Sl (w8.heap[w.heap.size]? = some (.cells #[.bool false,.int .i64 0,.bool false,.int .u8 0,.int .u8 0,.int .u8 0,.int .u8 0,.string {data:=#[]}] 61 (0,0))):=⟨by rw [← hw8,heap_setCell_other _ _ _ _ (by show w.heap.size≠fb;have:=HFB.out;omega)];exact HZX⟩
         refine heldStore (d:=none) (op:=.store 9 (Operand.tmp 124) (Operand.tmp 123)) (g:=none) (t:=0) 7 w8 rfl (by kernel_rfl) (by kernel_rfl) ?y7n7 HB8.out ?_
         case y7n7=>intro o' ho ht;simp only [execOp,ho];go_simp;first | done | rw [hw8] | rfl
         simp only [Act.put]
         refine wpAnyH_done (by kernel_rfl) ?_ _
         refine NoPanic.normal ?_
         have HQ2:Sl (getF (x :: xs) (mo:Int)=(⟨fin,(o:Int),false,[0,0,0,0],(xs.drop k).take n⟩,en,0)):=⟨by rw [HQ.out];unfold fillF;rw [if_neg (by decide),if_neg (by have:=HRN.out;omega),HEN.out]<;>rfl⟩
         have HTD2:Sl (TD=strOf ((xs.drop k).take n)):=⟨by rw [← hTD,HPD.out,turn_zero (z:=[0,0,0,0]) (by decide)]<;>rfl⟩
         have HI:=fr_info (cs:=#[.bool fin,.int .i64 (o:Int),.bool false,.int .u8 0,.int .u8 0,.int .u8 0,.int .u8 0,.string TD]) rfl
         obtain ⟨h0,h1,h2,h3,h4,h5,h6,h7⟩:=bx8 HF8.out
         clear hfz hc7 hw8 HZX HFX HS1 HXX HS0 HFR HZR C27 hPD hTD
         go_wp2_with (refine wpList_store_row rfl 61 (.tmp 4) (.tmp 125) rfl w.heap.size #[.bool fin,.int .i64 (o:Int),.bool false,.int .u8 0,.int .u8 0,.int .u8 0,.int .u8 0,.string TD] rfl rfl 61 #[.bool false,.int .i64 0,.bool false,.int .u8 0,.int .u8 0,.int .u8 0,.int .u8 0,.string {data:=#[]}] HZ8.out HI rfl (fr_all _ _ _ _ _ _ _ _) ?_)
         refine bodyPost_ret (ret_fr rfl _ _ w.heap.size 61 _ (0,0) rfl (setRow_heap _ _ _ _ _ _ HZ8.out) rfl) rfl ?_
         rw [HQ2.out,HTD2.out]
         exact ⟨rfl,⟨below_setRow HB8.out (Nat.le_refl _) _⟩⟩
    ·subst he
     have HQ:Sl (getF (x :: xs) most=(Fr0,0,90)):=⟨by rw [HGC.out,if_neg (by rw [hbad];decide),if_neg HN6.out,hnke,if_neg (show ¬ (80:Nat)=81 by decide),if_pos rfl]⟩
     clear hnke hle HGC
     go_upto_region 12 with fail
     have HI:=fr_info (cs:=#[.bool false,.int .i64 0,.bool false,.int .u8 0,.int .u8 0,.int .u8 0,.int .u8 0,.string {data:=#[]}]) rfl
     go_wp2_with (refine wpList_store_row rfl 61 (.tmp 4) (.tmp 78) rfl w.heap.size #[.bool false,.int .i64 0,.bool false,.int .u8 0,.int .u8 0,.int .u8 0,.int .u8 0,.string {data:=#[]}] rfl rfl 61 #[.bool false,.int .i64 0,.bool false,.int .u8 0,.int .u8 0,.int .u8 0,.int .u8 0,.string {data:=#[]}] HZ3.out HI rfl (fr_all _ _ _ _ _ _ _ _) ?_)
     refine bodyPost_ret (ret_fr rfl _ _ w.heap.size 61 _ (0,0) rfl (setRow_heap _ _ _ _ _ _ HZ3.out) rfl) rfl ?_
     rw [HQ.out]
     exact ⟨rfl,⟨below_setRow HB3.out (Nat.le_refl _) _⟩⟩
    ·subst he
     have HQ:Sl (getF (x :: xs) most=(Fr0,0,91)):=⟨by rw [HGC.out,if_neg (by rw [hbad];decide),if_neg HN6.out,hnke,if_pos rfl]⟩
     clear hnke hle HGC
     go_upto_region 10 with fail
     have HI:=fr_info (cs:=#[.bool false,.int .i64 0,.bool false,.int .u8 0,.int .u8 0,.int .u8 0,.int .u8 0,.string {data:=#[]}]) rfl
     go_wp2_with (refine wpList_store_row rfl 61 (.tmp 4) (.tmp 75) rfl w.heap.size #[.bool false,.int .i64 0,.bool false,.int .u8 0,.int .u8 0,.int .u8 0,.int .u8 0,.string {data:=#[]}] rfl rfl 61 #[.bool false,.int .i64 0,.bool false,.int .u8 0,.int .u8 0,.int .u8 0,.int .u8 0,.string {data:=#[]}] HZ3.out HI rfl (fr_all _ _ _ _ _ _ _ _) ?_)
     refine bodyPost_ret (ret_fr rfl _ _ w.heap.size 61 _ (0,0) rfl (setRow_heap _ _ _ _ _ _ HZ3.out) rfl) rfl ?_
     rw [HQ.out]
     exact ⟨rfl,⟨below_setRow HB3.out (Nat.le_refl _) _⟩⟩
   ·have hq6:((s.size:Int)>1)=False:=eq_false (by rw [← hbl];simp;omega)
    obtain ⟨⟨n,k,e⟩,hnke⟩:∃ r,getL xs=r:=⟨_,rfl⟩
    have hle:=get_le xs
    rw [hnke] at hle
    have hcodes:=get_codes xs
    rw [hnke] at hcodes
    simp only at hle hcodes
    have HGC:=Sl.mk (getF_cons x xs most)
    have C29:∀ W,Calls Tryz.prog 125 #[.string (s.extract 1 s.size)] W fun e' w'=>e'=.returned (.tuple #[.int .u64 (n:Int),.int .i64 (k:Int),.int .i64 (e:Int)])∧W=w':=fun W=>by
     have:=refget_any (s.extract 1 s.size) W (by rw [ByteArray.size_extract];omega)
     rw [show bytes (s.extract 1 s.size)=xs by rw [bytes_extract,HBX.out,List.take_of_length_le (by rw [← HBX.out,bytes_length];exact Nat.le_refl _)];rfl,hnke] at this
     exact this
    go_wp2_with fail
    refine (C29 _).mono ?_
    rintro e' w' ⟨rfl,rfl⟩
    clear C29 e0 e1 e2 e3 e4 e5 e6 e7
    have he:e=80:=by
     cases xs with
     | nil=>have h2:(getL []).2.2=80:=rfl;rw [hnke] at h2;exact h2
     | cons y ys=>exact absurd (show 0<(y :: ys).length by simp) hl1
    subst he
    have HQ:Sl (getF (x :: xs) most=(Fr0,0,90)):=⟨by rw [HGC.out,if_neg (by rw [hbad];decide),if_neg HN6.out,hnke,if_neg (show ¬ (80:Nat)=81 by decide),if_pos rfl]⟩
    clear hnke hle HGC
    go_upto_region 12 with fail
    have HI:=fr_info (cs:=#[.bool false,.int .i64 0,.bool false,.int .u8 0,.int .u8 0,.int .u8 0,.int .u8 0,.string {data:=#[]}]) rfl
    go_wp2_with (refine wpList_store_row rfl 61 (.tmp 4) (.tmp 78) rfl w.heap.size #[.bool false,.int .i64 0,.bool false,.int .u8 0,.int .u8 0,.int .u8 0,.int .u8 0,.string {data:=#[]}] rfl rfl 61 #[.bool false,.int .i64 0,.bool false,.int .u8 0,.int .u8 0,.int .u8 0,.int .u8 0,.string {data:=#[]}] HZ3.out HI rfl (fr_all _ _ _ _ _ _ _ _) ?_)
    refine bodyPost_ret (ret_fr rfl _ _ w.heap.size 61 _ (0,0) rfl (setRow_heap _ _ _ _ _ _ HZ3.out) rfl) rfl ?_
    rw [HQ.out]
    exact ⟨rfl,⟨below_setRow HB3.out (Nat.le_refl _) _⟩⟩
 ·have hqr:((r0:Int) != 0)=true:=by simp;omega
  have hbad:bad x=true:=bad_iff.out.2 (.inl hr0)
  have HQ:Sl (getF (x :: xs) most=(Fr0,0,91)):=⟨getF_bad most hbad⟩
  go_upto_region 5 with fail
  have HI:=fr_info (cs:=#[.bool false,.int .i64 0,.bool false,.int .u8 0,.int .u8 0,.int .u8 0,.int .u8 0,.string {data:=#[]}]) rfl
  go_wp2_with (refine wpList_store_row rfl 61 (.tmp 4) (.tmp 50) rfl w.heap.size #[.bool false,.int .i64 0,.bool false,.int .u8 0,.int .u8 0,.int .u8 0,.int .u8 0,.string {data:=#[]}] rfl rfl 61 #[.bool false,.int .i64 0,.bool false,.int .u8 0,.int .u8 0,.int .u8 0,.int .u8 0,.string {data:=#[]}] HZ3.out HI rfl (fr_all _ _ _ _ _ _ _ _) ?_)
  refine bodyPost_ret (ret_fr rfl _ _ w.heap.size 61 _ (0,0) rfl (setRow_heap _ _ _ _ _ _ HZ3.out) rfl) rfl ?_
  rw [HQ.out]
  exact ⟨rfl,⟨below_setRow HB3.out (Nat.le_refl _) _⟩⟩
end Go.Proofs.YtlahonjmfecikaaGreatDoor.Fra
