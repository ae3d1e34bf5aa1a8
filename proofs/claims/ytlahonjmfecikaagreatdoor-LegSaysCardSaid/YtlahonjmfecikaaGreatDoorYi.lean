/- The texts below, joined. -/
import Derived.Test.YtlahonjmfecikaaGreatDoorYh
import Derived.Deep.DeepCutAuto
import Derived.SliceStrings
import Derived.ProofKit
import Derived.ChangeArms
import Derived.OpenShut
set_option maxRecDepth 100000
set_option linter.unusedVariables false
set_option linter.unusedSimpArgs false
namespace LegPlain
open FramePlain (Fr Fr0 form ctl zero4 text)
open MsgPlain (Ev Ms M0 run run_cons Fit)
open ClosePlain (putC getC codeC acrossC valid)
theorem mv_ctl {c:Cf} {l:Lg} {f:Fr} {cs:List Fr} {n:Nat} (ht:(fill c l).tail=[]) (hc:l.ctl=f :: cs):mv c (n+1) l=mv c n (put c {fill c l with ctl:=cs} f):=by
 rw [mv,if_neg (fun e=>e ht)]
 have:∀ x:List Fr,x=f :: cs→(match x,l.rest with
  | f :: cs,_=>mv c n (put c {fill c l with ctl:=cs} f)
  | [],f :: r=>mv c n (put c {fill c l with rest:=r} f)
  | [],[]=>fill c l)=mv c n (put c {fill c l with ctl:=cs} f):=fun x e=>by subst e;rfl
 exact this _ hc
theorem mv_rest {c:Cf} {l:Lg} {f:Fr} {cs:List Fr} {n:Nat} (ht:(fill c l).tail=[]) (hc:l.ctl=[]) (hr:l.rest=f :: cs):mv c (n+1) l=mv c n (put c {fill c l with rest:=cs} f):=by
 rw [mv,if_neg (fun e=>e ht)]
 have:∀ x y:List Fr,x=[]→y=f :: cs→(match x,y with
  | f :: cs,_=>mv c n (put c {fill c l with ctl:=cs} f)
  | [],f :: r=>mv c n (put c {fill c l with rest:=r} f)
  | [],[]=>fill c l)=mv c n (put c {fill c l with rest:=cs} f):=fun x y e e2=>by subst e e2;rfl
 exact this _ _ hc hr
theorem mv_none {c:Cf} {l:Lg} {n:Nat} (hc:l.ctl=[]) (hr:l.rest=[]):mv c n l=fill c l:=by
 cases n with
 | zero=>rfl
 | succ n =>
   rw [mv]
   split
   ·rfl
   ·have:∀ x y:List Fr,x=[]→y=[]→(match x,y with
     | f :: cs,_=>mv c n (put c {fill c l with ctl:=cs} f)
     | [],f :: r=>mv c n (put c {fill c l with rest:=r} f)
     | [],[]=>fill c l)=fill c l:=fun x y e e2=>by subst e e2;rfl
    exact this _ _ hc hr
theorem mv_full {c:Cf} {l:Lg} {n:Nat} (ht:(fill c l).tail≠[]):mv c n l=fill c l:=by
 cases n with
 | zero=>rfl
 | succ n=>rw [mv,if_pos ht]
theorem mv_sl (c:Cf):∀ (n:Nat) (l:Lg) (b:Bool) (d:List Nat),mv c n {l with sent:=b,last:=d}={mv c n l with sent:=b,last:=d}
 | 0,_,_,_=>rfl
 | n+1,l,b,d=>by
   by_cases ht:(fill c l).tail≠[]
   ·rw [mv_full ht,mv_full (l:={l with sent:=b,last:=d}) ht];rfl
   ·have ht':(fill c l).tail=[]:=Classical.byContradiction ht
    have key:∀ x y,l.ctl=x→l.rest=y→mv c (n+1) {l with sent:=b,last:=d}={mv c (n+1) l with sent:=b,last:=d}:=fun x y hx hy=>by
     cases x with
     | cons f cs =>
       rw [mv_ctl ht' hx,mv_ctl (l:={l with sent:=b,last:=d}) ht' hx]
       exact mv_sl c n (put c {fill c l with ctl:=cs} f) b d
     | nil =>
       cases y with
       | cons f r =>
         rw [mv_rest ht' hx hy,mv_rest (l:={l with sent:=b,last:=d}) ht' hx hy]
         exact mv_sl c n (put c {fill c l with rest:=r} f) b d
       | nil=>rw [mv_none hx hy,mv_none (l:={l with sent:=b,last:=d}) hx hy];rfl
    exact key _ _ rfl rfl
theorem move_sl (c:Cf) (l:Lg) (b:Bool) (d:List Nat):move c {l with sent:=b,last:=d}={move c l with sent:=b,last:=d}:=mv_sl c _ l b d
theorem move_wait {c:Cf} {l:Lg} (ht:l.tail≠[]) (hr:l.ring.length=c.out):move c l=l:=by
 have hf:fill c l=l:=by
  unfold fill
  rw [hr,Nat.sub_self,List.take_zero,List.drop_zero,List.append_nil]
 unfold move
 cases hn:l.ctl.length+l.rest.length with
 | zero=>exact hf
 | succ n=>rw [mv,if_pos (by rw [hf];exact ht)];exact hf
theorem repl_at (d:List Nat):∀ (l:List Fr) (i:Nat),i<l.length→(l.getD i Fr0).op=10→(∀ j,j<i→(l.getD j Fr0).op≠10)→repl d l=l.set i {l.getD i Fr0 with data:=d}∧(l.any fun f=>decide (f.op=10))=true
 | [],i,hi,_,_=>absurd hi (Nat.not_lt_zero _)
 | f :: l,0,_,h,_=>by
   have h:f.op=10:=h
   unfold repl
   rw [if_pos h]
   exact ⟨rfl,by simp [h]⟩
 | f :: l,i+1,hi,h,hb=>by
   have h0:¬ f.op=10:=hb 0 (Nat.succ_pos _)
   obtain ⟨e1,e2⟩:=repl_at d l i (by simpa using hi) h (fun j hj=>hb (j+1) (by omega))
   unfold repl
   rw [if_neg h0,e1]
   refine ⟨rfl,?_⟩
   rw [List.any_cons,e2,Bool.or_true]
theorem no_pong (l:List Fr) (h:∀ j,j<l.length→(l.getD j Fr0).op≠10):(l.any fun f=>decide (f.op=10))=false:=by
 rw [List.any_eq_false]
 intro f hf
 obtain ⟨i,hi,rfl⟩:=List.getElem_of_mem hf
 have:=h i hi
 rw [List.getD_eq_getElem?_getD,List.getElem?_eq_getElem hi] at this
 simpa using this
theorem first_pong:∀ (l:List Fr),∃ i,i≤l.length∧(∀ j,j<i→(l.getD j Fr0).op≠10)∧(i<l.length→(l.getD i Fr0).op=10)
 | []=>⟨0,Nat.le_refl _,fun j hj=>absurd hj (Nat.not_lt_zero _),fun h=>absurd h (Nat.lt_irrefl _)⟩
 | f :: l=>by
   by_cases h:f.op=10
   ·exact ⟨0,Nat.zero_le _,fun j hj=>absurd hj (Nat.not_lt_zero _),fun _=>h⟩
   ·obtain ⟨i,h1,h2,h3⟩:=first_pong l
    refine ⟨i+1,by simpa using h1,fun j hj=>?_,fun hi=>h3 (by simpa using hi)⟩
    cases j with
    | zero=>exact h
    | succ j=>exact h2 j (by omega)
theorem get_code {s:List Nat} (h:(getC s).2.2=0):(getC s).1=1005∨valid (getC s).1=true:=by
 match s,h with
 | [],_=>exact .inl rfl
 | [_],h=>cases h
 | x :: y :: l,h =>
   rw [ClosePlain.getC_two] at h ⊢
   by_cases h1:123<l.length∨valid ((256*x+y:Nat):Int)=false
   ·rw [if_pos h1] at h;cases h
   rw [if_neg h1] at h ⊢
   by_cases h2:ClosePlain.lets l=false
   ·rw [if_pos h2] at h;cases h
   rw [if_neg h2]
   exact .inr (by simpa using fun e=>h1 (.inr e))
theorem step_code (most:Int) {st:Ms} (h8:st.begun=true→st.op≠8) (f:Fr):∀ x,(MsgPlain.step most st f).2=some x→x.op=8→x.code=1005∨valid x.code=true:=by
 intro x hx hop
 unfold MsgPlain.step at hx
 by_cases a1:form f=false
 ·rw [if_pos a1] at hx;cases hx
 rw [if_neg a1] at hx
 by_cases a2:f.op=9∨f.op=10
 ·rw [if_pos a2] at hx
  injection hx with hx
  rw [← hx] at hop
  have hop:f.op=8:=hop
  omega
 rw [if_neg a2] at hx
 by_cases a3:f.op=8
 ·rw [if_pos a3] at hx
  by_cases a4:(getC f.data).2.2=0
  ·rw [if_pos a4] at hx
   injection hx with hx
   rw [← hx]
   exact get_code a4
  ·rw [if_neg a4] at hx;cases hx
 rw [if_neg a3] at hx
 by_cases a4:decide (f.op=0)≠st.begun
 ·rw [if_pos a4] at hx;cases hx
 rw [if_neg a4] at hx
 obtain ⟨o,ho⟩:∃ o,(if st.begun=true then st.op else f.op)=o:=⟨_,rfl⟩
 have ho8:o≠8:=by
  rw [← ho]
  by_cases hb:st.begun=true
  ·rw [if_pos hb];exact h8 hb
  ·rw [if_neg hb];exact a3
 rw [ho] at hx
 unfold MsgPlain.more at hx
 by_cases a5:most<((st.text++f.data).length:Int)
 ·rw [if_pos a5] at hx;cases hx
 rw [if_neg a5] at hx
 by_cases a6:MsgPlain.okT o f.fin (st.text++f.data)=false
 ·rw [if_pos a6] at hx;cases hx
 rw [if_neg a6] at hx
 by_cases a7:f.fin=true
 ·rw [if_pos a7] at hx
  injection hx with hx
  rw [← hx] at hop
  exact absurd hop ho8
 ·rw [if_neg a7] at hx;cases hx
end LegPlain
set_option maxRecDepth 100000
namespace Go.Proofs.YtlahonjmfecikaaGreatDoor.Leg
open Go.RowKit Stm
open FramePlain (Fr Fr0)
open LegPlain (Cf Lg)
open Msg (Kept MacS Mine)
open LegPlain (dress draws mv fill put IsC IsR Inv ctlF repl Settled Few CfOk)
open FramePlain (text size chk form zero4)
open ClosePlain (putC codeC acrossC valid)
section
variable {w0 W W':World} {L sb mb rb rp:Nat} {tv kv qv:Value} {c:Cf} {l:Lg}
theorem idxf_no (fs:List Fr) (v:Value) (w:World) (hv:FrsAt w v fs) (hl:fs.length≤1000000) (hb:∀ j,j<fs.length→(fs.getD j Fr0).op≠10) :
 Calls Tryz.prog 115 #[v,.func (.func 114) #[] #[]] w fun e w'=>e=.returned (.int .i64 (-1))∧Sl (Below w.heap.size w w'):=by
 obtain ⟨a,c,rfl⟩:=hv.slice
 have HV:=Sl.mk hv
 obtain ⟨n,hn⟩:∃ n,fs.length=n:=⟨_,rfl⟩
 rw [hn] at HV hl hb ⊢
 have HN:=Sl.mk hn
 have HB:=Sl.mk hb
 clear hv hn hb 
 go_enter Tryz.func115,Tryz.ntmps115
 go_wp2
 go_loopw [8] (fun i' wr=>∃ k:Nat,i'=.int .i64 (k:Int)∧k≤n∧Sl (Below w.heap.size w wr)) (fun i' _=>n-(intOf i').toNat)
 case atStart=>exact ⟨0,rfl,Nat.zero_le _,⟨Below.refl _ _⟩⟩
 case round =>
  obtain ⟨k,rfl,hkn,HW⟩:=hrel
  by_cases hlt:k<n
  ·have hq:((k:Int)<(n:Int))=True:=eq_true (by omega)
   obtain ⟨sb,so,rfl⟩:=HV.out.cap.2 (by omega)
   obtain ⟨fin,op,m,ka,kb,kc,kd,s,hcv,hop⟩:∃ fin op m,∃ ka kb kc kd:Nat,∃ s,(cv (fs.getD k Fr0)).toArray=#[.bool fin,.int .i64 op,.bool m,.int .u8 ((ka:Nat):Int),.int .u8 ((kb:Nat):Int),.int .u8 ((kc:Nat):Int),.int .u8 ((kd:Nat):Int),.string s]∧(fs.getD k Fr0).op=op:=⟨_,_,_,_,_,_,_,_,rfl,rfl⟩
   obtain ⟨c0,c1,c2,c3,c4,c5,c6,c7⟩:=(HV.out.below HW.out).at8 k (by rw [HN.out];omega) hcv
   clear hcv
   have hne:op≠10:=by rw [← hop];exact HB.out k (by omega)
   have WT:=waits_any fin op m ka kb kc kd s false (beq_eq_false_iff_ne.2 hne) wr
   clear hop hne
   go_wp2_with fail
   refine WT.mono ?_
   rintro e w2 ⟨rfl,HB2⟩
   clear WT c0 c1 c2 c3 c4 c5 c6 c7
   go_wp2
   exact ⟨⟨k+1,by go_num,by omega,⟨HW.out.trans (HB2.out.mono HW.out.size)⟩⟩,by simp [intOf];omega⟩
  ·obtain rfl:k=n:=by omega
   have hq:((k:Int)<(k:Int))=False:=eq_false (by omega)
   go_wp2
   go_ret
   exact ⟨rfl,HW⟩
theorem idxf_yes (fs:List Fr) (v:Value) (w:World) (hv:FrsAt w v fs) (hl:fs.length≤1000000) (i:Nat) (hi:i<fs.length) (hb:∀ j,j<i→(fs.getD j Fr0).op≠10) (hat:(fs.getD i Fr0).op=10) :
 Calls Tryz.prog 115 #[v,.func (.func 114) #[] #[]] w fun e w'=>e=.returned (.int .i64 (i:Int))∧Sl (Below w.heap.size w w'):=by
 obtain ⟨a,c,rfl⟩:=hv.slice
 have HV:=Sl.mk hv
 obtain ⟨n,hn⟩:∃ n,fs.length=n:=⟨_,rfl⟩
 rw [hn] at HV hl hi ⊢
 have HN:=Sl.mk hn
 have HB:=Sl.mk hb
 have HAT:=Sl.mk hat
 clear hv hn hb hat
 go_enter Tryz.func115,Tryz.ntmps115
 go_wp2
 go_loopw [8] (fun i' wr=>∃ k:Nat,i'=.int .i64 (k:Int)∧k≤i∧Sl (Below w.heap.size w wr)) (fun i' _=>n-(intOf i').toNat)
 case atStart=>exact ⟨0,rfl,Nat.zero_le _,⟨Below.refl _ _⟩⟩
 case round =>
  obtain ⟨k,rfl,hkn,HW⟩:=hrel
  have hq:((k:Int)<(n:Int))=True:=eq_true (by omega)
  obtain ⟨sb,so,rfl⟩:=HV.out.cap.2 (by omega)
  obtain ⟨fin,op,m,ka,kb,kc,kd,s,hcv,hop⟩:∃ fin op m,∃ ka kb kc kd:Nat,∃ s,(cv (fs.getD k Fr0)).toArray=#[.bool fin,.int .i64 op,.bool m,.int .u8 ((ka:Nat):Int),.int .u8 ((kb:Nat):Int),.int .u8 ((kc:Nat):Int),.int .u8 ((kd:Nat):Int),.string s]∧(fs.getD k Fr0).op=op:=⟨_,_,_,_,_,_,_,_,rfl,rfl⟩
  obtain ⟨c0,c1,c2,c3,c4,c5,c6,c7⟩:=(HV.out.below HW.out).at8 k (by rw [HN.out];omega) hcv
  clear hcv
  by_cases hki:k<i
  ·have hne:op≠10:=by rw [← hop];exact HB.out k (by omega)
   have WT:=waits_any fin op m ka kb kc kd s false (beq_eq_false_iff_ne.2 hne) wr
   clear hop hne
   go_wp2_with fail
   refine WT.mono ?_
   rintro e w2 ⟨rfl,HB2⟩
   clear WT c0 c1 c2 c3 c4 c5 c6 c7
   go_wp2
   exact ⟨⟨k+1,by go_num,by omega,⟨HW.out.trans (HB2.out.mono HW.out.size)⟩⟩,by simp [intOf];omega⟩
  ·obtain rfl:k=i:=by omega
   have heq:op=10:=by rw [← hop];exact HAT.out
   have WT:=waits_any fin op m ka kb kc kd s true (by rw [heq];rfl) wr
   clear hop heq
   go_wp2_with fail
   refine WT.mono ?_
   rintro e w2 ⟨rfl,HB2⟩
   clear WT c0 c1 c2 c3 c4 c5 c6 c7
   go_wp2
   go_ret
   exact ⟨rfl,⟨HW.out.trans (HB2.out.mono HW.out.size)⟩⟩
def ponged (c:Cf) (l:Lg) (d:List Nat):Lg:=if l.ctl.any (fun f=>decide (f.op=10))=true then LegPlain.move c {l with ctl:=repl d l.ctl} else LegPlain.control c l 10 d
theorem few_pm {k:Nat} (hf:Few c l k) (hk:k≤1000) (hc:CfOk c):Inv c l∧l.tail.length≤100000∧Small 256 l.tail∧c.frm≤65536∧l.ctl.length+l.rest.length≤999990:=by
 have h1:=hc.f2
 have h2:=hc.m2
 have h3:=hf.tail
 have h4:=LegPlain.Good.ctl_le hf
 have h5:=LegPlain.rest_le hf
 refine ⟨hf.ok.inv,by omega,?_,h1,by omega⟩
 have hb:=hf.ok.inv.bytes
 intro x hx
 refine (LegPlain.all_out h1 l.hist hf.ok.inv.hist).2 x ?_
 rw [← hb]
 exact List.mem_append_right _ hx
theorem opong_any {k:Nat} (h:LegAt w0 W L sb mb rb rp tv kv qv c l) (hg:Mas.Globs w0) (hf:Few c l k) (hk:k≤1000) (hc:CfOk c) (d:ByteArray) (hd:d.size≤125) :
 Calls Tryz.prog 85 #[.pointer (some ⟨L,4,none⟩),.string d] W fun e w'=>∃ tv' kv' qv',e=.returned (.tuple #[])∧Sl (LegAt w0 w' L sb mb rb rp tv' kv' qv' c (ponged c l (bytes d)))∧Sl (OGoes W w' L rb rp tv kv qv tv' kv' qv'):=by
 obtain ⟨p1,p2,p3,p4,p5⟩:=few_pm hf hk hc
 obtain ⟨-,-,-,-,-,-,c6,-⟩:=h.cells
 obtain ⟨i,hi,hb,hat⟩:=LegPlain.first_pong l.ctl
 by_cases hin:i<l.ctl.length
 ·obtain ⟨hrp,hany⟩:=LegPlain.repl_at (bytes d) l.ctl i hin (hat hin) hb
  have htail:l.tail≠[]:=fun e=>by
   have:=(hf.ok.set.2 e).1
   rw [this] at hin;exact absurd hin (Nat.not_lt_zero _)
  have hres:ponged c l (bytes d)={l with ctl:=repl (bytes d) l.ctl}:=(if_pos hany).trans (LegPlain.move_wait (l:={l with ctl:=repl (bytes d) l.ctl}) htail (hf.ok.set.1 htail))
  rw [hres]
  have T:=idxf_yes l.ctl kv W h.C.frs (by omega) i hin hb (hat hin)
  have HR:=h.C
  obtain ⟨g,off,cap,hkv⟩:∃ g off cap,kv=.slice (some ⟨g,off,none⟩) l.ctl.length cap:=by
   rcases h.C with ⟨_,e⟩ | ⟨g,off,cap,cs,e,_⟩
   ·rw [e] at hin;exact absurd hin (Nat.not_lt_zero _)
   ·exact ⟨g,off,cap,e⟩
  subst hkv
  obtain ⟨n,hn⟩:∃ n,l.ctl.length=n:=⟨_,rfl⟩
  rw [hn] at T c6 ⊢
  have HIN:Sl (i<n):=⟨by omega⟩
  have hin2:i<n:=by omega
  have hq:((i:Int)≥0)=True:=eq_true (by omega)
  have H:=Sl.mk h
  have HRP:=Sl.mk hrp
  have HN:=Sl.mk hn
  clear h hf hk hc hg p1 p2 p3 p4 p5 hi hb hat hany htail hres HR hrp hin hn
  go_enter Tryz.func85,Tryz.ntmps85
  go_wp2_with fail
  refine T.mono ?_
  rintro e w2 ⟨rfl,HB2⟩
  have H2:=H.out.below HB2.out
  have HC2:=H2.C
  rw [HN.out] at H2
  obtain ⟨-,-,-,-,-,-,d6,-⟩:=H2.cells
  obtain ⟨hgr,hrow,hfz,u,hu⟩:=(show FRow w2 w0.heap.size (.slice (some ⟨g,off,none⟩) n cap) l.ctl by rw [← HN.out];exact HC2).setData i (by rw [HN.out];exact HIN.out) d
  have hkn:=H2.kinds
  have hgl:g≠L:=fun e=>hkn.2.2.2.1 (by rw [← e];rfl)
  obtain ⟨V,hV⟩:∃ V,w2.setCell ⟨g,off+i*8+7,none⟩ (.string d)=V:=⟨_,rfl⟩
  rw [hV] at hgr hrow
  obtain ⟨hle,hgo⟩:=H2.step (W':=V) (m:={l with ctl:=repl (bytes d) l.ctl}) (tv':=tv) (kv':=.slice (some ⟨g,off,none⟩) n cap) (qv':=qv) (Kept.grown hgr (fun j e=>by injection e with e;subst e;exact .inr (.inl rfl))) (by rw [hgr.block L H2.lt (fun e=>hgl (by injection e with e;exact e.symm))];exact H2.X) rfl (H2.T.kept fun j e=>hgr.block j (H2.T.blk e).2.2 (fun e2=>by injection e2 with e2;subst e2;exact (H2.tn _ e).2.2.2.1 rfl)) (by rw [HRP.out];exact hrow) (H2.D.block fun j e=>hgr.block j (H2.D.lt e) (fun e2=>by injection e2 with e2;subst e2;exact H2.cn _ rfl e)) H2.dr (fun _ e=>.inl e) (fun _ e=>.inl e) (fun _ e=>.inl e) (fun j e e2=>absurd (H2.T.blk e).2.2 (by omega)) (fun _ _ _ e=>e) (fun _ _ _ e=>e) (fun j e e2=>absurd (H2.own (.inr (.inr (.inr (.inr (.inl e)))))).2 (by omega))
  have HL:=Sl.mk hle
  have HG:Sl (OGoes W V L rb rp tv (.slice (some ⟨g,off,none⟩) n cap) qv tv (.slice (some ⟨g,off,none⟩) n cap) qv):=⟨(OGoes.below L rb rp _ _ _ HB2.out).trans hgo⟩
  clear T c6 H2 HC2 hgr hrow hkn hle hgo H HB2
  go_wp2
  (try rw [hV])
  (try simp only [Exit.inBlock,Exit.then])
  refine bodyPost_ret (results_none rfl _ _ _) rfl ?_
  exact ⟨_,_,_,rfl,HL,HG⟩
 ·obtain rfl:i=l.ctl.length:=by omega
  have hany:=LegPlain.no_pong l.ctl hb
  have hres:ponged c l (bytes d)=LegPlain.move c {l with ctl:=l.ctl++[ctlF 10 (bytes d)]}:=if_neg (by rw [hany];decide)
  rw [hres]
  have T:=idxf_no l.ctl kv W h.C.frs (by omega) hb
  obtain ⟨ak,nk,ck,rfl⟩:∃ a n c,kv=.slice a n c:=by obtain ⟨a,c,h⟩:=h.C.slice;exact ⟨a,_,c,h⟩
  have H:=Sl.mk h
  have HGL:=Sl.mk hg
  have HPM:Sl (Inv c {l with ctl:=l.ctl++[ctlF 10 (bytes d)]}∧l.tail.length≤100000∧Small 256 l.tail∧c.frm≤65536∧(l.ctl++[ctlF 10 (bytes d)]).length+l.rest.length≤1000000):=⟨⟨p1.bytes,p1.hist,fun f hf=>by
   rcases List.mem_append.1 hf with hf | hf
   ·exact p1.ctl f hf
   ·rw [List.mem_singleton] at hf
    rw [hf]
    exact ⟨rfl,.inr (.inr rfl),rfl,rfl,by show (bytes d).length≤125;rw [bytes_length];exact hd,bytes_small d⟩,p1.rest,p1.ring⟩,p2,p3,p4,by rw [List.length_append,List.length_singleton];omega⟩
  clear h hf hk hc hg p1 p2 p3 p4 p5 hi hb hat hany hres hin
  go_enter Tryz.func85,Tryz.ntmps85
  go_wp2_with fail
  refine T.mono ?_
  rintro e w2 ⟨rfl,HB2⟩
  have T2:=ocontrol_any (H.out.below HB2.out) HGL.out 10 d (m:={l with ctl:=l.ctl++[ctlF 10 (bytes d)]}) rfl rfl rfl rfl rfl rfl rfl HPM.out.1 HPM.out.2.1 HPM.out.2.2.1 HPM.out.2.2.2.1 HPM.out.2.2.2.2
  clear T c6
  go_wp2_with fail
  refine T2.mono ?_
  rintro e w3 ⟨t2,k2,q2,rfl,HL,HG2⟩
  clear T2
  go_wp2
  go_end0
  exact ⟨_,_,_,rfl,HL,⟨(OGoes.below L rb rp _ _ _ HB2.out).trans HG2.out⟩⟩
end
end Go.Proofs.YtlahonjmfecikaaGreatDoor.Leg
set_option maxRecDepth 100000
namespace Go.Proofs.YtlahonjmfecikaaGreatDoor.Leg
open Go.RowKit Stm
open FramePlain (Fr Fr0)
open LegPlain (Cf Lg)
open Msg (Kept MacS Mine)
open LegPlain (dress draws mv fill put IsC IsR Inv ctlF repl Settled Few CfOk frs_isR)
open FramePlain (text size chk form zero4)
open ClosePlain (putC codeC acrossC valid)
open CutPlain (frs)
section
variable {w0 W W':World} {L sb mb rb rp:Nat} {tv kv qv:Value} {c:Cf} {l:Lg}
theorem ltake_any {k:Nat} (h:LegAt w0 W L sb mb rb rp tv kv qv c l) (hg:Mas.Globs w0) (hf:Few c l k) (hk:k≤1000) (hc:CfOk c) (z:Int) (n:Nat) (hn:(l.ring.take z.toNat).length=n) :
 Calls Tryz.prog 24 #[.pointer (some ⟨L,0,none⟩),.int .i64 z] W fun e w'=>∃ tv' kv' qv',e=.returned (.slice (some ⟨W.heap.size,0,none⟩) n n)∧Sl (RowB w' W.heap.size (l.ring.take z.toNat))∧Sl (LegAt w0 w' L sb mb rb rp tv' kv' qv' c (LegPlain.takeN c l z).1)∧Sl (OGoes W w' L rb rp tv kv qv tv' kv' qv'):=by
 obtain ⟨p1,p2,p3,p4,p5⟩:=few_pm hf hk hc
 have T:=otake_any h hg z _ rfl n hn (m:={l with gone:=l.gone++l.ring.take z.toNat,ring:=l.ring.drop z.toNat}) rfl rfl rfl rfl rfl rfl rfl ⟨by
  show l.gone++l.ring.take z.toNat++l.ring.drop z.toNat++l.tail=_
  rw [List.append_assoc l.gone,List.take_append_drop];exact p1.bytes,p1.hist,p1.ctl,p1.rest,by
  show (l.ring.drop z.toNat).length≤_
  rw [List.length_drop];have:=p1.ring;omega⟩ p2 p3 p4 (Nat.le_trans p5 (by omega))
 clear h hg hf hk hc p1 p2 p3 p4 p5 hn
 go_enter Tryz.func24,Tryz.ntmps24
 go_wp2_with fail
 refine T.mono ?_
 rintro e w2 ⟨t2,k2,q2,rfl,HR,HL,HG⟩
 clear T
 go_wp2
 go_ret
 exact ⟨_,_,_,rfl,HR,HL,HG⟩
theorem ctl_pm {k:Nat} (hf:Few c l k) (hk:k≤1000) (hc:CfOk c) (op:Int) (ho:op=8∨op=9∨op=10) (d:List Nat) (hd:d.length≤125) (hs:Small 256 d):Inv c {l with ctl:=l.ctl++[ctlF op d]}∧l.tail.length≤100000∧Small 256 l.tail∧c.frm≤65536∧(l.ctl++[ctlF op d]).length+l.rest.length≤1000000:=by
 obtain ⟨p1,p2,p3,p4,p5⟩:=few_pm hf hk hc
 exact ⟨⟨p1.bytes,p1.hist,fun f hf=>by
  rcases List.mem_append.1 hf with hf | hf
  ·exact p1.ctl f hf
  ·rw [List.mem_singleton] at hf
   rw [hf]
   exact ⟨rfl,ho,rfl,rfl,hd,hs⟩,p1.rest,p1.ring⟩,p2,p3,p4,by rw [List.length_append,List.length_singleton];omega⟩
theorem lping_any {k:Nat} (h:LegAt w0 W L sb mb rb rp tv kv qv c l) (hg:Mas.Globs w0) (hf:Few c l k) (hk:k≤1000) (hc:CfOk c) (hop:l.sent=false→l.got=false∧l.wrong=0) (d:ByteArray) (hd:d.size≤1000000) :
 Calls Tryz.prog 22 #[.pointer (some ⟨L,0,none⟩),.string d] W fun e w'=>∃ tv' kv' qv',e=.returned (.bool (LegPlain.ping c l (bytes d)).2)∧Sl (LegAt w0 w' L sb mb rb rp tv' kv' qv' c (LegPlain.ping c l (bytes d)).1)∧Sl (OGoes W w' L rb rp tv kv qv tv' kv' qv'):=by
 have T:=open_any h
 have H:=Sl.mk h
 have HGL:=Sl.mk hg
 cases hs:l.sent with
 | true =>
   have hres:LegPlain.ping c l (bytes d)=(l,false):=if_pos (.inl hs)
   rw [hres]
   rw [hs] at T
   clear h hg hf hk hc hop hd hres hs
   go_enter Tryz.func22,Tryz.ntmps22
   go_wp2_with fail
   refine T.mono ?_
   rintro e w1 ⟨rfl,rfl⟩
   clear T
   go_wp2
   go_ret
   exact ⟨_,_,_,rfl,H,⟨OGoes.below L rb rp tv kv qv (Below.refl _ _)⟩⟩
 | false =>
   rw [hs] at T
   obtain ⟨ho1,ho2⟩:=hop hs
   by_cases hl:125<d.size
   ·have hres:LegPlain.ping c l (bytes d)=(l,false):=if_pos (.inr (.inr (.inr (by rw [bytes_length];exact hl))))
    rw [hres]
    have hq:((d.size:Int)>125)=True:=eq_true (by omega)
    clear h hg hf hk hc hop hd hres hs hl ho1 ho2
    go_enter Tryz.func22,Tryz.ntmps22
    go_wp2_with fail
    refine T.mono ?_
    rintro e w1 ⟨rfl,rfl⟩
    clear T
    go_wp2
    go_ret
    exact ⟨_,_,_,rfl,H,⟨OGoes.below L rb rp tv kv qv (Below.refl _ _)⟩⟩
   ·have hres:LegPlain.ping c l (bytes d)=(LegPlain.move c {l with ctl:=l.ctl++[ctlF 9 (bytes d)]},true):=if_neg (by
     rw [hs,ho1,ho2,bytes_length]
     simp;omega)
    rw [hres]
    have hq:((d.size:Int)>125)=False:=eq_false (by omega)
    have HPM:=Sl.mk (ctl_pm hf hk hc 9 (.inr (.inl rfl)) (bytes d) (by rw [bytes_length];omega) (bytes_small d))
    have CL:Sl (∀ V,Calls Tryz.prog 59 #[.string d] V fun e w'=>e=.returned (.string d)∧Sl (Below V.heap.size V w')):=⟨fun V=>Cls.clone_any d V hd⟩
    clear h hg hf hk hc hop hd hres hs hl ho1 ho2
    go_enter Tryz.func22,Tryz.ntmps22
    go_wp2_with fail
    refine T.mono ?_
    rintro e w1 ⟨rfl,rfl⟩
    clear T
    go_upto_region 3 with fail
    obtain ⟨Rw,hRw⟩:∃ R,W.drew=R:=⟨_,rfl⟩
    have HBR:Below W.heap.size W Rw:=by rw [← hRw];exact (Below.refl _ _).drew
    refine wp_region_noPanic ?_
    refine last_begin (S:=fun V=>Below W.heap.size W V) (D:=fun k=>k==5) (by kernel_rfl) ?_
    change wpAnyL _ _ _ _ _ _ _ _ _ W.drew
    rw [hRw]
    clear hRw
    refine last_pure (d:=some 13) (op:=.move (Operand.tmp 0)) (g:=none) 0 ?v0 rfl (by kernel_rfl) (by kernel_rfl) (by kernel_rfl) (by kernel_rfl) rfl ?y0 HBR ?_
    case y0=>intro o' ho W;simp only [execOp,ho];go_simp;try rfl
    simp only [Act.put,List.setIfInBounds_toArray,List.set_cons_zero,List.set_cons_succ]
    refine last_pure (d:=some 14) (op:=.nilCheck (Operand.tmp 13)) (g:=none) 1 ?v1 rfl (by kernel_rfl) (by kernel_rfl) (by kernel_rfl) (by kernel_rfl) rfl ?y1 HBR ?_
    case y1=>intro o' ho W;simp only [execOp,ho];go_simp;try rfl
    simp only [Act.put,List.setIfInBounds_toArray,List.set_cons_zero,List.set_cons_succ]
    refine last_pure (d:=some 15) (op:=.fieldAddr 80 (Operand.tmp 14) 4) (g:=none) 2 ?v2 rfl (by kernel_rfl) (by kernel_rfl) (by kernel_rfl) (by kernel_rfl) rfl ?y2 HBR ?_
    case y2=>intro o' ho W;simp only [execOp,ho];go_simp;try rfl
    simp only [Act.put,List.setIfInBounds_toArray,List.set_cons_zero,List.set_cons_succ]
    refine last_pure (d:=some 16) (op:=.move (Operand.tmp 1)) (g:=none) 3 ?v3 rfl (by kernel_rfl) (by kernel_rfl) (by kernel_rfl) (by kernel_rfl) rfl ?y3 HBR ?_
    case y3=>intro o' ho W;simp only [execOp,ho];go_simp;try rfl
    simp only [Act.put,List.setIfInBounds_toArray,List.set_cons_zero,List.set_cons_succ]
    refine last_callS (d:=some 17) (op:=.call {callee:=Callee.value (Operand.func 59),args:=#[Operand.tmp 16],argTypes:=#[9]}) (g:=none) 4 59 #[.string d] rfl (by kernel_rfl) (by kernel_rfl) ?y4 ?_
    case y4=>intro o' ho;simp only [execOp,ho];go_simp;try rfl
    refine (CL.out Rw).mono ?_
    rintro e w2 ⟨rfl,HB2⟩
    have HB3:Below W.heap.size W w2:=HBR.trans (HB2.out.mono HBR.size)
    refine ⟨_,rfl,HB3,?_⟩
    simp only [Act.put,List.setIfInBounds_toArray,List.set_cons_zero,List.set_cons_succ]
    have CT:=ocontrol_any (H.out.below HB3) HGL.out 9 d (m:={l with ctl:=l.ctl++[ctlF 9 (bytes d)]}) rfl rfl rfl rfl rfl rfl rfl HPM.out.1 HPM.out.2.1 HPM.out.2.2.1 HPM.out.2.2.2.1 HPM.out.2.2.2.2
    refine last_call (d:=some 18) (op:=.call {callee:=Callee.value (Operand.func 58),args:=#[Operand.tmp 15,Operand.const (Value.int IntKind.i64 9),Operand.tmp 17],argTypes:=#[76,3,9]}) (g:=none) 5 58 #[.pointer (some ⟨L,4,none⟩),.int .i64 9,.string d] rfl (by kernel_rfl) (by kernel_rfl) ?y5 (by kernel_rfl) ?_
    case y5=>intro o' ho;simp only [execOp,ho];go_simp;try rfl
    refine (CT).mono ?_
    rintro e w3 ⟨t2,k2,q2,rfl,HL,HG3⟩
    refine ⟨_,rfl,?_⟩
    simp only [Act.put,List.setIfInBounds_toArray,List.set_cons_zero,List.set_cons_succ]
    refine last_done (by kernel_rfl) ?_ _
    refine NoPanic.normal ?_
    clear CT
    go_upto_region 4 with fail
    go_wp2
    go_ret
    exact ⟨_,_,_,rfl,HL,⟨(OGoes.below L rb rp tv kv qv HB3).trans HG3.out⟩⟩
theorem lclose_any {k:Nat} (h:LegAt w0 W L sb mb rb rp tv kv qv c l) (hg:Mas.Globs w0) (hf:Few c l k) (hk:k≤1000) (hc:CfOk c) (hu:Utf.Globs w0) (code:Int) (w:ByteArray) :
 Calls Tryz.prog 23 #[.pointer (some ⟨L,0,none⟩),.int .i64 code,.string w] W fun e w'=>∃ tv' kv' qv',e=.returned (.bool (LegPlain.close c l code (bytes w)).2)∧Sl (LegAt w0 w' L sb mb rb rp tv' kv' qv' c (LegPlain.close c l code (bytes w)).1)∧Sl (OGoes W w' L rb rp tv kv qv tv' kv' qv'):=by
 obtain ⟨d,e1,hput⟩:=Cls.put_str code w
 have T:=Cls.put_ex W W code w d e1 hput (Below.refl _ _) (hu.below h.low hu.size)
 have H:=Sl.mk h
 have HGL:=Sl.mk hg
 have HO:Sl (∀ j,Own L rb rp tv kv qv j→j<W.heap.size):=⟨fun j e=>(h.own e).2⟩
 cases hs:l.sent with
 | true =>
   have hres:LegPlain.close c l code (bytes w)=(l,false):=if_pos (.inl hs)
   rw [hres]
   clear h hg hf hk hc hu hres hput
   go_enter Tryz.func23,Tryz.ntmps23
   go_wp2_with fail
   refine T.mono ?_
   rintro e w1 ⟨rfl,HB1⟩
   clear T
   have H1:=Sl.mk (H.out.below HB1.out)
   obtain ⟨-,-,-,-,-,-,-,-,-,-,-,c11⟩:=H1.out.cells
   rw [hs] at c11
   clear hs
   go_wp2
   go_ret
   exact ⟨_,_,_,rfl,H1,⟨OGoes.below L rb rp tv kv qv HB1.out⟩⟩
 | false =>
   by_cases he:e1=0
   ·subst he
    have heq:LegPlain.control c {l with sent:=true,rest:=[],last:=bytes d} 8 (bytes d)={LegPlain.move c {l with rest:=[],ctl:=l.ctl++[ctlF 8 (bytes d)]} with sent:=true,last:=bytes d}:=LegPlain.move_sl c {l with rest:=[],ctl:=l.ctl++[ctlF 8 (bytes d)]} true (bytes d)
    have hres:LegPlain.close c l code (bytes w)=({LegPlain.move c {l with rest:=[],ctl:=l.ctl++[ctlF 8 (bytes d)]} with sent:=true,last:=bytes d},true):=by
     rw [← heq]
     unfold LegPlain.close
     rw [hput,if_neg (by rw [hs];simp)]
    clear heq
    rw [hres]
    have hlen:=(ClosePlain.put_sizes hput).1
    have hsm:Small 256 (bytes d):=bytes_small d
    have HPM:=Sl.mk (ctl_pm hf hk hc 8 (.inl rfl) (bytes d) hlen hsm)
    have HIV:Sl (Inv c {l with rest:=[],ctl:=l.ctl++[ctlF 8 (bytes d)]}∧(l.ctl++[ctlF 8 (bytes d)]).length+([]:List Fr).length≤1000000):=⟨⟨HPM.out.1.bytes,HPM.out.1.hist,HPM.out.1.ctl,fun f hf=>absurd hf List.not_mem_nil,HPM.out.1.ring⟩,by have:=HPM.out.2.2.2.2;rw [List.length_nil];omega⟩
    clear h hg hf hk hc hu hres hput hlen hsm
    go_enter Tryz.func23,Tryz.ntmps23
    go_wp2_with fail
    refine T.mono ?_
    rintro e w1 ⟨rfl,HB1⟩
    clear T
    have H1:=Sl.mk (H.out.below HB1.out)
    obtain ⟨-,-,-,-,-,-,-,-,-,-,-,c11⟩:=H1.out.cells
    rw [hs] at c11
    have T2:=oend_any H1.out HGL.out d (m:={l with rest:=[],ctl:=l.ctl++[ctlF 8 (bytes d)]}) rfl rfl rfl rfl rfl rfl rfl HIV.out.1 HPM.out.2.1 HPM.out.2.2.1 HPM.out.2.2.2.1 HIV.out.2
    clear hs
    go_wp2_with fail
    refine T2.mono ?_
    rintro e w2 ⟨t2,k2,q2,rfl,HL2,HG2⟩
    clear T2 c11
    have hL3:=HL2.out.set 11 (.bool true) (m:={LegPlain.move c {l with rest:=[],ctl:=l.ctl++[ctlF 8 (bytes d)]} with sent:=true,last:=bytes d}) (tv':=t2) (kv':=k2) (qv':=q2) rfl rfl HL2.out.T HL2.out.C HL2.out.D HL2.out.dr HL2.out.tn HL2.out.cn
    have f11:=HL2.out.froz 11
    obtain ⟨-,-,-,-,-,-,-,-,-,-,-,d11⟩:=HL2.out.cells
    have hG3:=(((OGoes.below L rb rp tv kv qv HB1.out).trans HG2.out)).trans (goes_set w2 L rb rp t2 k2 q2 11 (.bool true) (fun _ e=>.inl e) (fun _ e=>.inl e) (fun _ e=>.inl e))
    obtain ⟨V,hV⟩:∃ V,w2.setCell ⟨L,11,none⟩ (.bool true)=V:=⟨_,rfl⟩
    rw [hV] at hL3 hG3
    have HL3:=Sl.mk hL3
    have HG3:=Sl.mk hG3
    clear hL3 hG3 HL2 HG2 H1 HB1
    go_wp2
    (try rw [hV])
    go_ret
    exact ⟨_,_,_,rfl,HL3,HG3⟩
   ·have hres:LegPlain.close c l code (bytes w)=(l,false):=if_pos (.inr (by rw [hput];exact he))
    rw [hres]
    have hq:(((e1:Nat):Int) != 0)=true:=by simpa using he
    have hq2:(((e1:Nat):Int)==0)=false:=beq_eq_false_iff_ne.2 (by omega)
    clear h hg hf hk hc hu hres hput he
    go_enter Tryz.func23,Tryz.ntmps23
    go_wp2_with fail
    refine T.mono ?_
    rintro e w1 ⟨rfl,HB1⟩
    clear T
    have H1:=Sl.mk (H.out.below HB1.out)
    obtain ⟨-,-,-,-,-,-,-,-,-,-,-,c11⟩:=H1.out.cells
    rw [hs] at c11
    clear hs
    go_wp2
    go_ret
    exact ⟨_,_,_,rfl,H1,⟨OGoes.below L rb rp tv kv qv HB1.out⟩⟩
theorem lfail_any {k:Nat} (h:LegAt w0 W L sb mb rb rp tv kv qv c l) (hg:Mas.Globs w0) (hf:Few c l k) (hk:k≤1000) (hc:CfOk c) (hu:Utf.Globs w0) (x:Nat) :
 Calls Tryz.prog 54 #[.pointer (some ⟨L,0,none⟩),.int .i64 (x:Int)] W fun e w'=>∃ tv' kv' qv',e=.returned (.tuple #[])∧Sl (LegAt w0 w' L sb mb rb rp tv' kv' qv' c (LegPlain.fail c l x))∧Sl (OGoes W w' L rb rp tv kv qv tv' kv' qv'):=by
 have f10:=h.froz 10
 obtain ⟨-,-,-,-,-,-,-,-,-,-,c10,-⟩:=h.cells
 have hL:=h.set 10 (.int .i64 (x:Int)) (m:={l with wrong:=x}) (tv':=tv) (kv':=kv) (qv':=qv) rfl rfl h.T h.C h.D h.dr h.tn h.cn
 have hG:=goes_set W L rb rp tv kv qv 10 (.int .i64 (x:Int)) (fun _ e=>.inl e) (fun _ e=>.inl e) (fun _ e=>.inl e)
 obtain ⟨V,hV⟩:∃ V,W.setCell ⟨L,10,none⟩ (.int .i64 (x:Int))=V:=⟨_,rfl⟩
 rw [hV] at hL hG
 have T1:=Cls.code_any (x:Int) V
 have HF:Sl (Few c {l with wrong:=x} k):=⟨LegPlain.few_in hf (LegPlain.ok_in hf.ok ⟨rfl,rfl,rfl,rfl,rfl,rfl,rfl,rfl,rfl⟩) ⟨rfl,rfl,rfl,rfl⟩⟩
 have HP:Sl (Mas.Globs w0∧k≤1000∧CfOk c∧Utf.Globs w0):=⟨hg,hk,hc,hu⟩
 have HL:=Sl.mk hL
 have HG:=Sl.mk hG
 clear h hg hf hk hc hu hL hG
 go_enter Tryz.func54,Tryz.ntmps54
 go_upto_region 1 with fail
 (try rw [hV])
 go_wp2_with fail
 refine T1.mono ?_
 rintro e w1 ⟨rfl,HB1⟩
 clear T1
 have T2:=lclose_any (HL.out.below HB1.out) HP.out.1 HF.out HP.out.2.1 HP.out.2.2.1 HP.out.2.2.2 (codeC (x:Int)) {data:=#[]}
 go_wp2_with fail
 refine T2.mono ?_
 rintro e w2 ⟨t2,k2,q2,rfl,HL2,HG2⟩
 clear T2 f10 c10
 go_wp2
 go_end0
 exact ⟨_,_,_,rfl,HL2,⟨(HG.out.trans (OGoes.below L rb rp tv kv qv HB1.out)).trans HG2.out⟩⟩
theorem lhear_any {k:Nat} (h:LegAt w0 W L sb mb rb rp tv kv qv c l) (hg:Mas.Globs w0) (hf:Few c l k) (hk:k≤1000) (hc:CfOk c) (hu:Utf.Globs w0) (o d:Int) (s:ByteArray) (h9:o=9→s.size≤125) (h8:o=8→d=1005∨valid d=true) :
 Calls Tryz.prog 53 #[.pointer (some ⟨L,0,none⟩),.agg #[.int .i64 o,.int .i64 d,.string s]] W fun e w'=>∃ tv' kv' qv',e=.returned (.bool (decide (o≠9)))∧Sl (LegAt w0 w' L sb mb rb rp tv' kv' qv' c (LegPlain.react c l ⟨o,d,bytes s⟩))∧Sl (OGoes W w' L rb rp tv kv qv tv' kv' qv'):=by
 obtain ⟨wa,hwa⟩:∃ V,W.alloc (.cells #[.int .i64 o,.int .i64 d,.string s] 52)=V:=⟨_,rfl⟩
 have HB:Below W.heap.size W wa:=by rw [← hwa];exact (Below.refl _ _).alloc (Nat.le_refl _) _
 have hH:wa.heap[W.heap.size]? = some (.cells #[.int .i64 o,.int .i64 d,.string s] 52 (0,0)):=by rw [← hwa];exact alloc_new _ _ _ rfl
 have h1:=h.below HB
 have H:=Sl.mk h1
 have HG0:=Sl.mk (OGoes.below L rb rp tv kv qv HB)
 have hlt:W.heap.size<wa.heap.size:=(Array.getElem?_eq_some_iff.1 hH).1
 have HH:=Sl.mk hH
 obtain ⟨a0,a1,a2⟩:=Msg.ev_cells hH
 have HP:Sl (Mas.Globs w0∧Few c l k∧k≤1000∧CfOk c∧Utf.Globs w0):=⟨hg,hf,hk,hc,hu⟩
 by_cases ho9:o=9
 ·subst ho9
  have hsz:=h9 rfl
  have T:=open_any h1
  have hres:LegPlain.react c l ⟨9,d,bytes s⟩=LegPlain.pong c l (bytes s):=if_pos rfl
  rw [hres,show decide ((9:Int)≠9)=false from rfl]
  cases hs:l.sent with
  | true =>
    have hres2:LegPlain.pong c l (bytes s)=l:=if_pos hs
    rw [hres2]
    rw [hs] at T
    clear h hg hf hk hc hu h9 h8 HB hH h1 hres hres2 hs hsz
    go_enter Tryz.func53,Tryz.ntmps53
    go_upto_region 1 with fail
    (try rw [hwa])
    go_wp2_with fail
    refine T.mono ?_
    rintro e w1 ⟨rfl,rfl⟩
    clear T
    go_wp2
    go_ret
    exact ⟨_,_,_,rfl,H,HG0⟩
  | false =>
    have hres2:LegPlain.pong c l (bytes s)=ponged c l (bytes s):=if_neg (by rw [hs];decide)
    rw [hres2]
    rw [hs] at T
    have HSZ:=Sl.mk hsz
    clear h hg hf hk hc hu h9 h8 HB hH h1 hres hres2 hs hsz
    go_enter Tryz.func53,Tryz.ntmps53
    go_upto_region 1 with fail
    (try rw [hwa])
    clear hwa
    go_wp2_with fail
    refine T.mono ?_
    rintro e w1 ⟨rfl,rfl⟩
    clear T a0 a1 a2
    go_upto_region 4 with fail
    obtain ⟨Rw,hRw⟩:∃ R,wa.drew=R:=⟨_,rfl⟩
    have HBR:Below wa.heap.size wa Rw:=by rw [← hRw];exact (Below.refl _ _).drew
    refine wp_region_noPanic ?_
    refine last_begin (S:=fun V=>V.heap[W.heap.size]? = some (.cells #[.int .i64 9,.int .i64 d,.string s] 52 (0,0))) (D:=fun k=>k==5) (by kernel_rfl) ?_
    change wpAnyL _ _ _ _ _ _ _ _ _ wa.drew
    rw [hRw]
    clear hRw
    have HS0:Rw.heap[W.heap.size]? = some (.cells #[.int .i64 9,.int .i64 d,.string s] 52 (0,0)):=below_key HH.out HBR
    refine last_pure (d:=some 11) (op:=.move (Operand.tmp 0)) (g:=none) 0 ?v0 rfl (by kernel_rfl) (by kernel_rfl) (by kernel_rfl) (by kernel_rfl) rfl ?y0 HS0 ?_
    case y0=>intro o' ho W;simp only [execOp,ho];go_simp;try rfl
    simp only [Act.put,List.setIfInBounds_toArray,List.set_cons_zero,List.set_cons_succ]
    refine last_pure (d:=some 12) (op:=.nilCheck (Operand.tmp 11)) (g:=none) 1 ?v1 rfl (by kernel_rfl) (by kernel_rfl) (by kernel_rfl) (by kernel_rfl) rfl ?y1 HS0 ?_
    case y1=>intro o' ho W;simp only [execOp,ho];go_simp;try rfl
    simp only [Act.put,List.setIfInBounds_toArray,List.set_cons_zero,List.set_cons_succ]
    refine last_pure (d:=some 13) (op:=.fieldAddr 80 (Operand.tmp 12) 4) (g:=none) 2 ?v2 rfl (by kernel_rfl) (by kernel_rfl) (by kernel_rfl) (by kernel_rfl) rfl ?y2 HS0 ?_
    case y2=>intro o' ho W;simp only [execOp,ho];go_simp;try rfl
    simp only [Act.put,List.setIfInBounds_toArray,List.set_cons_zero,List.set_cons_succ]
    refine last_pure (d:=some 14) (op:=.fieldAddr 52 (Operand.tmp 3) 2) (g:=none) 3 ?v3 rfl (by kernel_rfl) (by kernel_rfl) (by kernel_rfl) (by kernel_rfl) rfl ?y3 HS0 ?_
    case y3=>intro o' ho W;simp only [execOp,ho];go_simp;try rfl
    simp only [Act.put,List.setIfInBounds_toArray,List.set_cons_zero,List.set_cons_succ]
    refine last_take (d:=some 15) (op:=.load 9 (Operand.tmp 14)) (g:=none) 4 ?v4 rfl (by kernel_rfl) (by kernel_rfl) (by kernel_rfl) (by kernel_rfl) (by kernel_rfl) ?y4 HS0 ?_
    case y4=>intro o' ho W hS;obtain ⟨-,-,b2⟩:=Msg.ev_cells hS;simp only [execOp,ho];go_simp;try rfl
    simp only [Act.put,List.setIfInBounds_toArray,List.set_cons_zero,List.set_cons_succ]
    have CT:=opong_any (H.out.below HBR) HP.out.1 HP.out.2.1 HP.out.2.2.1 HP.out.2.2.2.1 s HSZ.out
    refine last_call (d:=some 16) (op:=.call {callee:=Callee.value (Operand.func 85),args:=#[Operand.tmp 13,Operand.tmp 15],argTypes:=#[76,9]}) (g:=none) 5 85 #[.pointer (some ⟨L,4,none⟩),.string s] rfl (by kernel_rfl) (by kernel_rfl) ?y5 (by kernel_rfl) ?_
    case y5=>intro o' ho;simp only [execOp,ho];go_simp;try rfl
    refine (CT).mono ?_
    rintro e w3 ⟨t2,k2,q2,rfl,HL,HG3⟩
    refine ⟨_,rfl,?_⟩
    simp only [Act.put,List.setIfInBounds_toArray,List.set_cons_zero,List.set_cons_succ]
    refine last_done (by kernel_rfl) ?_ _
    refine NoPanic.normal ?_
    clear CT HS0
    go_upto_region 5 with fail
    go_wp2
    go_ret
    exact ⟨_,_,_,rfl,HL,⟨(HG0.out.trans (OGoes.below L rb rp tv kv qv HBR)).trans HG3.out⟩⟩
 ·have hq9:(o==9)=false:=beq_eq_false_iff_ne.2 ho9
  rw [show decide (o≠9)=true from decide_eq_true ho9]
  by_cases ho8:o=8
  ·subst ho8
   have hback:(if d=1005 then 0 else d)=acrossC d:=by
    unfold ClosePlain.acrossC
    by_cases hd:d=1005
    ·rw [if_pos hd,if_pos hd]
    ·rw [if_neg hd,if_neg hd,if_pos ((h8 rfl).resolve_left hd)]
   have hres:LegPlain.react c l ⟨8,d,bytes s⟩=(LegPlain.close c {l with got:=true} (acrossC d) []).1:=(if_neg ho9).trans (if_pos rfl)
   rw [hres]
   have T1:=back_any d wa
   rw [hback] at T1
   have HF:Sl (Few c {l with got:=true} k):=⟨LegPlain.few_in hf (LegPlain.ok_in hf.ok ⟨rfl,rfl,rfl,rfl,rfl,rfl,rfl,rfl,rfl⟩) ⟨rfl,rfl,rfl,rfl⟩⟩
   have H2:=Sl.mk (H.out.inner (m:={l with got:=true}) rfl rfl rfl rfl rfl rfl rfl)
   have T2:=lclose_any H2.out HP.out.1 HF.out HP.out.2.2.1 HP.out.2.2.2.1 HP.out.2.2.2.2 (acrossC d) {data:=#[]}
   clear h hg hf hk hc hu h9 h8 HB hH h1 hres hback ho9
   go_enter Tryz.func53,Tryz.ntmps53
   go_upto_region 1 with fail
   (try rw [hwa])
   go_wp2_with fail
   refine T1.mono ?_
   rintro e w1 ⟨rfl,rfl⟩
   clear T1
   go_wp2_with fail
   refine T2.mono ?_
   rintro e w2 ⟨t2,k2,q2,rfl,HL2,HG2⟩
   clear T2
   go_wp2
   go_ret
   exact ⟨_,_,_,rfl,HL2,⟨HG0.out.trans HG2.out⟩⟩
  ·have hq8:(o==8)=false:=beq_eq_false_iff_ne.2 ho8
   have hres:LegPlain.react c l ⟨o,d,bytes s⟩=l:=(if_neg ho9).trans (if_neg ho8)
   rw [hres]
   clear h hg hf hk hc hu h9 h8 HB hH h1 hres ho9 ho8
   go_enter Tryz.func53,Tryz.ntmps53
   go_upto_region 1 with fail
   (try rw [hwa])
   go_wp2
   go_ret
   exact ⟨_,_,_,rfl,H,HG0⟩
end
end Go.Proofs.YtlahonjmfecikaaGreatDoor.Leg
set_option maxRecDepth 100000
namespace Go.Proofs.YtlahonjmfecikaaGreatDoor.Leg
open Go.RowKit Stm
open FramePlain (Fr Fr0)
open LegPlain (Cf Lg)
open Msg (Kept MacS Mine)
open LegPlain (dress draws mv fill put IsC IsR Inv ctlF repl Settled Few CfOk frs_isR)
open FramePlain (text size chk form zero4)
open CutPlain (frs)
section
variable {w0 W W':World} {L sb mb rb rp:Nat} {tv kv qv:Value} {c:Cf} {l:Lg}
theorem frow_of {W:World} {base g n:Nat} {fs:List Fr} (h:Cut.RowF W g fs) (hn:fs.length=n) (hp:0<n) (hl:n≤1000000) (hb:base≤g):FRow W base (.slice (some ⟨g,0,none⟩) n n) fs:=by
 subst hn
 refine .inr ⟨g,0,fs.length,_,rfl,hp,hb,h,Nat.le_refl _,by unfold maxLen;omega,by rw [List.size_toArray,cvs_length];omega,fun j u hu=>?_⟩
 rw [Nat.zero_add,List.getElem?_toArray];exact hu
set_option maxHeartbeats 4000000 in
theorem lsend_any {k:Nat} (h:LegAt w0 W L sb mb rb rp tv kv qv c l) (hg:Mas.Globs w0) (hf:Few c l k) (hk:k≤1000) (hc:CfOk c) (hop:l.sent=false→l.got=false∧l.wrong=0) (o d:Int) (s:ByteArray) :
 Calls Tryz.prog 21 #[.pointer (some ⟨L,0,none⟩),.agg #[.int .i64 o,.int .i64 d,.string s]] W fun e w'=>∃ tv' kv' qv',e=.returned (.bool (LegPlain.send c l o (bytes s)).2)∧Sl (LegAt w0 w' L sb mb rb rp tv' kv' qv' c (LegPlain.send c l o (bytes s)).1)∧Sl (OGoes W w' L rb rp tv kv qv tv' kv' qv'):=by
 obtain ⟨wa,hwa⟩:∃ V,W.alloc (.cells #[.int .i64 o,.int .i64 d,.string s] 52)=V:=⟨_,rfl⟩
 have HB:Below W.heap.size W wa:=by rw [← hwa];exact (Below.refl _ _).alloc (Nat.le_refl _) _
 have hH:wa.heap[W.heap.size]? = some (.cells #[.int .i64 o,.int .i64 d,.string s] 52 (0,0)):=by rw [← hwa];exact alloc_new _ _ _ rfl
 have h1:=h.below HB
 have H:=Sl.mk h1
 have HG0:=Sl.mk (OGoes.below L rb rp tv kv qv HB)
 have HH:=Sl.mk hH
 have hlt:=h1.lt
 obtain ⟨c0,-⟩:=h1.cells
 have HP:Sl (Mas.Globs w0∧Few c l k∧k≤1000∧CfOk c):=⟨hg,hf,hk,hc⟩
 have hfree:LegPlain.free l=(!l.sent&&l.rest.isEmpty):=by
  unfold LegPlain.free
  cases hs:l.sent with
  | true=>rfl
  | false =>
    obtain ⟨q1,q2⟩:=hop hs
    rw [q1,q2];rfl
 have FT0:∀ r,LegPlain.free l=r→Sl (∀ V,Below wa.heap.size wa V→Calls Tryz.prog 35 #[.pointer (some ⟨L,0,none⟩)] V fun e w'=>e=.returned (.bool r)∧V=w'):=fun r hr=>⟨fun V hb=>free_any (h1.below hb) l.rest.length rfl r (by
  rw [← hr,hfree]
  congr 1
  cases l.rest with
  | nil=>rfl
  | cons f r=>exact beq_eq_false_iff_ne.2 (by rw [List.length_cons];omega))⟩
 have hms:=hc.m2
 have hfm:=hc.f2
 have hf1:=hc.f1
 cases hfr:LegPlain.free l with
 | false =>
   have FT:=FT0 false hfr
   have hres:LegPlain.send c l o (bytes s)=(l,false):=if_neg (fun e=>by rw [hfr] at e;exact absurd e.1 (by decide))
   rw [hres]
   clear h hg hf hk hc hop HB hH h1 hfree FT0 hfr hres hms hfm hf1
   go_enter Tryz.func21,Tryz.ntmps21
   go_upto_region 1 with fail
   (try rw [hwa])
   clear hwa
   go_upto_region 1 with fail
   obtain ⟨Rw,hRw⟩:∃ R,wa.drew=R:=⟨_,rfl⟩
   have HBR:Below wa.heap.size wa Rw:=by rw [← hRw];exact (Below.refl _ _).drew
   refine wp_region_noPanic ?_
   refine wp_region_held (S:=fun V=>Below wa.heap.size wa V) (by kernel_rfl) ?_
   change wpAnyH _ _ _ _ _ _ _ _ wa.drew
   rw [hRw]
   clear hRw
   refine heldTake (d:=some 7) (op:=.move (Operand.tmp 0)) (g:=none) 0 ?v0a rfl (by kernel_rfl) (by kernel_rfl) (by kernel_rfl) (by kernel_rfl) ?y0a HBR ?_
   case y0a=>intro o' ho W hS;simp only [execOp,ho];go_simp;try rfl
   simp only [Act.put,List.setIfInBounds_toArray,List.set_cons_zero,List.set_cons_succ]
   refine heldCall (d:=some 8) (op:=.call {callee:=Callee.value (Operand.func 35),args:=#[Operand.tmp 7],argTypes:=#[30]}) (g:=none) 1 35 #[.pointer (some ⟨L,0,none⟩)] rfl (by kernel_rfl) (by kernel_rfl) ?y1a ?_
   case y1a=>intro o' ho;simp only [execOp,ho];go_simp;try rfl
   refine (FT.out Rw HBR).mono ?_
   rintro e w2 ⟨rfl,rfl⟩
   refine ⟨_,rfl,HBR,?_⟩
   simp only [Act.put,List.setIfInBounds_toArray,List.set_cons_zero,List.set_cons_succ]
   refine heldTake (d:=some 9) (op:=.unOp UnOp.not 4 (Operand.tmp 8)) (g:=none) 2 (.bool true) rfl (by kernel_rfl) (by kernel_rfl) (by kernel_rfl) (by kernel_rfl) ?y2a HBR ?_
   case y2a=>intro o' ho W hS;exact by simp only [execOp,ho];go_simp;try rfl
   simp only [Act.put,List.setIfInBounds_toArray,List.set_cons_zero,List.set_cons_succ]
   refine heldTake (d:=some 10) (op:=.move (Operand.tmp 9)) (g:=none) 3 ?v3a rfl (by kernel_rfl) (by kernel_rfl) (by kernel_rfl) (by kernel_rfl) ?y3a HBR ?_
   case y3a=>intro o' ho W hS;simp only [execOp,ho];go_simp;try rfl
   simp only [Act.put,List.setIfInBounds_toArray,List.set_cons_zero,List.set_cons_succ]
   refine heldSkip (d:=some 11) (op:=.fieldAddr 52 (Operand.tmp 3) 2) (g:=some (3,false)) 4 rfl (by kernel_rfl) (by kernel_rfl) (by kernel_rfl) (by kernel_rfl) HBR ?_
   simp only [Act.put,List.setIfInBounds_toArray,List.set_cons_zero,List.set_cons_succ]
   refine heldSkip (d:=some 12) (op:=.load 9 (Operand.tmp 11)) (g:=some (3,false)) 5 rfl (by kernel_rfl) (by kernel_rfl) (by kernel_rfl) (by kernel_rfl) HBR ?_
   simp only [Act.put,List.setIfInBounds_toArray,List.set_cons_zero,List.set_cons_succ]
   refine heldSkip (d:=some 13) (op:=.call {callee:=Callee.builtin Builtin.len,args:=#[Operand.tmp 12],argTypes:=#[9]}) (g:=some (3,false)) 6 rfl (by kernel_rfl) (by kernel_rfl) (by kernel_rfl) (by kernel_rfl) HBR ?_
   simp only [Act.put,List.setIfInBounds_toArray,List.set_cons_zero,List.set_cons_succ]
   refine heldSkip (d:=some 14) (op:=.move (Operand.tmp 0)) (g:=some (3,false)) 7 rfl (by kernel_rfl) (by kernel_rfl) (by kernel_rfl) (by kernel_rfl) HBR ?_
   simp only [Act.put,List.setIfInBounds_toArray,List.set_cons_zero,List.set_cons_succ]
   refine heldSkip (d:=some 15) (op:=.nilCheck (Operand.tmp 14)) (g:=some (3,false)) 8 rfl (by kernel_rfl) (by kernel_rfl) (by kernel_rfl) (by kernel_rfl) HBR ?_
   simp only [Act.put,List.setIfInBounds_toArray,List.set_cons_zero,List.set_cons_succ]
   refine heldSkip (d:=some 16) (op:=.fieldAddr 80 (Operand.tmp 15) 0) (g:=some (3,false)) 9 rfl (by kernel_rfl) (by kernel_rfl) (by kernel_rfl) (by kernel_rfl) HBR ?_
   simp only [Act.put,List.setIfInBounds_toArray,List.set_cons_zero,List.set_cons_succ]
   refine heldSkip (d:=some 17) (op:=.load 3 (Operand.tmp 16)) (g:=some (3,false)) 10 rfl (by kernel_rfl) (by kernel_rfl) (by kernel_rfl) (by kernel_rfl) HBR ?_
   simp only [Act.put,List.setIfInBounds_toArray,List.set_cons_zero,List.set_cons_succ]
   refine heldSkip (d:=some 18) (op:=.binOp BinOp.gtr 3 (Operand.tmp 13) (Operand.tmp 17) 3) (g:=some (3,false)) 11 rfl (by kernel_rfl) (by kernel_rfl) (by kernel_rfl) (by kernel_rfl) HBR ?_
   simp only [Act.put,List.setIfInBounds_toArray,List.set_cons_zero,List.set_cons_succ]
   refine heldTake (d:=some 19) (op:=.pick (Operand.tmp 10) (Operand.const (Value.bool true)) (Operand.tmp 18)) (g:=none) 12 (.bool true) rfl (by kernel_rfl) (by kernel_rfl) (by kernel_rfl) (by kernel_rfl) ?y12a HBR ?_
   case y12a=>intro o' ho W hS;exact by simp only [execOp,ho];go_simp;try rfl
   simp only [Act.put,List.setIfInBounds_toArray,List.set_cons_zero,List.set_cons_succ]
   refine wpAnyH_done (by kernel_rfl) ?_ _
   refine NoPanic.normal ?_
   go_wp2
   go_ret
   exact ⟨_,_,_,rfl,⟨H.out.below HBR⟩,⟨HG0.out.trans (OGoes.below L rb rp tv kv qv HBR)⟩⟩
 | true =>
   have FT:=FT0 true hfr
   by_cases hl:c.msg<s.size
   ·have hres:LegPlain.send c l o (bytes s)=(l,false):=if_neg (fun e=>by have:=e.2.2;rw [bytes_length] at this;omega)
    rw [hres]
    have hq:((s.size:Int)>(c.msg:Int))=True:=eq_true (by omega)
    clear h hg hf hk hc hop HB hH h1 hfree FT0 hfr hres hms hfm hf1
    go_enter Tryz.func21,Tryz.ntmps21
    go_upto_region 1 with fail
    (try rw [hwa])
    clear hwa
    go_upto_region 1 with fail
    obtain ⟨Rw,hRw⟩:∃ R,wa.drew=R:=⟨_,rfl⟩
    have HBR:Below wa.heap.size wa Rw:=by rw [← hRw];exact (Below.refl _ _).drew
    refine wp_region_noPanic ?_
    refine wp_region_held (S:=fun V=>Below wa.heap.size wa V) (by kernel_rfl) ?_
    change wpAnyH _ _ _ _ _ _ _ _ wa.drew
    rw [hRw]
    clear hRw
    refine heldTake (d:=some 7) (op:=.move (Operand.tmp 0)) (g:=none) 0 ?v0b rfl (by kernel_rfl) (by kernel_rfl) (by kernel_rfl) (by kernel_rfl) ?y0b HBR ?_
    case y0b=>intro o' ho W hS;simp only [execOp,ho];go_simp;try rfl
    simp only [Act.put,List.setIfInBounds_toArray,List.set_cons_zero,List.set_cons_succ]
    refine heldCall (d:=some 8) (op:=.call {callee:=Callee.value (Operand.func 35),args:=#[Operand.tmp 7],argTypes:=#[30]}) (g:=none) 1 35 #[.pointer (some ⟨L,0,none⟩)] rfl (by kernel_rfl) (by kernel_rfl) ?y1b ?_
    case y1b=>intro o' ho;simp only [execOp,ho];go_simp;try rfl
    refine (FT.out Rw HBR).mono ?_
    rintro e w2 ⟨rfl,rfl⟩
    refine ⟨_,rfl,HBR,?_⟩
    simp only [Act.put,List.setIfInBounds_toArray,List.set_cons_zero,List.set_cons_succ]
    refine heldTake (d:=some 9) (op:=.unOp UnOp.not 4 (Operand.tmp 8)) (g:=none) 2 (.bool false) rfl (by kernel_rfl) (by kernel_rfl) (by kernel_rfl) (by kernel_rfl) ?y2b HBR ?_
    case y2b=>intro o' ho W hS;exact by simp only [execOp,ho];go_simp;try rfl
    simp only [Act.put,List.setIfInBounds_toArray,List.set_cons_zero,List.set_cons_succ]
    refine heldTake (d:=some 10) (op:=.move (Operand.tmp 9)) (g:=none) 3 ?v3b rfl (by kernel_rfl) (by kernel_rfl) (by kernel_rfl) (by kernel_rfl) ?y3b HBR ?_
    case y3b=>intro o' ho W hS;simp only [execOp,ho];go_simp;try rfl
    simp only [Act.put,List.setIfInBounds_toArray,List.set_cons_zero,List.set_cons_succ]
    refine heldTake (d:=some 11) (op:=.fieldAddr 52 (Operand.tmp 3) 2) (g:=some (3,false)) 4 ?v4b rfl (by kernel_rfl) (by kernel_rfl) (by kernel_rfl) (by kernel_rfl) ?y4b HBR ?_
    case y4b=>intro o' ho W hS;simp only [execOp,ho];go_simp;try rfl
    simp only [Act.put,List.setIfInBounds_toArray,List.set_cons_zero,List.set_cons_succ]
    refine heldTake (d:=some 12) (op:=.load 9 (Operand.tmp 11)) (g:=some (3,false)) 5 ?v5b rfl (by kernel_rfl) (by kernel_rfl) (by kernel_rfl) (by kernel_rfl) ?y5b HBR ?_
    case y5b=>intro o' ho W hS;obtain ⟨-,-,x2⟩:=Msg.ev_cells (below_key HH.out hS);simp only [execOp,ho];go_simp;try rfl
    simp only [Act.put,List.setIfInBounds_toArray,List.set_cons_zero,List.set_cons_succ]
    refine heldTake (d:=some 13) (op:=.call {callee:=Callee.builtin Builtin.len,args:=#[Operand.tmp 12],argTypes:=#[9]}) (g:=some (3,false)) 6 ?v6b rfl (by kernel_rfl) (by kernel_rfl) (by kernel_rfl) (by kernel_rfl) ?y6b HBR ?_
    case y6b=>intro o' ho W hS;simp only [execOp,ho];go_simp;try rfl
    simp only [Act.put,List.setIfInBounds_toArray,List.set_cons_zero,List.set_cons_succ]
    refine heldTake (d:=some 14) (op:=.move (Operand.tmp 0)) (g:=some (3,false)) 7 ?v7b rfl (by kernel_rfl) (by kernel_rfl) (by kernel_rfl) (by kernel_rfl) ?y7b HBR ?_
    case y7b=>intro o' ho W hS;simp only [execOp,ho];go_simp;try rfl
    simp only [Act.put,List.setIfInBounds_toArray,List.set_cons_zero,List.set_cons_succ]
    refine heldTake (d:=some 15) (op:=.nilCheck (Operand.tmp 14)) (g:=some (3,false)) 8 ?v8b rfl (by kernel_rfl) (by kernel_rfl) (by kernel_rfl) (by kernel_rfl) ?y8b HBR ?_
    case y8b=>intro o' ho W hS;simp only [execOp,ho];go_simp;try rfl
    simp only [Act.put,List.setIfInBounds_toArray,List.set_cons_zero,List.set_cons_succ]
    refine heldTake (d:=some 16) (op:=.fieldAddr 80 (Operand.tmp 15) 0) (g:=some (3,false)) 9 ?v9b rfl (by kernel_rfl) (by kernel_rfl) (by kernel_rfl) (by kernel_rfl) ?y9b HBR ?_
    case y9b=>intro o' ho W hS;simp only [execOp,ho];go_simp;try rfl
    simp only [Act.put,List.setIfInBounds_toArray,List.set_cons_zero,List.set_cons_succ]
    refine heldTake (d:=some 17) (op:=.load 3 (Operand.tmp 16)) (g:=some (3,false)) 10 ?v10b rfl (by kernel_rfl) (by kernel_rfl) (by kernel_rfl) (by kernel_rfl) ?y10b HBR ?_
    case y10b=>intro o' ho W hS;have x3:=(hS.cell (p:=⟨L,0,none⟩) hlt).trans c0;simp only [execOp,ho];go_simp;try rfl
    simp only [Act.put,List.setIfInBounds_toArray,List.set_cons_zero,List.set_cons_succ]
    refine heldTake (d:=some 18) (op:=.binOp BinOp.gtr 3 (Operand.tmp 13) (Operand.tmp 17) 3) (g:=some (3,false)) 11 (.bool true) rfl (by kernel_rfl) (by kernel_rfl) (by kernel_rfl) (by kernel_rfl) ?y11b HBR ?_
    case y11b=>intro o' ho W hS;exact by simp only [execOp,ho];go_simp;first | done | (rw [hq];done) | (simp [hq];done) | rfl
    simp only [Act.put,List.setIfInBounds_toArray,List.set_cons_zero,List.set_cons_succ]
    refine heldTake (d:=some 19) (op:=.pick (Operand.tmp 10) (Operand.const (Value.bool true)) (Operand.tmp 18)) (g:=none) 12 (.bool true) rfl (by kernel_rfl) (by kernel_rfl) (by kernel_rfl) (by kernel_rfl) ?y12b HBR ?_
    case y12b=>intro o' ho W hS;exact by simp only [execOp,ho];go_simp;try rfl
    simp only [Act.put,List.setIfInBounds_toArray,List.set_cons_zero,List.set_cons_succ]
    refine wpAnyH_done (by kernel_rfl) ?_ _
    refine NoPanic.normal ?_
    go_wp2
    go_ret
    exact ⟨_,_,_,rfl,⟨H.out.below HBR⟩,⟨HG0.out.trans (OGoes.below L rb rp tv kv qv HBR)⟩⟩
   ·have hq:((s.size:Int)>(c.msg:Int))=False:=eq_false (by omega)
    by_cases ho:o=1∨o=2
    ·obtain ⟨fs,hfs⟩:∃ fs,frs c.frm o (bytes s)=fs:=⟨_,rfl⟩
     obtain ⟨n,hn⟩:∃ n,fs.length=n:=⟨_,rfl⟩
     have hnp:0<n:=by rw [← hn,← hfs];exact CutPlain.frs_pos c.frm hf1 o (bytes s)
     have hnl:n≤65537:=by
      have:=LegPlain.frs_len hf1 (bytes s).length o (bytes s) (Nat.le_refl _)
      rw [hfs,hn,bytes_length] at this
      omega
     have hres:LegPlain.send c l o (bytes s)=(LegPlain.move c {l with rest:=fs,said:=l.said++[(o,bytes s)]},true):=by
      rw [← hfs]
      exact if_pos ⟨hfr,ho,by rw [bytes_length];omega⟩
     rw [hres]
     have FR:Sl (∀ V,Calls Tryz.prog 55 #[.int .i64 o,.string s,.int .i64 (c.frm:Int)] V fun e w'=>∃ g,e=.returned (.tuple #[.slice (some ⟨g,0,none⟩) n n,.int .i64 0])∧Sl (Cut.RowF w' g fs)∧V.heap.size≤g∧Sl (Below V.heap.size V w')):=⟨fun V=>by
      have:=Cut.frames_yes o s c.frm n V ho (by omega) ⟨hf1,hfm⟩ (by rw [hfs];exact hn)
      rw [hfs] at this;exact this⟩
     obtain ⟨p1,p2,p3,p4,p5⟩:=few_pm hf hk hc
     have h5:=LegPlain.Good.ctl_le hf
     have HPM:Sl (Inv c {l with rest:=fs,said:=l.said++[(o,bytes s)]}∧l.tail.length≤100000∧Small 256 l.tail∧c.frm≤65536∧l.ctl.length+fs.length≤1000000):=⟨⟨p1.bytes,p1.hist,p1.ctl,by rw [← hfs];exact frs_isR hf1 ho (bytes s) (bytes_small s),p1.ring⟩,p2,p3,p4,by rw [hn];omega⟩
     have HN:=Sl.mk hn
     have HNP:=Sl.mk (And.intro hnp hnl)
     clear h hg hf hk hc hop HB hH h1 hfree FT0 hfr hres hms hfm hf1 hfs hn hnp hnl p1 p2 p3 p4 p5 h5 ho hl
     go_enter Tryz.func21,Tryz.ntmps21
     go_upto_region 1 with fail
     (try rw [hwa])
     clear hwa
     go_upto_region 1 with fail
     obtain ⟨Rw,hRw⟩:∃ R,wa.drew=R:=⟨_,rfl⟩
     have HBR:Below wa.heap.size wa Rw:=by rw [← hRw];exact (Below.refl _ _).drew
     refine wp_region_noPanic ?_
     refine wp_region_held (S:=fun V=>Below wa.heap.size wa V) (by kernel_rfl) ?_
     change wpAnyH _ _ _ _ _ _ _ _ wa.drew
     rw [hRw]
     clear hRw
     refine heldTake (d:=some 7) (op:=.move (Operand.tmp 0)) (g:=none) 0 ?v0c rfl (by kernel_rfl) (by kernel_rfl) (by kernel_rfl) (by kernel_rfl) ?y0c HBR ?_
     case y0c=>intro o' ho W hS;simp only [execOp,ho];go_simp;try rfl
     simp only [Act.put,List.setIfInBounds_toArray,List.set_cons_zero,List.set_cons_succ]
     refine heldCall (d:=some 8) (op:=.call {callee:=Callee.value (Operand.func 35),args:=#[Operand.tmp 7],argTypes:=#[30]}) (g:=none) 1 35 #[.pointer (some ⟨L,0,none⟩)] rfl (by kernel_rfl) (by kernel_rfl) ?y1c ?_
     case y1c=>intro o' ho;simp only [execOp,ho];go_simp;try rfl
     refine (FT.out Rw HBR).mono ?_
     rintro e w2 ⟨rfl,rfl⟩
     refine ⟨_,rfl,HBR,?_⟩
     simp only [Act.put,List.setIfInBounds_toArray,List.set_cons_zero,List.set_cons_succ]
     refine heldTake (d:=some 9) (op:=.unOp UnOp.not 4 (Operand.tmp 8)) (g:=none) 2 (.bool false) rfl (by kernel_rfl) (by kernel_rfl) (by kernel_rfl) (by kernel_rfl) ?y2c HBR ?_
     case y2c=>intro o' ho W hS;exact by simp only [execOp,ho];go_simp;try rfl
     simp only [Act.put,List.setIfInBounds_toArray,List.set_cons_zero,List.set_cons_succ]
     refine heldTake (d:=some 10) (op:=.move (Operand.tmp 9)) (g:=none) 3 ?v3c rfl (by kernel_rfl) (by kernel_rfl) (by kernel_rfl) (by kernel_rfl) ?y3c HBR ?_
     case y3c=>intro o' ho W hS;simp only [execOp,ho];go_simp;try rfl
     simp only [Act.put,List.setIfInBounds_toArray,List.set_cons_zero,List.set_cons_succ]
     refine heldTake (d:=some 11) (op:=.fieldAddr 52 (Operand.tmp 3) 2) (g:=some (3,false)) 4 ?v4c rfl (by kernel_rfl) (by kernel_rfl) (by kernel_rfl) (by kernel_rfl) ?y4c HBR ?_
     case y4c=>intro o' ho W hS;simp only [execOp,ho];go_simp;try rfl
     simp only [Act.put,List.setIfInBounds_toArray,List.set_cons_zero,List.set_cons_succ]
     refine heldTake (d:=some 12) (op:=.load 9 (Operand.tmp 11)) (g:=some (3,false)) 5 ?v5c rfl (by kernel_rfl) (by kernel_rfl) (by kernel_rfl) (by kernel_rfl) ?y5c HBR ?_
     case y5c=>intro o' ho W hS;obtain ⟨-,-,x2⟩:=Msg.ev_cells (below_key HH.out hS);simp only [execOp,ho];go_simp;try rfl
     simp only [Act.put,List.setIfInBounds_toArray,List.set_cons_zero,List.set_cons_succ]
     refine heldTake (d:=some 13) (op:=.call {callee:=Callee.builtin Builtin.len,args:=#[Operand.tmp 12],argTypes:=#[9]}) (g:=some (3,false)) 6 ?v6c rfl (by kernel_rfl) (by kernel_rfl) (by kernel_rfl) (by kernel_rfl) ?y6c HBR ?_
     case y6c=>intro o' ho W hS;simp only [execOp,ho];go_simp;try rfl
     simp only [Act.put,List.setIfInBounds_toArray,List.set_cons_zero,List.set_cons_succ]
     refine heldTake (d:=some 14) (op:=.move (Operand.tmp 0)) (g:=some (3,false)) 7 ?v7c rfl (by kernel_rfl) (by kernel_rfl) (by kernel_rfl) (by kernel_rfl) ?y7c HBR ?_
     case y7c=>intro o' ho W hS;simp only [execOp,ho];go_simp;try rfl
     simp only [Act.put,List.setIfInBounds_toArray,List.set_cons_zero,List.set_cons_succ]
     refine heldTake (d:=some 15) (op:=.nilCheck (Operand.tmp 14)) (g:=some (3,false)) 8 ?v8c rfl (by kernel_rfl) (by kernel_rfl) (by kernel_rfl) (by kernel_rfl) ?y8c HBR ?_
     case y8c=>intro o' ho W hS;simp only [execOp,ho];go_simp;try rfl
     simp only [Act.put,List.setIfInBounds_toArray,List.set_cons_zero,List.set_cons_succ]
     refine heldTake (d:=some 16) (op:=.fieldAddr 80 (Operand.tmp 15) 0) (g:=some (3,false)) 9 ?v9c rfl (by kernel_rfl) (by kernel_rfl) (by kernel_rfl) (by kernel_rfl) ?y9c HBR ?_
     case y9c=>intro o' ho W hS;simp only [execOp,ho];go_simp;try rfl
     simp only [Act.put,List.setIfInBounds_toArray,List.set_cons_zero,List.set_cons_succ]
     refine heldTake (d:=some 17) (op:=.load 3 (Operand.tmp 16)) (g:=some (3,false)) 10 ?v10c rfl (by kernel_rfl) (by kernel_rfl) (by kernel_rfl) (by kernel_rfl) ?y10c HBR ?_
     case y10c=>intro o' ho W hS;have x3:=(hS.cell (p:=⟨L,0,none⟩) hlt).trans c0;simp only [execOp,ho];go_simp;try rfl
     simp only [Act.put,List.setIfInBounds_toArray,List.set_cons_zero,List.set_cons_succ]
     refine heldTake (d:=some 18) (op:=.binOp BinOp.gtr 3 (Operand.tmp 13) (Operand.tmp 17) 3) (g:=some (3,false)) 11 (.bool false) rfl (by kernel_rfl) (by kernel_rfl) (by kernel_rfl) (by kernel_rfl) ?y11c HBR ?_
     case y11c=>intro o' ho W hS;exact by simp only [execOp,ho];go_simp;first | done | (rw [hq];done) | (simp [hq];done) | rfl
     simp only [Act.put,List.setIfInBounds_toArray,List.set_cons_zero,List.set_cons_succ]
     refine heldTake (d:=some 19) (op:=.pick (Operand.tmp 10) (Operand.const (Value.bool true)) (Operand.tmp 18)) (g:=none) 12 (.bool false) rfl (by kernel_rfl) (by kernel_rfl) (by kernel_rfl) (by kernel_rfl) ?y12c HBR ?_
     case y12c=>intro o' ho W hS;exact by simp only [execOp,ho];go_simp;try rfl
     simp only [Act.put,List.setIfInBounds_toArray,List.set_cons_zero,List.set_cons_succ]
     refine wpAnyH_done (by kernel_rfl) ?_ _
     refine NoPanic.normal ?_
     have H2:=H.out.below HBR
     have hlt2:=H2.lt
     have HH2:=Sl.mk (below_key HH.out HBR)
     have HG2:=Sl.mk (HG0.out.trans (OGoes.below L rb rp tv kv qv HBR))
     obtain ⟨-,c1,-⟩:=H2.cells
     have HL2:=Sl.mk H2
     obtain ⟨wb,hwb⟩:∃ V,Rw=V:=⟨_,rfl⟩
     subst hwb
     clear H2 c0 hlt HBR FT hq H HH HG0
     go_upto_region 3 with fail
     obtain ⟨Rx,hRx⟩:∃ R,Rw.drew=R:=⟨_,rfl⟩
     have HBX:Below Rw.heap.size Rw Rx:=by rw [← hRx];exact (Below.refl _ _).drew
     refine wp_region_noPanic ?_
     refine wp_region_held (S:=fun V=>Below Rw.heap.size Rw V) (by kernel_rfl) ?_
     change wpAnyH _ _ _ _ _ _ _ _ Rw.drew
     rw [hRx]
     clear hRx
     refine heldTake (d:=some 21) (op:=.fieldAddr 52 (Operand.tmp 3) 0) (g:=none) 0 ?v0d rfl (by kernel_rfl) (by kernel_rfl) (by kernel_rfl) (by kernel_rfl) ?y0d HBX ?_
     case y0d=>intro o' ho W hS;simp only [execOp,ho];go_simp;try rfl
     simp only [Act.put,List.setIfInBounds_toArray,List.set_cons_zero,List.set_cons_succ]
     refine heldTake (d:=some 22) (op:=.load 3 (Operand.tmp 21)) (g:=none) 1 ?v1d rfl (by kernel_rfl) (by kernel_rfl) (by kernel_rfl) (by kernel_rfl) ?y1d HBX ?_
     case y1d=>intro o' ho W hS;obtain ⟨x0,-,-⟩:=Msg.ev_cells (below_key HH2.out hS);simp only [execOp,ho];go_simp;try rfl
     simp only [Act.put,List.setIfInBounds_toArray,List.set_cons_zero,List.set_cons_succ]
     refine heldTake (d:=some 23) (op:=.fieldAddr 52 (Operand.tmp 3) 2) (g:=none) 2 ?v2d rfl (by kernel_rfl) (by kernel_rfl) (by kernel_rfl) (by kernel_rfl) ?y2d HBX ?_
     case y2d=>intro o' ho W hS;simp only [execOp,ho];go_simp;try rfl
     simp only [Act.put,List.setIfInBounds_toArray,List.set_cons_zero,List.set_cons_succ]
     refine heldTake (d:=some 24) (op:=.load 9 (Operand.tmp 23)) (g:=none) 3 ?v3d rfl (by kernel_rfl) (by kernel_rfl) (by kernel_rfl) (by kernel_rfl) ?y3d HBX ?_
     case y3d=>intro o' ho W hS;obtain ⟨-,-,x2⟩:=Msg.ev_cells (below_key HH2.out hS);simp only [execOp,ho];go_simp;try rfl
     simp only [Act.put,List.setIfInBounds_toArray,List.set_cons_zero,List.set_cons_succ]
     refine heldTake (d:=some 25) (op:=.move (Operand.tmp 0)) (g:=none) 4 ?v4d rfl (by kernel_rfl) (by kernel_rfl) (by kernel_rfl) (by kernel_rfl) ?y4d HBX ?_
     case y4d=>intro o' ho W hS;simp only [execOp,ho];go_simp;try rfl
     simp only [Act.put,List.setIfInBounds_toArray,List.set_cons_zero,List.set_cons_succ]
     refine heldTake (d:=some 26) (op:=.nilCheck (Operand.tmp 25)) (g:=none) 5 ?v5d rfl (by kernel_rfl) (by kernel_rfl) (by kernel_rfl) (by kernel_rfl) ?y5d HBX ?_
     case y5d=>intro o' ho W hS;simp only [execOp,ho];go_simp;try rfl
     simp only [Act.put,List.setIfInBounds_toArray,List.set_cons_zero,List.set_cons_succ]
     refine heldTake (d:=some 27) (op:=.fieldAddr 80 (Operand.tmp 26) 1) (g:=none) 6 ?v6d rfl (by kernel_rfl) (by kernel_rfl) (by kernel_rfl) (by kernel_rfl) ?y6d HBX ?_
     case y6d=>intro o' ho W hS;simp only [execOp,ho];go_simp;try rfl
     simp only [Act.put,List.setIfInBounds_toArray,List.set_cons_zero,List.set_cons_succ]
     refine heldTake (d:=some 28) (op:=.load 3 (Operand.tmp 27)) (g:=none) 7 ?v7d rfl (by kernel_rfl) (by kernel_rfl) (by kernel_rfl) (by kernel_rfl) ?y7d HBX ?_
     case y7d=>intro o' ho W hS;have x3:=(hS.cell (p:=⟨L,1,none⟩) hlt2).trans c1;simp only [execOp,ho];go_simp;try rfl
     simp only [Act.put,List.setIfInBounds_toArray,List.set_cons_zero,List.set_cons_succ]
     refine heldCall (d:=some 29) (op:=.call {callee:=Callee.value (Operand.func 55),args:=#[Operand.tmp 22,Operand.tmp 24,Operand.tmp 28],argTypes:=#[3,9,3]}) (g:=none) 8 55 #[.int .i64 o,.string s,.int .i64 (c.frm:Int)] rfl (by kernel_rfl) (by kernel_rfl) ?y8d ?_
     case y8d=>intro o' ho;simp only [execOp,ho];go_simp;try rfl
     refine (FR.out Rx).mono ?_
     rintro e w3 ⟨g,rfl,HRF,hge,HB3⟩
     have HBY:Below Rw.heap.size Rw w3:=HBX.trans (HB3.out.mono HBX.size)
     refine ⟨_,rfl,HBY,?_⟩
     simp only [Act.put,List.setIfInBounds_toArray,List.set_cons_zero,List.set_cons_succ]
     refine heldTake (d:=some 20) (op:=.move (Operand.tmp 29)) (g:=none) 9 ?v9d rfl (by kernel_rfl) (by kernel_rfl) (by kernel_rfl) (by kernel_rfl) ?y9d HBY ?_
     case y9d=>intro o' ho W hS;simp only [execOp,ho];go_simp;try rfl
     simp only [Act.put,List.setIfInBounds_toArray,List.set_cons_zero,List.set_cons_succ]
     refine heldTake (d:=some 30) (op:=.extract (Operand.tmp 20) 0) (g:=none) 10 ?v10d rfl (by kernel_rfl) (by kernel_rfl) (by kernel_rfl) (by kernel_rfl) ?y10d HBY ?_
     case y10d=>intro o' ho W hS;simp only [execOp,ho];go_simp;try rfl
     simp only [Act.put,List.setIfInBounds_toArray,List.set_cons_zero,List.set_cons_succ]
     refine heldTake (d:=some 31) (op:=.extract (Operand.tmp 20) 1) (g:=none) 11 ?v11d rfl (by kernel_rfl) (by kernel_rfl) (by kernel_rfl) (by kernel_rfl) ?y11d HBY ?_
     case y11d=>intro o' ho W hS;simp only [execOp,ho];go_simp;try rfl
     simp only [Act.put,List.setIfInBounds_toArray,List.set_cons_zero,List.set_cons_succ]
     refine heldTake (d:=some 5) (op:=.assign (Operand.tmp 30)) (g:=none) 12 ?v12d rfl (by kernel_rfl) (by kernel_rfl) (by kernel_rfl) (by kernel_rfl) ?y12d HBY ?_
     case y12d=>intro o' ho W hS;simp only [execOp,ho];go_simp;try rfl
     simp only [Act.put,List.setIfInBounds_toArray,List.set_cons_zero,List.set_cons_succ]
     refine heldTake (d:=some 6) (op:=.assign (Operand.tmp 31)) (g:=none) 13 ?v13d rfl (by kernel_rfl) (by kernel_rfl) (by kernel_rfl) (by kernel_rfl) ?y13d HBY ?_
     case y13d=>intro o' ho W hS;simp only [execOp,ho];go_simp;try rfl
     simp only [Act.put,List.setIfInBounds_toArray,List.set_cons_zero,List.set_cons_succ]
     refine wpAnyH_done (by kernel_rfl) ?_ _
     refine NoPanic.normal ?_
     have HV:FRow w3 w0.heap.size (.slice (some ⟨g,0,none⟩) n n) fs:=frow_of HRF.out HN.out HNP.out.1 (by have:=HNP.out.2;omega) (Nat.le_trans HL2.out.low.size (Nat.le_trans HBX.size hge))
     have ST:=osend_any (m:={l with rest:=fs,said:=l.said++[(o,bytes s)]}) HL2.out HBY HP.out.1 HV (fun j e=>by
      have e:some g=some j:=e
      injection e with e
      have:=HBX.size;omega) rfl rfl rfl rfl rfl rfl HPM.out.1 HPM.out.2.1 HPM.out.2.2.1 HPM.out.2.2.2.1 HPM.out.2.2.2.2
     clear HV HRF hge HB3 c1 HBX HBY FR
     go_wp2_with fail
     refine ST.mono ?_
     rintro e w4 ⟨t2,k2,q2,rfl,HL4,HG4⟩
     clear ST
     go_wp2
     go_ret
     exact ⟨_,_,_,rfl,HL4,⟨HG2.out.trans HG4.out⟩⟩
    ·have hres:LegPlain.send c l o (bytes s)=(l,false):=if_neg (fun e=>ho e.2.1)
     rw [hres]
     have FR:Sl (∀ V,Calls Tryz.prog 55 #[.int .i64 o,.string s,.int .i64 (c.frm:Int)] V fun e w'=>e=.returned (.tuple #[.slice none 0 0,.int .i64 130])∧V=w'):=⟨fun V=>Cut.frames_no o s c.frm V (.inl ho)⟩
     clear h hg hf hk hc hop HB hH h1 hfree FT0 hfr hres hms hfm hf1 ho hl
     go_enter Tryz.func21,Tryz.ntmps21
     go_upto_region 1 with fail
     (try rw [hwa])
     clear hwa
     go_upto_region 1 with fail
     obtain ⟨Rw,hRw⟩:∃ R,wa.drew=R:=⟨_,rfl⟩
     have HBR:Below wa.heap.size wa Rw:=by rw [← hRw];exact (Below.refl _ _).drew
     refine wp_region_noPanic ?_
     refine wp_region_held (S:=fun V=>Below wa.heap.size wa V) (by kernel_rfl) ?_
     change wpAnyH _ _ _ _ _ _ _ _ wa.drew
     rw [hRw]
     clear hRw
     refine heldTake (d:=some 7) (op:=.move (Operand.tmp 0)) (g:=none) 0 ?v0e rfl (by kernel_rfl) (by kernel_rfl) (by kernel_rfl) (by kernel_rfl) ?y0e HBR ?_
     case y0e=>intro o' ho W hS;simp only [execOp,ho];go_simp;try rfl
     simp only [Act.put,List.setIfInBounds_toArray,List.set_cons_zero,List.set_cons_succ]
     refine heldCall (d:=some 8) (op:=.call {callee:=Callee.value (Operand.func 35),args:=#[Operand.tmp 7],argTypes:=#[30]}) (g:=none) 1 35 #[.pointer (some ⟨L,0,none⟩)] rfl (by kernel_rfl) (by kernel_rfl) ?y1e ?_
     case y1e=>intro o' ho;simp only [execOp,ho];go_simp;try rfl
     refine (FT.out Rw HBR).mono ?_
     rintro e w2 ⟨rfl,rfl⟩
     refine ⟨_,rfl,HBR,?_⟩
     simp only [Act.put,List.setIfInBounds_toArray,List.set_cons_zero,List.set_cons_succ]
     refine heldTake (d:=some 9) (op:=.unOp UnOp.not 4 (Operand.tmp 8)) (g:=none) 2 (.bool false) rfl (by kernel_rfl) (by kernel_rfl) (by kernel_rfl) (by kernel_rfl) ?y2e HBR ?_
     case y2e=>intro o' ho W hS;exact by simp only [execOp,ho];go_simp;try rfl
     simp only [Act.put,List.setIfInBounds_toArray,List.set_cons_zero,List.set_cons_succ]
     refine heldTake (d:=some 10) (op:=.move (Operand.tmp 9)) (g:=none) 3 ?v3e rfl (by kernel_rfl) (by kernel_rfl) (by kernel_rfl) (by kernel_rfl) ?y3e HBR ?_
     case y3e=>intro o' ho W hS;simp only [execOp,ho];go_simp;try rfl
     simp only [Act.put,List.setIfInBounds_toArray,List.set_cons_zero,List.set_cons_succ]
     refine heldTake (d:=some 11) (op:=.fieldAddr 52 (Operand.tmp 3) 2) (g:=some (3,false)) 4 ?v4e rfl (by kernel_rfl) (by kernel_rfl) (by kernel_rfl) (by kernel_rfl) ?y4e HBR ?_
     case y4e=>intro o' ho W hS;simp only [execOp,ho];go_simp;try rfl
     simp only [Act.put,List.setIfInBounds_toArray,List.set_cons_zero,List.set_cons_succ]
     refine heldTake (d:=some 12) (op:=.load 9 (Operand.tmp 11)) (g:=some (3,false)) 5 ?v5e rfl (by kernel_rfl) (by kernel_rfl) (by kernel_rfl) (by kernel_rfl) ?y5e HBR ?_
     case y5e=>intro o' ho W hS;obtain ⟨-,-,x2⟩:=Msg.ev_cells (below_key HH.out hS);simp only [execOp,ho];go_simp;try rfl
     simp only [Act.put,List.setIfInBounds_toArray,List.set_cons_zero,List.set_cons_succ]
     refine heldTake (d:=some 13) (op:=.call {callee:=Callee.builtin Builtin.len,args:=#[Operand.tmp 12],argTypes:=#[9]}) (g:=some (3,false)) 6 ?v6e rfl (by kernel_rfl) (by kernel_rfl) (by kernel_rfl) (by kernel_rfl) ?y6e HBR ?_
     case y6e=>intro o' ho W hS;simp only [execOp,ho];go_simp;try rfl
     simp only [Act.put,List.setIfInBounds_toArray,List.set_cons_zero,List.set_cons_succ]
     refine heldTake (d:=some 14) (op:=.move (Operand.tmp 0)) (g:=some (3,false)) 7 ?v7e rfl (by kernel_rfl) (by kernel_rfl) (by kernel_rfl) (by kernel_rfl) ?y7e HBR ?_
     case y7e=>intro o' ho W hS;simp only [execOp,ho];go_simp;try rfl
     simp only [Act.put,List.setIfInBounds_toArray,List.set_cons_zero,List.set_cons_succ]
     refine heldTake (d:=some 15) (op:=.nilCheck (Operand.tmp 14)) (g:=some (3,false)) 8 ?v8e rfl (by kernel_rfl) (by kernel_rfl) (by kernel_rfl) (by kernel_rfl) ?y8e HBR ?_
     case y8e=>intro o' ho W hS;simp only [execOp,ho];go_simp;try rfl
     simp only [Act.put,List.setIfInBounds_toArray,List.set_cons_zero,List.set_cons_succ]
     refine heldTake (d:=some 16) (op:=.fieldAddr 80 (Operand.tmp 15) 0) (g:=some (3,false)) 9 ?v9e rfl (by kernel_rfl) (by kernel_rfl) (by kernel_rfl) (by kernel_rfl) ?y9e HBR ?_
     case y9e=>intro o' ho W hS;simp only [execOp,ho];go_simp;try rfl
     simp only [Act.put,List.setIfInBounds_toArray,List.set_cons_zero,List.set_cons_succ]
     refine heldTake (d:=some 17) (op:=.load 3 (Operand.tmp 16)) (g:=some (3,false)) 10 ?v10e rfl (by kernel_rfl) (by kernel_rfl) (by kernel_rfl) (by kernel_rfl) ?y10e HBR ?_
     case y10e=>intro o' ho W hS;have x3:=(hS.cell (p:=⟨L,0,none⟩) hlt).trans c0;simp only [execOp,ho];go_simp;try rfl
     simp only [Act.put,List.setIfInBounds_toArray,List.set_cons_zero,List.set_cons_succ]
     refine heldTake (d:=some 18) (op:=.binOp BinOp.gtr 3 (Operand.tmp 13) (Operand.tmp 17) 3) (g:=some (3,false)) 11 (.bool false) rfl (by kernel_rfl) (by kernel_rfl) (by kernel_rfl) (by kernel_rfl) ?y11e HBR ?_
     case y11e=>intro o' ho W hS;exact by simp only [execOp,ho];go_simp;first | done | (rw [hq];done) | (simp [hq];done) | rfl
     simp only [Act.put,List.setIfInBounds_toArray,List.set_cons_zero,List.set_cons_succ]
     refine heldTake (d:=some 19) (op:=.pick (Operand.tmp 10) (Operand.const (Value.bool true)) (Operand.tmp 18)) (g:=none) 12 (.bool false) rfl (by kernel_rfl) (by kernel_rfl) (by kernel_rfl) (by kernel_rfl) ?y12e HBR ?_
     case y12e=>intro o' ho W hS;exact by simp only [execOp,ho];go_simp;try rfl
     simp only [Act.put,List.setIfInBounds_toArray,List.set_cons_zero,List.set_cons_succ]
     refine wpAnyH_done (by kernel_rfl) ?_ _
     refine NoPanic.normal ?_
     have H2:=H.out.below HBR
     have hlt2:=H2.lt
     have HH2:=Sl.mk (below_key HH.out HBR)
     have HG2:=Sl.mk (HG0.out.trans (OGoes.below L rb rp tv kv qv HBR))
     obtain ⟨-,c1,-⟩:=H2.cells
     have HL2:=Sl.mk H2
     clear H2 c0 hlt HBR FT hq H HH HG0
     go_upto_region 3 with fail
     obtain ⟨Rx,hRx⟩:∃ R,Rw.drew=R:=⟨_,rfl⟩
     have HBX:Below Rw.heap.size Rw Rx:=by rw [← hRx];exact (Below.refl _ _).drew
     refine wp_region_noPanic ?_
     refine wp_region_held (S:=fun V=>Below Rw.heap.size Rw V) (by kernel_rfl) ?_
     change wpAnyH _ _ _ _ _ _ _ _ Rw.drew
     rw [hRx]
     clear hRx
     refine heldTake (d:=some 21) (op:=.fieldAddr 52 (Operand.tmp 3) 0) (g:=none) 0 ?v0f rfl (by kernel_rfl) (by kernel_rfl) (by kernel_rfl) (by kernel_rfl) ?y0f HBX ?_
     case y0f=>intro o' ho W hS;simp only [execOp,ho];go_simp;try rfl
     simp only [Act.put,List.setIfInBounds_toArray,List.set_cons_zero,List.set_cons_succ]
     refine heldTake (d:=some 22) (op:=.load 3 (Operand.tmp 21)) (g:=none) 1 ?v1f rfl (by kernel_rfl) (by kernel_rfl) (by kernel_rfl) (by kernel_rfl) ?y1f HBX ?_
     case y1f=>intro o' ho W hS;obtain ⟨x0,-,-⟩:=Msg.ev_cells (below_key HH2.out hS);simp only [execOp,ho];go_simp;try rfl
     simp only [Act.put,List.setIfInBounds_toArray,List.set_cons_zero,List.set_cons_succ]
     refine heldTake (d:=some 23) (op:=.fieldAddr 52 (Operand.tmp 3) 2) (g:=none) 2 ?v2f rfl (by kernel_rfl) (by kernel_rfl) (by kernel_rfl) (by kernel_rfl) ?y2f HBX ?_
     case y2f=>intro o' ho W hS;simp only [execOp,ho];go_simp;try rfl
     simp only [Act.put,List.setIfInBounds_toArray,List.set_cons_zero,List.set_cons_succ]
     refine heldTake (d:=some 24) (op:=.load 9 (Operand.tmp 23)) (g:=none) 3 ?v3f rfl (by kernel_rfl) (by kernel_rfl) (by kernel_rfl) (by kernel_rfl) ?y3f HBX ?_
     case y3f=>intro o' ho W hS;obtain ⟨-,-,x2⟩:=Msg.ev_cells (below_key HH2.out hS);simp only [execOp,ho];go_simp;try rfl
     simp only [Act.put,List.setIfInBounds_toArray,List.set_cons_zero,List.set_cons_succ]
     refine heldTake (d:=some 25) (op:=.move (Operand.tmp 0)) (g:=none) 4 ?v4f rfl (by kernel_rfl) (by kernel_rfl) (by kernel_rfl) (by kernel_rfl) ?y4f HBX ?_
     case y4f=>intro o' ho W hS;simp only [execOp,ho];go_simp;try rfl
     simp only [Act.put,List.setIfInBounds_toArray,List.set_cons_zero,List.set_cons_succ]
     refine heldTake (d:=some 26) (op:=.nilCheck (Operand.tmp 25)) (g:=none) 5 ?v5f rfl (by kernel_rfl) (by kernel_rfl) (by kernel_rfl) (by kernel_rfl) ?y5f HBX ?_
     case y5f=>intro o' ho W hS;simp only [execOp,ho];go_simp;try rfl
     simp only [Act.put,List.setIfInBounds_toArray,List.set_cons_zero,List.set_cons_succ]
     refine heldTake (d:=some 27) (op:=.fieldAddr 80 (Operand.tmp 26) 1) (g:=none) 6 ?v6f rfl (by kernel_rfl) (by kernel_rfl) (by kernel_rfl) (by kernel_rfl) ?y6f HBX ?_
     case y6f=>intro o' ho W hS;simp only [execOp,ho];go_simp;try rfl
     simp only [Act.put,List.setIfInBounds_toArray,List.set_cons_zero,List.set_cons_succ]
     refine heldTake (d:=some 28) (op:=.load 3 (Operand.tmp 27)) (g:=none) 7 ?v7f rfl (by kernel_rfl) (by kernel_rfl) (by kernel_rfl) (by kernel_rfl) ?y7f HBX ?_
     case y7f=>intro o' ho W hS;have x3:=(hS.cell (p:=⟨L,1,none⟩) hlt2).trans c1;simp only [execOp,ho];go_simp;try rfl
     simp only [Act.put,List.setIfInBounds_toArray,List.set_cons_zero,List.set_cons_succ]
     refine heldCall (d:=some 29) (op:=.call {callee:=Callee.value (Operand.func 55),args:=#[Operand.tmp 22,Operand.tmp 24,Operand.tmp 28],argTypes:=#[3,9,3]}) (g:=none) 8 55 #[.int .i64 o,.string s,.int .i64 (c.frm:Int)] rfl (by kernel_rfl) (by kernel_rfl) ?y8f ?_
     case y8f=>intro o' ho;simp only [execOp,ho];go_simp;try rfl
     refine (FR.out Rx).mono ?_
     rintro e w3 ⟨rfl,rfl⟩
     refine ⟨_,rfl,HBX,?_⟩
     simp only [Act.put,List.setIfInBounds_toArray,List.set_cons_zero,List.set_cons_succ]
     refine heldTake (d:=some 20) (op:=.move (Operand.tmp 29)) (g:=none) 9 ?v9f rfl (by kernel_rfl) (by kernel_rfl) (by kernel_rfl) (by kernel_rfl) ?y9f HBX ?_
     case y9f=>intro o' ho W hS;simp only [execOp,ho];go_simp;try rfl
     simp only [Act.put,List.setIfInBounds_toArray,List.set_cons_zero,List.set_cons_succ]
     refine heldTake (d:=some 30) (op:=.extract (Operand.tmp 20) 0) (g:=none) 10 ?v10f rfl (by kernel_rfl) (by kernel_rfl) (by kernel_rfl) (by kernel_rfl) ?y10f HBX ?_
     case y10f=>intro o' ho W hS;simp only [execOp,ho];go_simp;try rfl
     simp only [Act.put,List.setIfInBounds_toArray,List.set_cons_zero,List.set_cons_succ]
     refine heldTake (d:=some 31) (op:=.extract (Operand.tmp 20) 1) (g:=none) 11 ?v11f rfl (by kernel_rfl) (by kernel_rfl) (by kernel_rfl) (by kernel_rfl) ?y11f HBX ?_
     case y11f=>intro o' ho W hS;simp only [execOp,ho];go_simp;try rfl
     simp only [Act.put,List.setIfInBounds_toArray,List.set_cons_zero,List.set_cons_succ]
     refine heldTake (d:=some 5) (op:=.assign (Operand.tmp 30)) (g:=none) 12 ?v12f rfl (by kernel_rfl) (by kernel_rfl) (by kernel_rfl) (by kernel_rfl) ?y12f HBX ?_
     case y12f=>intro o' ho W hS;simp only [execOp,ho];go_simp;try rfl
     simp only [Act.put,List.setIfInBounds_toArray,List.set_cons_zero,List.set_cons_succ]
     refine heldTake (d:=some 6) (op:=.assign (Operand.tmp 31)) (g:=none) 13 ?v13f rfl (by kernel_rfl) (by kernel_rfl) (by kernel_rfl) (by kernel_rfl) ?y13f HBX ?_
     case y13f=>intro o' ho W hS;simp only [execOp,ho];go_simp;try rfl
     simp only [Act.put,List.setIfInBounds_toArray,List.set_cons_zero,List.set_cons_succ]
     refine wpAnyH_done (by kernel_rfl) ?_ _
     refine NoPanic.normal ?_
     have HL3:=Sl.mk (HL2.out.below HBX)
     have HG3:=Sl.mk (HG2.out.trans (OGoes.below L rb rp tv kv qv HBX))
     clear HBX c1 FR HL2 HG2
     go_wp2
     go_ret
     exact ⟨_,_,_,rfl,HL3,HG3⟩
end
end Go.Proofs.YtlahonjmfecikaaGreatDoor.Leg
set_option maxRecDepth 100000
namespace Go.Proofs.YtlahonjmfecikaaGreatDoor.Cut
open Go.RowKit MaskPlain Mas Fra Stm CutPlain
open FramePlain (Fr Fr0 form chk ctl zero4 text lenB byte0)
end Go.Proofs.YtlahonjmfecikaaGreatDoor.Cut
set_option maxRecDepth 100000
namespace Go.Proofs.YtlahonjmfecikaaGreatDoor.Cut
open Go.RowKit MaskPlain Mas Fra Stm CutPlain
open FramePlain (Fr Fr0 form chk ctl zero4)
open Msg (Mine Kept Goes MacS evO)
open MsgPlain (Ms M0 Ev)
theorem own_kept {W W':World} {S:Nat→Prop} {base n:Nat} {e:TypeId} {size:Nat} {v:Value} {xs:List Value} (h:W.ownsRow base e size v n xs) (k:Kept S W W') (hn:∀ g,v.ownBlock=some g→¬ S g):W'.ownsRow base e size v n xs:=by
 refine ⟨h.1,?_⟩
 rcases h.2 with hz | ⟨g,cap,cur,rfl,hb,hg,r⟩
 ·exact .inl hz
 ·exact .inr ⟨g,cap,cur,rfl,hb,by rw [k.block g (Array.getElem?_eq_some_iff.1 hg).1 (hn g (by simp [Value.ownBlock]))];exact hg,r⟩
theorem own_heap {W:World} {base n:Nat} {e:TypeId} {size:Nat} {v:Value} {xs:List Value} (h:W.ownsRow base e size v n xs) {g:Nat} (hg:v.ownBlock=some g):base≤g∧∃ cs,W.heap[g]? = some (.cells cs e (0,0)):=by
 rcases h.2 with ⟨rfl,_⟩ | ⟨k,cap,cur,rfl,hb,hh,_⟩
 ·cases hg
 ·have:k=g:=by simpa [Value.ownBlock] using hg
  subst this
  exact ⟨hb,_,hh⟩
theorem strm_kept {w0 W W':World} {S:Nat→Prop} {b:Nat} {masked:Bool} {most:Int} {part:List Nat} {err:Nat} {v:Value} (h:StrmAt w0 W b masked most part err v) (k:Kept S W W') (h1:¬ S b) (h2:∀ g,v.ownBlock=some g→¬ S g) (hL:Below w0.heap.size w0 W'):StrmAt w0 W' b masked most part err v :=
 ⟨by rw [k.block b h.lt h1];exact h.X,own_kept h.O k h2,h.B,hL⟩
theorem mine_kind {w0 W:World} {b:Nat} {most:Int} {st:Ms} {v p:Value} (h:MacS w0 W b most st v p) {k:Nat} (hk:Mine b v p k):∃ cs t,W.heap[k]? = some (.cells cs t (0,0))∧(t=124∨t=5∨t=210):=by
 rcases hk with rfl | hk | hk
 ·exact ⟨_,_,h.m.X,.inl rfl⟩
 ·obtain ⟨_,cs,hc⟩:=own_heap h.m.O hk
  exact ⟨cs,_,hc,.inr (.inl rfl)⟩
 ·by_cases ho:st.op=0
  ·have:=h.m.N ho
   rw [this] at hk;cases hk
  ·obtain ⟨c,hc,_,hx⟩:=h.m.C ho
   rw [hc] at hk
   injection hk with hk
   injection hk with hk
   injection hk with hk
   subst hk
   obtain ⟨cs,hcs⟩:=Msg.chk_kind hx
   exact ⟨cs,_,hcs,.inr (.inr rfl)⟩
theorem mine_row {w0 W:World} {b:Nat} {most:Int} {st:Ms} {v p:Value} (h:MacS w0 W b most st v p) {base n:Nat} {e:TypeId} {size:Nat} {u:Value} {xs:List Value} (ho:W.ownsRow base e size u n xs) (h1:e≠124) (h2:e≠5) (h3:e≠210) {g:Nat} (hg:u.ownBlock=some g):¬ Mine b v p g:=fun hk=>by
 obtain ⟨cs,t,hc,ht⟩:=mine_kind h hk
 obtain ⟨_,cs',hc'⟩:=own_heap ho hg
 rw [hc] at hc'
 injection hc' with hc'
 injection hc' with _ e2
 subst e2
 rcases ht with ht | ht | ht
 ·exact h1 ht
 ·exact h2 ht
 ·exact h3 ht
structure Thr (wB W:World) (bs bm:Nat) (part:List Nat) (vS:Value) (st:Ms) (vM pM tv:Value) (nt:Nat) (ev:List Value):Prop where
 S:StrmAt wB W bs true 65536 part 0 vS
 M:MacS wB W bm 1000 st vM pM
 T:W.ownsRow wB.heap.size 52 3 tv nt ev
 nb:∀ k,Mine bm vM pM k→k≠bs∧vS.ownBlock≠some k
section
variable {wB W W':World} {bs bm:Nat} {part part':List Nat} {vS vS':Value} {st st':Ms} {vM pM vM' pM' tv tv':Value} {nt nt':Nat} {ev ev':List Value}
theorem Thr.below (h:Thr wB W bs bm part vS st vM pM tv nt ev) (k:Below W.heap.size W W'):Thr wB W' bs bm part vS st vM pM tv nt ev :=
 ⟨h.S.below k,h.M.below k,own_below h.T k,h.nb⟩
theorem Thr.fed (h:Thr wB W bs bm part vS st vM pM tv nt ev) (hS:StrmAt wB W' bs true 65536 part' 0 vS') (T2:Two W W' bs (ob vS bs)) (hv:vS'.ownBlock=vS.ownBlock∨∀ g,vS'.ownBlock=some g→W.heap.size≤g):Thr wB W' bs bm part' vS' st vM pM tv nt ev where
 S:=hS
 M:=h.M.apart (S:=fun k=>k=bs∨k=ob vS bs) ⟨T2.os,T2.tape,T2.output,T2.size,fun k hk hn=>T2.block k hk (fun e=>hn (.inl e)) (fun e=>hn (.inr e))⟩ (fun k hk e=>by
  obtain ⟨h1,h2⟩:=h.nb k hk
  rcases e with e | e
  ·exact h1 e
  ·exact ob_ne h1 h2 e) hS.L
 T:=own_fed h.T h.S (by decide) (by decide) T2
 nb:=fun k hk=>by
  obtain ⟨h1,h2⟩:=h.nb k hk
  refine ⟨h1,fun e=>?_⟩
  rcases hv with hv | hv
  ·rw [hv] at e;exact h2 e
  ·have:=hv k e
   have:=(h.M.m.own hk).2
   omega
theorem Thr.took (h:Thr wB W bs bm part vS st vM pM tv nt ev) (hM:MacS wB W' bm 1000 st' vM' pM') (g:Goes W W' bm vM pM vM' pM'):Thr wB W' bs bm part vS st' vM' pM' tv nt ev where
 S:=strm_kept h.S g.kept (fun e=>(h.nb bs e).1 rfl) (fun k hk e=>(h.nb k e).2 hk) hM.m.L
 M:=hM
 T:=own_kept h.T g.kept (fun k hk=>mine_row h.M h.T (by decide) (by decide) (by decide) hk)
 nb:=fun k hk=>by
  rcases g.mine k hk with h1 | h1
  ·exact h.nb k h1
  ·refine ⟨fun e=>?_,fun e=>?_⟩
   ·have:=h.S.lt;omega
   ·obtain ⟨_,cs,hc⟩:=own_heap h.S.O e
    have:=(Array.getElem?_eq_some_iff.1 hc).1
    omega
theorem Thr.told (h:Thr wB W bs bm part vS st vM pM tv nt ev) (hT:W'.ownsRow wB.heap.size 52 3 tv' nt' ev') (g:W.grownBy W' tv.ownBlock):Thr wB W' bs bm part vS st vM pM tv' nt' ev' where
 S:=strm_told h.S h.T (by decide) (by decide) (Nat.le_refl _) g
 M:=h.M.apart (Kept.grown (S:=fun k=>tv.ownBlock=some k) g (fun k hk=>hk)) (fun k hk e=>mine_row h.M h.T (by decide) (by decide) (by decide) e hk)
  (h.M.m.L.grown g h.M.m.L.size (fun k hk=>(own_heap h.T hk).1))
 T:=hT
 nb:=h.nb
end
theorem info57:∃ i,Tryz.prog.info? 52=some i∧i.zero=some (.agg #[.int .i64 0,.int .i64 0,.string ByteArray.empty])∧i.size=3∧i.bytes=32:=by
 have h5:(Tryz.prog.info? 52).map (fun i=>(i.zero,i.size,i.bytes))=some (some (.agg #[.int .i64 0,.int .i64 0,.string ByteArray.empty]),3,32):=by kernel_rfl
 cases hi:Tryz.prog.info? 52 with
 | none=>rw [hi] at h5;cases h5
 | some i =>
   rw [hi] at h5
   simp only [Option.map_some,Option.some.injEq,Prod.mk.injEq] at h5
   exact ⟨i,rfl,h5.1,h5.2.1,h5.2.2⟩
end Go.Proofs.YtlahonjmfecikaaGreatDoor.Cut
set_option maxRecDepth 100000
namespace Go.Proofs.YtlahonjmfecikaaGreatDoor.Cut
open Go.RowKit MaskPlain Mas Fra Stm CutPlain
open FramePlain (Fr Fr0 form chk ctl zero4)
open StreamPlain (all)
open MsgPlain (Ms M0 Ev)
end Go.Proofs.YtlahonjmfecikaaGreatDoor.Cut
set_option maxRecDepth 100000
namespace Go.Proofs.YtlahonjmfecikaaGreatDoor.Leg
open Go.RowKit Stm
open FramePlain (Fr Fr0)
open LegPlain (Cf Lg bound)
open Msg (Kept MacS Mine Goes)
open MsgPlain (Ms)
def All (L rb rp sb mb:Nat) (tv kv qv sv mv mp:Value) (k:Nat):Prop:=Own L rb rp tv kv qv k∨(k=sb∨sv.ownBlock=some k)∨Mine mb mv mp k
structure LegF (w0 W:World) (L sb mb rb rp:Nat) (tv kv qv sv mv mp:Value) (c:Cf) (l:Lg):Prop where
 A:LegAt w0 W L sb mb rb rp tv kv qv c l
 S:StrmAt w0 W sb c.masked (bound c:Int) l.buf l.serr sv
 M:MacS w0 W mb (c.msg:Int) l.ms mv mp
 ap:∀ k,Own L rb rp tv kv qv k→k≠sb∧sv.ownBlock≠some k∧¬ Mine mb mv mp k
 nb:∀ k,Mine mb mv mp k→k≠sb∧sv.ownBlock≠some k
structure FGoes (W W':World) (S S':Nat→Prop):Prop where
 kept:Kept S W W'
 mine:∀ k,S' k→S k∨W.heap.size≤k
theorem FGoes.refl (W:World) (S:Nat→Prop):FGoes W W S S:=⟨.below (Below.refl _ _),fun _ h=>.inl h⟩
theorem FGoes.below {W W':World} (S:Nat→Prop) (h:Below W.heap.size W W'):FGoes W W' S S:=⟨.below h,fun _ hk=>.inl hk⟩
theorem FGoes.trans {W V U:World} {S S1 S2:Nat→Prop} (h:FGoes W V S S1) (k:FGoes V U S1 S2):FGoes W U S S2 :=
 ⟨h.kept.trans k.kept (fun j hj e=>by
  rcases h.mine j e with h1 | h1
  ·exact h1
  ·omega),fun j e=>by
  rcases k.mine j e with h1 | h1
  ·exact h.mine j h1
  ·exact .inr (Nat.le_trans h.kept.size h1)⟩
section
variable {w0 W W':World} {L sb mb rb rp:Nat} {tv kv qv sv mv mp tv' kv' qv' sv' mv' mp':Value} {c:Cf} {l m:Lg}
theorem LegF.own (h:LegF w0 W L sb mb rb rp tv kv qv sv mv mp c l) {k:Nat} (hk:All L rb rp sb mb tv kv qv sv mv mp k):w0.heap.size≤k∧k<W.heap.size:=by
 rcases hk with hk | (rfl | hk) | hk
 ·exact h.A.own hk
 ·exact ⟨h.S.B,h.S.lt⟩
 ·obtain ⟨h1,cs,h2⟩:=Cut.own_heap h.S.O hk
  exact ⟨h1,(Array.getElem?_eq_some_iff.1 h2).1⟩
 ·exact h.M.m.own hk
theorem LegF.stay (h:LegF w0 W L sb mb rb rp tv kv qv sv mv mp c l) {S:Nat→Prop} (hk:Kept S W W') (hn:∀ k,All L rb rp sb mb tv kv qv sv mv mp k→¬ S k) (hL:Below w0.heap.size w0 W'):LegF w0 W' L sb mb rb rp tv kv qv sv mv mp c l where
 A:=h.A.stay hk (fun k e=>hn k (.inl e)) hL
 S:=Cut.strm_kept h.S hk (hn sb (.inr (.inl (.inl rfl)))) (fun g e=>hn g (.inr (.inl (.inr e)))) hL
 M:=h.M.apart hk (fun k e=>hn k (.inr (.inr e))) hL
 ap:=h.ap
 nb:=h.nb
theorem LegF.low (h:LegF w0 W L sb mb rb rp tv kv qv sv mv mp c l):Below w0.heap.size w0 W:=h.A.low
theorem LegF.below (h:LegF w0 W L sb mb rb rp tv kv qv sv mv mp c l) (k:Below W.heap.size W W'):LegF w0 W' L sb mb rb rp tv kv qv sv mv mp c l :=
 h.stay (S:=fun _=>False) (.below k) (fun _ _ e=>e) (h.low.trans (k.mono h.low.size))
theorem LegF.out (h:LegF w0 W L sb mb rb rp tv kv qv sv mv mp c l) (hA:LegAt w0 W' L sb mb rb rp tv' kv' qv' c m) (g:OGoes W W' L rb rp tv kv qv tv' kv' qv') (e1:m.buf=l.buf) (e2:m.serr=l.serr) (e3:m.ms=l.ms) :
 LegF w0 W' L sb mb rb rp tv' kv' qv' sv mv mp c m∧FGoes W W' (All L rb rp sb mb tv kv qv sv mv mp) (All L rb rp sb mb tv' kv' qv' sv mv mp):=by
 have hsb:=h.S.lt
 refine ⟨⟨hA,?_,?_,fun k e=>?_,h.nb⟩,⟨g.kept.wide fun k e=>.inl e,fun k e=>?_⟩⟩
 ·rw [e1,e2]
  exact Cut.strm_kept h.S g.kept (fun e=>(h.ap sb e).1 rfl) (fun j e e2=>(h.ap j e2).2.1 e) hA.low
 ·rw [e3]
  exact h.M.apart g.kept (fun k e e2=>(h.ap k e2).2.2 e) hA.low
 ·rcases g.mine k e with e4 | e4
  ·exact h.ap k e4
  ·refine ⟨fun e5=>by omega,fun e5=>?_,fun e5=>?_⟩
   ·have:=(h.own (.inr (.inl (.inr e5)))).2;omega
   ·have:=(h.own (.inr (.inr e5))).2;omega
 ·rcases e with e | e
  ·rcases g.mine k e with e4 | e4
   ·exact .inl (.inl e4)
   ·exact .inr e4
  ·exact .inl (.inr e)
theorem LegF.fed (h:LegF w0 W L sb mb rb rp tv kv qv sv mv mp c l) (hS:StrmAt w0 W' sb c.masked (bound c:Int) m.buf m.serr sv') (T:Two W W' sb (ob sv sb)) (hv:sv'.ownBlock=sv.ownBlock∨∀ g,sv'.ownBlock=some g→W.heap.size≤g)
 (e1:m.ring=l.ring) (e2:m.tail=l.tail) (e3:m.ctl=l.ctl) (e4:m.rest=l.rest) (e5:m.draw=l.draw) (e6:m.wrong=l.wrong) (e7:m.sent=l.sent) (e8:m.ms=l.ms) :
 LegF w0 W' L sb mb rb rp tv kv qv sv' mv mp c m∧FGoes W W' (All L rb rp sb mb tv kv qv sv mv mp) (All L rb rp sb mb tv kv qv sv' mv mp):=by
 have hk:Kept (fun k=>k=sb∨sv.ownBlock=some k) W W':=⟨T.os,T.tape,T.output,T.size,fun k hk hn=>T.block k hk (fun e=>hn (.inl e)) (fun e=>hn (by
  unfold ob at e
  cases hv:sv.ownBlock with
  | none=>rw [hv] at e;exact .inl e
  | some g=>rw [hv] at e;exact .inr (congrArg some e.symm)))⟩
 have hap:∀ k,Own L rb rp tv kv qv k→¬ (k=sb∨sv.ownBlock=some k):=fun k e e2=>e2.elim (h.ap k e).1 (h.ap k e).2.1
 have hnm:∀ k,Mine mb mv mp k→¬ (k=sb∨sv.ownBlock=some k):=fun k e e2=>e2.elim (h.nb k e).1 (h.nb k e).2
 have hfr:∀ k,k<W.heap.size→sv.ownBlock≠some k→sv'.ownBlock≠some k:=fun k hk hn e=>by
  rcases hv with hv | hv
  ·exact hn (hv ▸ e)
  ·have:=hv k e;omega
 refine ⟨⟨(h.A.stay hk hap hS.L).inner e1 e2 e3 e4 e5 e6 e7,hS,by rw [e8];exact h.M.apart hk hnm hS.L,fun k e=>⟨(h.ap k e).1,hfr k (h.A.own e).2 (h.ap k e).2.1,(h.ap k e).2.2⟩,fun k e=>⟨(h.nb k e).1,hfr k (h.M.m.own e).2 (h.nb k e).2⟩⟩,⟨hk.wide fun k e=>.inr (.inl e),fun k e=>?_⟩⟩
 rcases e with e | (e | e) | e
 ·exact .inl (.inl e)
 ·exact .inl (.inr (.inl (.inl e)))
 ·rcases hv with hv | hv
  ·exact .inl (.inr (.inl (.inr (hv ▸ e))))
  ·exact .inr (hv k e)
 ·exact .inl (.inr (.inr e))
theorem LegF.took (h:LegF w0 W L sb mb rb rp tv kv qv sv mv mp c l) {st':Ms} (hM:MacS w0 W' mb (c.msg:Int) st' mv' mp') (g:Goes W W' mb mv mp mv' mp') :
 LegF w0 W' L sb mb rb rp tv kv qv sv mv' mp' c {l with ms:=st'}∧FGoes W W' (All L rb rp sb mb tv kv qv sv mv mp) (All L rb rp sb mb tv kv qv sv mv' mp'):=by
 refine ⟨⟨(h.A.stay g.kept (fun k e=>(h.ap k e).2.2) hM.m.L).inner rfl rfl rfl rfl rfl rfl rfl,Cut.strm_kept h.S g.kept (fun e=>(h.nb sb e).1 rfl) (fun j e e2=>(h.nb j e2).2 e) hM.m.L,hM,fun k e=>⟨(h.ap k e).1,(h.ap k e).2.1,fun e2=>?_⟩,fun k e=>?_⟩,⟨g.kept.wide fun k e=>.inr (.inr e),fun k e=>?_⟩⟩
 ·rcases g.mine k e2 with e3 | e3
  ·exact (h.ap k e).2.2 e3
  ·have:=(h.A.own e).2;omega
 ·rcases g.mine k e with e3 | e3
  ·exact h.nb k e3
  ·exact ⟨fun e4=>by have:=h.S.lt;omega,fun e4=>by have:=(h.own (.inr (.inl (.inr e4)))).2;omega⟩
 ·rcases e with e | e | e
  ·exact .inl (.inl e)
  ·exact .inl (.inr (.inl e))
  ·rcases g.mine k e with e3 | e3
   ·exact .inl (.inr (.inr e3))
   ·exact .inr e3
end
end Go.Proofs.YtlahonjmfecikaaGreatDoor.Leg
set_option maxRecDepth 100000
namespace Go.Proofs.YtlahonjmfecikaaGreatDoor.Evt
open Go.RowKit Go.WideShapes Go.ChangeShapes
open MsgPlain (Ev)
def Ev0:Ev:=⟨0,0,[]⟩
def ec (e:Ev):List Value:=[.int .i64 e.op,.int .i64 e.code,.string (strOf e.data)]
def ecs (es:List Ev):List Value:=es.flatMap ec
theorem ecs_cons (e:Ev) (es:List Ev):ecs (e :: es)=ec e++ecs es:=rfl
theorem ecs_length (es:List Ev):(ecs es).length=es.length*3:=by
 induction es with
 | nil=>rfl
 | cons e es ih=>rw [ecs_cons,List.length_append,ih];simp [ec];omega
theorem ecs_append (a b:List Ev):ecs (a++b)=ecs a++ecs b:=by simp [ecs]
theorem ec_one (e:Ev):∀ u∈ec e,u.oneCell'=true:=fun u hu=>by
 simp only [ec,List.mem_cons,List.not_mem_nil,or_false] at hu
 rcases hu with rfl | rfl | rfl<;>rfl
theorem ecs_one {es:List Ev} : ∀ u∈ecs es,u.oneCell'=true:=fun u hu=>by
 simp only [ecs,List.mem_flatMap] at hu
 obtain ⟨e,_,he⟩:=hu
 exact ec_one e u he
theorem ecs_get:∀ (es:List Ev) (i:Nat),i<es.length→∀ j,j<3→(ecs es)[i*3+j]? = (ec (es.getD i Ev0))[j]?
 | [],i,hi,_,_=>by simp at hi
 | e :: es,0,_,j,hj=>by
   rw [ecs_cons,Nat.zero_mul,Nat.zero_add,List.getElem?_append_left (by simpa [ec] using hj)];rfl
 | e :: es,i+1,hi,j,hj=>by
   rw [ecs_cons,show (i+1)*3+j=i*3+j+3 from by omega,List.getElem?_append_right (by simp [ec])]
   have:=ecs_get es i (by simpa using hi) j hj
   simpa [ec] using this
theorem ecs_at {es:List Ev} {j:Nat} {u:Value} (h:(ecs es)[j]? = some u):j / 3<es.length∧(ec (es.getD (j / 3) Ev0))[j % 3]? = some u:=by
 have hj:j<(ecs es).length:=(List.getElem?_eq_some_iff.1 h).1
 rw [ecs_length] at hj
 refine ⟨by omega,?_⟩
 rw [← ecs_get es (j / 3) (by omega) (j % 3) (by omega),← h]
 congr 1;omega
theorem ec_some (e:Ev) (j:Nat) (hj:j<3):∃ u,(ec e)[j]? = some u:=⟨_,List.getElem?_eq_getElem (by simpa [ec] using hj)⟩
def OwnE (W:World) (base:Nat) (v:Value) (es:List Ev):Prop:=W.ownsRow base 52 3 v es.length (ecs es)
def EvsAt (W:World) (v:Value) (es:List Ev):Prop :=
 ∃ (a:Option Addr) (cap sb so:Nat),v=.slice a es.length cap∧es.length≤cap∧(0<es.length→a=some ⟨sb,so,none⟩)∧∀ i,i<es.length→∀ j,j<3→W.cell? ⟨sb,so+i*3+j,none⟩=(ec (es.getD i Ev0))[j]?
theorem EvsAt.below {w w':World} {v:Value} {es:List Ev} (h:EvsAt w v es) (hb:Below w.heap.size w w'):EvsAt w' v es:=by
 obtain ⟨a,cap,sb,so,h1,hc,h3,h4⟩:=h
 refine ⟨a,cap,sb,so,h1,hc,h3,fun i hi j hj=>?_⟩
 have g:=h4 i hi j hj
 obtain ⟨u,hu⟩:=ec_some (es.getD i Ev0) j hj
 rw [hu] at g ⊢
 have k0:=block_lt_of_cell g
 rw [hb.cell (p:=⟨sb,so+i*3+j,none⟩) k0];exact g
theorem EvsAt.grown {w w':World} {v:Value} {es:List Ev} {r:Option Nat} (h:EvsAt w v es) (hg:w.grownBy w' r) (hne:∀ g,v.ownBlock=some g→some g≠r):EvsAt w' v es:=by
 obtain ⟨a,cap,sb,so,rfl,hc,h3,h4⟩:=h
 refine ⟨a,cap,sb,so,rfl,hc,h3,fun i hi j hj=>?_⟩
 have g:=h4 i hi j hj
 obtain ⟨u,hu⟩:=ec_some (es.getD i Ev0) j hj
 rw [hu] at g ⊢
 have k0:sb<w.heap.size:=block_lt_of_cell g
 obtain rfl:=h3 (by omega)
 have hb:w'.heap[sb]? = w.heap[sb]?:=hg.block sb k0 (hne sb rfl)
 rw [World.cell?_of_block (w:=w) hb];exact g
theorem EvsAt.slice {W:World} {v:Value} {es:List Ev} (h:EvsAt W v es):∃ a c,v=.slice a es.length c:=by
 obtain ⟨a,c,_,_,rfl,_⟩:=h;exact ⟨a,c,rfl⟩
theorem EvsAt.cap {W:World} {a:Option Addr} {n cap:Nat} {es:List Ev} (h:EvsAt W (.slice a n cap) es):n=es.length∧n≤cap∧(0<n→∃ sb so,a=some ⟨sb,so,none⟩):=by
 obtain ⟨a',cap',sb',so',he,hc,h3,_⟩:=h
 injection he with e1 e2 e3
 refine ⟨e2,by omega,fun hp=>⟨sb',so',?_⟩⟩
 rw [e1];exact h3 (by omega)
theorem EvsAt.at3 {W:World} {sb so n cap:Nat} {es:List Ev} (h:EvsAt W (.slice (some ⟨sb,so,none⟩) n cap) es) (i:Nat) (hi:i<es.length) {o c:Int} {d:List Nat} (he:es.getD i Ev0=⟨o,c,d⟩) :
 W.cell? ⟨sb,so+i*3,none⟩=some (.int .i64 o)∧W.cell? ⟨sb,so+i*3+1,none⟩=some (.int .i64 c)∧W.cell? ⟨sb,so+i*3+2,none⟩=some (.string (strOf d)):=by
 obtain ⟨a,cap',sb',so',hs,_,h3,h4⟩:=h
 injection hs with e1 e2 e3
 rw [h3 (by omega)] at e1
 injection e1 with e1
 injection e1 with e4 e5
 subst e4 e5
 have g:=h4 i hi
 rw [he] at g
 exact ⟨g 0 (by decide),g 1 (by decide),g 2 (by decide)⟩
theorem EvsAt.range {W:World} {sb so n cap:Nat} {es:List Ev} (h:EvsAt W (.slice (some ⟨sb,so,none⟩) n cap) es) (i:Nat) (hi:i<es.length):W.rangeAt sb (so+i*3) (ec (es.getD i Ev0)):=fun j u hu=>by
 obtain ⟨a,cap',sb',so',he,_,h3,h4⟩:=h
 injection he with e1 e2 e3
 rw [h3 (by omega)] at e1
 injection e1 with e1
 injection e1 with e4 e5
 subst e4 e5
 have hj:j<3:=by have:=(List.getElem?_eq_some_iff.1 hu).1;simpa [ec] using this
 rw [h4 i hi j hj];exact hu
theorem EvsAt.to {W:World} {a:Option Addr} {n cap k c:Nat} {es:List Ev} (h:EvsAt W (.slice a n cap) es) (hk:k≤n) (hc:k≤c):EvsAt W (.slice a k c) (es.take k):=by
 obtain ⟨a',c',sb,so,he,h1,h2,h3⟩:=h
 injection he with e1 e2 e3
 subst e1 e2 e3
 have hl:(es.take k).length=k:=by rw [List.length_take];omega
 refine ⟨a,c,sb,so,by rw [hl],by rw [hl];omega,fun hp=>h2 (by rw [hl] at hp;omega),fun i hi j hj=>?_⟩
 rw [hl] at hi
 rw [h3 i (by omega) j hj]
 congr 2
 rw [List.getD_eq_getElem?_getD,List.getD_eq_getElem?_getD,List.getElem?_take_of_lt hi]
def fromE (a:Option Addr) (k cap:Nat):Option Addr:=if cap=k then a else a.map (·.add (k*3))
theorem EvsAt.from {W:World} {a:Option Addr} {n cap k:Nat} {es:List Ev} (h:EvsAt W (.slice a n cap) es) (hk:k≤n):EvsAt W (.slice (fromE a k cap) (n-k) (cap-k)) (es.drop k):=by
 obtain ⟨a',c',sb,so,he,h1,h2,h3⟩:=h
 injection he with e1 e2 e3
 subst e1 e2 e3
 have hl:(es.drop k).length=es.length-k:=List.length_drop ..
 refine ⟨_,_,sb,so+k*3,by rw [hl],by rw [hl];omega,fun hp=>?_,fun i hi j hj=>?_⟩
 ·rw [hl] at hp
  unfold fromE
  rw [if_neg (by omega),h2 (by omega),Option.map_some,Addr.add_mid]
 ·rw [hl] at hi
  have h4:=h3 (k+i) (by omega) j hj
  rw [show so+(k+i)*3+j=so+k*3+i*3+j from by omega] at h4
  rw [h4]
  congr 2
  rw [List.getD_eq_getElem?_getD,List.getD_eq_getElem?_getD,List.getElem?_drop]
theorem info57:∃ i,Tryz.prog.info? 52=some i∧i.zero=some (.agg #[.int .i64 0,.int .i64 0,.string ByteArray.empty])∧i.size=3∧i.bytes=32:=by
 have h5:(Tryz.prog.info? 52).map (fun i=>(i.zero,i.size,i.bytes))=some (some (.agg #[.int .i64 0,.int .i64 0,.string ByteArray.empty]),3,32):=by kernel_rfl
 cases hi:Tryz.prog.info? 52 with
 | none=>rw [hi] at h5;cases h5
 | some i =>
   rw [hi] at h5
   simp only [Option.map_some,Option.some.injEq,Prod.mk.injEq] at h5
   exact ⟨i,rfl,h5.1,h5.2.1,h5.2.2⟩
theorem size57 (V:World):(sizeOf 52).run Tryz.prog V=.ok 3 V:=by
 obtain ⟨i0,hi,hz0,hz1,hz2⟩:=info57
 simp [sizeOf,typeInfo,hi,hz1]
theorem eslice_to (V:World) (a:Option Addr) (n cap k:Nat) (hk:k≤cap):(Instr.slice 47 (.slice a n cap) none (some (.int .i64 (k:Int))) none).run Tryz.prog V=.ok (.slice a k cap) V:=by
 rw [run_slice_h (ht:=Tryz.underlying47) (h0:=by omega) (h2:=by omega),show Tryz.prog.elem 47=52 from rfl,size57]
 cases a<;>simp [Result.andThen,sliced,Addr.add]
theorem OwnE.below {w w':World} {base:Nat} {v:Value} {l:List Ev} (h:OwnE w base v l) (hb:Below w.heap.size w w'):OwnE w' base v l:=own_below h hb
theorem ownE_nil (R:World) (base:Nat):OwnE R base (.slice none 0 0) []:=World.ownsRow_nil _ _ _ _
theorem ownE_made (w:World) (base:Nat) (hb:base≤w.heap.size):OwnE (w.alloc (.cells #[] 52)) base (.slice (some ⟨w.heap.size,0,none⟩) 0 0) [] :=
 World.ownsRow_made w #[] 0 hb (by unfold maxLen;omega) rfl
theorem OwnE.slice {W:World} {base:Nat} {v:Value} {l:List Ev} (h:OwnE W base v l):∃ a c,v=.slice a l.length c:=by
 obtain ⟨_,h2⟩:=h
 rcases h2 with ⟨rfl,hz⟩ | ⟨g,cap,cur,rfl,_⟩
 ·rw [hz];exact ⟨_,_,rfl⟩
 ·exact ⟨_,_,rfl⟩
theorem OwnE.evs {W:World} {base:Nat} {v:Value} {es:List Ev} (ho:OwnE W base v es):EvsAt W v es:=by
 obtain ⟨h1,h2⟩:=ho
 rcases h2 with ⟨rfl,hz⟩ | ⟨g,cap,cur,rfl,hg,hh,hc1,hc2,hsz,htk⟩
 ·exact ⟨none,0,0,0,by rw [hz],by omega,fun h=>by omega,fun i hi=>by omega⟩
 ·refine ⟨some ⟨g,0,none⟩,cap,g,0,rfl,hc1,fun _=>rfl,fun i hi j hj=>?_⟩
  have k:=ecs_get es i hi j hj
  rw [Nat.zero_add,← k,cell_of_row _ _ _ _ _ _ hh,← htk,List.getElem?_take_of_lt (by omega)]
  simp
theorem OwnE.heap {W:World} {base:Nat} {v:Value} {l:List Ev} (h:OwnE W base v l) {g:Nat} (hg:v.ownBlock=some g):base≤g∧∃ cs,W.heap[g]? = some (.cells cs 52 (0,0)):=by
 rcases h.2 with ⟨rfl,_⟩ | ⟨k,cap,cur,rfl,hb,hh,_⟩
 ·cases hg
 ·have:k=g:=by simpa [Value.ownBlock] using hg
  subst this
  exact ⟨hb,_,hh⟩
theorem OwnE.keeps {W W':World} {base B:Nat} {w0:World} {v:Value} {l:List Ev} (h:OwnE W base v l) (hB:Below B w0 W) (hg:W.grownBy W' v.ownBlock) (hb:B≤base) (hs:B≤W.heap.size):Below B w0 W' :=
 hB.grown hg hs (fun _ hk=>Nat.le_trans hb (h.heap hk).1)
theorem OwnE.kept {W W':World} {base:Nat} {v:Value} {l:List Ev} {r:Option Nat} (h:OwnE W base v l) (g:W.grownBy W' r) (hr:∀ k,r=some k→v.ownBlock≠some k):OwnE W' base v l:=by
 refine World.ownsRow.kept h g ?_
 rcases h.2 with ⟨rfl,_⟩ | ⟨k,cap,cur,rfl,_⟩
 ·exact .inl rfl
 ·exact .inr (fun e=>hr k e.symm (by simp [Value.ownBlock]))
theorem own_app {P:Program} {w:World} (base:Nat) (t ty e:TypeId) (i:TypeInfo) (z:Value) (size bytes:Nat) (ht:P.underlying t=some (.slice e)) (hi:P.info? e=some i) (hz:i.zero=some z)
 (hsize:i.size=size) (hby:i.bytes=bytes) (hzs:z.cells.size=size) (hsz:0<size)
 (v:Value) (n:Nat) (xs:List Value) (hown:w.ownsRow base e size v n xs)
 (a:Addr) (m c:Nat) (news:List Value) (hl:news.length=m*size) (hnews:∀ j u,news[j]? = some u→w.cell? (a.add j)=some u) (h1:∀ u∈news,u.oneCell'=true)
 (h63:n+m≤maxLen) (hbytes:(n+m)*bytes≤140737488355328) (hbase:base≤w.heap.size) :
 ∃ v' w',(Builtin.append_ #[t,t] ty #[v,.slice (some a) m c]).run P w=.ok v' w'∧w'.ownsRow base e size v' (n+m) (xs++news)∧w.grownBy w' v.ownBlock ∧
   (v'.ownBlock=v.ownBlock∨v'.ownBlock=some w.heap.size):=by
 obtain ⟨v',w',hr,h2,h3,_⟩:=run_append_own (P:=P) w base t ty e i z size bytes ht hi hz hsize hby hzs hsz v n xs hown a m c news hl hnews h1 h63 hbytes hbase
 refine ⟨v',w',hr,h2,h3,?_⟩
 subst hsize hby
 rcases hown.2 with ⟨rfl,rfl⟩ | ⟨g,cap,cur,rfl,hbg,hg,hnc,hcm,hcs,htake⟩
 ·have hx:xs=[]:=List.eq_nil_of_length_eq_zero (by simpa using hown.1)
  subst hx
  obtain ⟨v2,w2,hr2,h4,_,h5⟩:=run_append_own (P:=P) w w.heap.size t ty e i z i.size i.bytes ht hi hz rfl rfl hzs hsz _ 0 [] (World.ownsRow_nil w w.heap.size e i.size) a m c news hl hnews h1 h63 hbytes (Nat.le_refl _)
  rw [hr] at hr2
  injection hr2 with e1 e2
  subst e1 e2
  by_cases hm:m=0
  ·rw [h5.2 ⟨rfl,hm⟩];exact .inl rfl
  ·have hr3:=run_append_nil (P:=P) w t ty e i z ht hi hz a m c news hl hnews (by omega) (by unfold maxLen at h63;omega) (by have hb:=hbytes;simp only [Nat.zero_add] at hb;omega)
   rw [hr] at hr3
   injection hr3 with e1 e2
   rw [e1];exact .inr rfl
 ·by_cases hroom:n+m≤cap
  ·have hfit:n*i.size+news.length≤cur.size:=by rw [hl,hcs,← Nat.add_mul];exact Nat.mul_le_mul_right _ hroom
   have hr2:=run_append_room (P:=P) (ty:=ty) w t e i ht hi g n cap cur hg a m c news hl hnews h1 hroom hfit
   rw [hr] at hr2
   injection hr2 with e1 e2
   rw [e1];exact .inl rfl
  ·have holds:∀ j u,xs[j]? = some u→w.cell? ((⟨g,0,none⟩:Addr).add j)=some u:=hown.cells (g:=g) rfl
   have hr2:=run_append_grow (P:=P) w t ty e i z ht hi hz ⟨g,0,none⟩ n cap xs hown.1 holds a m c news hl hnews (by omega) (by unfold maxLen at h63;omega) (growslice_fits (by omega) hbytes)
   rw [hr] at hr2
   injection hr2 with e1 e2
   rw [e1];exact .inr rfl
theorem add_evs {Z:World} {base:Nat} {v0 x:Value} {m l:List Ev} (hown:OwnE Z base v0 m) (hx:EvsAt Z x l) (hl:m.length+l.length≤1000000) (hbase:base≤Z.heap.size) :
 ∃ v1 w1,(Builtin.append_ #[47,47] 47 #[v0,x]).run Tryz.prog Z=.ok v1 w1∧OwnE w1 base v1 (m++l)∧Z.grownBy w1 v0.ownBlock∧(v1.ownBlock=v0.ownBlock∨v1.ownBlock=some Z.heap.size):=by
 obtain ⟨i0,hi0,hz0,hz1,hz2⟩:=info57
 obtain ⟨ad,cap,sb,so,rfl,hcap,had,hcell⟩:=hx
 have key:∀ a:Addr,(0<l.length→a=⟨sb,so,none⟩)→∃ v1 w1,(Builtin.append_ #[47,47] 47 #[v0,.slice (some a) l.length cap]).run Tryz.prog Z=.ok v1 w1∧OwnE w1 base v1 (m++l)∧Z.grownBy w1 v0.ownBlock∧(v1.ownBlock=v0.ownBlock∨v1.ownBlock=some Z.heap.size):=fun a ha=>by
  obtain ⟨v',w',h1,h2,h3,h4⟩:=own_app (P:=Tryz.prog) (w:=Z) base 47 47 52 i0 _ 3 32 Tryz.underlying47 hi0 hz0 hz1 hz2 rfl (by decide) v0 m.length (ecs m) hown a l.length cap (ecs l) (ecs_length l) (fun j u hu=>by
   obtain ⟨hi,h⟩:=ecs_at hu
   obtain rfl:=ha (by omega)
   have g1:=hcell _ hi (j % 3) (by omega)
   rw [Addr.add_mid,← h,← g1]
   congr 2;omega) ecs_one (by unfold maxLen;omega) (by omega) hbase
  refine ⟨v',w',h1,?_,h3,h4⟩
  unfold OwnE
  rw [List.length_append,ecs_append]
  exact h2
 cases ad with
 | some a=>exact key a (fun h=>by have:=had h;injection this)
 | none =>
   have hz:l.length=0:=by
    by_cases h:0<l.length
    ·have:=had h;cases this
    ·omega
   have hf:l=[]:=List.eq_nil_of_length_eq_zero hz
   subst hf
   refine ⟨v0,Z,?_,by rw [List.append_nil];exact hown,grown_refl _ _,.inl rfl⟩
   rcases hown.2 with ⟨rfl,_⟩ | ⟨g,c,cur,rfl,_,_,hnc,_⟩
   ·simp [Builtin.append_,run_underlying Tryz.underlying47,sizeOf,typeInfo,hi0,Builtin.lenOf,Builtin.firstCells]
   ·simp [Builtin.append_,run_underlying Tryz.underlying47,sizeOf,typeInfo,hi0,Builtin.lenOf,Builtin.firstCells,storeCells]
    intro hc
    exact absurd hc (by omega)
theorem evs_one {W:World} {g:Nat} {e:Ev} {cs:Array Value} {t:TypeId} (h:W.heap[g]? = some (.cells cs t (0,0))) (hc:cs=(ec e).toArray):EvsAt W (.slice (some ⟨g,0,none⟩) 1 1) [e]:=by
 subst hc
 refine ⟨_,1,g,0,rfl,Nat.le_refl _,fun _=>rfl,fun i hi j hj=>?_⟩
 obtain rfl:i=0:=by simpa using hi
 rw [cell_of_row _ _ _ _ _ _ h,List.getElem?_toArray]
 congr 1;omega
theorem wpList_appV {P:Program} {ops:Array Oper} {rest:List Oper} {o:Oper} {a:Act} {Q:Exit→Act→World→Prop} {w:World} (hgd:o.guard=none) (s x:Operand) (t ty:TypeId)
 (ho:o.op=.call {callee:=.builtin .append,args:=#[s,x],argTypes:=#[t,t]}) (hty:o.type=ty) (v u v':Value) (w':World)
 (hs:a.eval s=v) (hx:a.eval x=u) (hrun:(Builtin.append_ #[t,t] ty #[v,u]).run P w=.ok v' w')
 (h:wpList P ops Q rest (a.put o.dst v') w'):wpList P ops Q (o :: rest) a w:=by
 refine wpList_plain hgd fun K hK=>?_
 unfold Oper.wp
 have hy:(execOp a.eval o).run P w=.ok (.value v') w':=by
  rw [← hty] at hrun
  simp [execOp,ho,resolve,invoke,builtin,hs,hx,hrun,Result.andThen]
 rw [hy,Oper.upon_value]
 exact hK _ _ h
theorem ev_info {cs:Array Value} (h:cs.size=3):(Tryz.prog.info? 52).map (·.size)=some cs.size:=by rw [h];kernel_rfl
theorem ev_all (a b:Int) (s:ByteArray):(#[.int .i64 a,.int .i64 b,.string s]:Array Value).all (·.oneCell')=true:=by simp [Value.oneCell']
theorem eq_ev (o c:Int) (s:ByteArray) (o' c':Int) (s':ByteArray) (W:World):(Op.equalIn 10000 52 (.agg #[.int .i64 o,.int .i64 c,.string s]) (.agg #[.int .i64 o',.int .i64 c',.string s'])).run Tryz.prog W=.ok ((o==o')&&((c==c')&&(s.toList==s'.toList))) W:=by
 have hp:Tryz.prog.stoodInHeld 52=false:=by kernel_rfl
 have hu:Tryz.prog.underlying 52=some (.struct (Tryz.prog.fieldsOf 52)):=by kernel_rfl
 have hf : (Tryz.prog.fieldsOf 52).toList = [⟨"Op", 3, 0, false, "", "", 0⟩, ⟨"Code", 3, 1, false, "", "", 8⟩, ⟨"Data", 9, 2, false, "", "", 16⟩] := by kernel_rfl
 rw [run_equalIn_struct W 9999 52 _ _ hu hp,hf]
 have e3:∀ (p q:Int) (w:World),(Op.equalIn 9999 3 (.int .i64 p) (.int .i64 q)).run Tryz.prog w=.ok (p==q) w:=fun p q w=>run_equalIn_int w 9998 3 .i64 .i64 p q Tryz.underlying3
 have e9:∀ (p q:ByteArray) (w:World),(Op.equalIn 9999 9 (.string p) (.string q)).run Tryz.prog w=.ok (p.toList==q.toList) w:=fun p q w=>run_equalIn_string w 9998 9 p q Tryz.underlying9
 have p0:∀ (o c:Int) (s:ByteArray) (w:World),(part 3 #[.int .i64 o,.int .i64 c,.string s] 0).run Tryz.prog w=.ok (.int .i64 o) w:=fun o c s w=>by kernel_rfl
 have p1:∀ (o c:Int) (s:ByteArray) (w:World),(part 3 #[.int .i64 o,.int .i64 c,.string s] 1).run Tryz.prog w=.ok (.int .i64 c) w:=fun o c s w=>by kernel_rfl
 have p2:∀ (o c:Int) (s:ByteArray) (w:World),(part 9 #[.int .i64 o,.int .i64 c,.string s] 2).run Tryz.prog w=.ok (.string s) w:=fun o c s w=>by kernel_rfl
 have n0 : ("Op" ≠ "_") = True := eq_true (by decide)
 have n1 : ("Code" ≠ "_") = True := eq_true (by decide)
 have n2 : ("Data" ≠ "_") = True := eq_true (by decide)
 cases h0:(o==o')<;>cases h1:(c==c')<;>cases h2:(s.toList==s'.toList)<;>
  simp only [Op.eqFields,n0,n1,n2,if_true,Sem.run_bind,Sem.run_pure,Sem.run_ite,p0,p1,p2,e3,e9,h0,h1,h2,Result.andThen_ok,Bool.not_true,Bool.not_false,Bool.false_eq_true,if_false,Bool.true_and,Bool.false_and,Bool.and_true]
theorem ev_same (o c:Int) (s:ByteArray) (W:World):(Op.equalIn 10000 52 (.agg #[.int .i64 o,.int .i64 c,.string s]) (.agg #[.int .i64 o,.int .i64 c,.string s])).run Tryz.prog W=.ok true W :=
 (eq_ev o c s o c s W).trans (congrArg (fun b=>Result.ok b W) (by simp))
theorem ev_cells {W:World} {g:Nat} {o c:Int} {s:ByteArray} (h:W.heap[g]? = some (.cells #[.int .i64 o,.int .i64 c,.string s] 52 (0,0))):W.cell? ⟨g,0,none⟩=some (.int .i64 o)∧W.cell? ⟨g,1,none⟩=some (.int .i64 c)∧W.cell? ⟨g,2,none⟩=some (.string s):=by
 refine ⟨?_,?_,?_⟩<;>(rw [cell_of_row _ _ _ _ _ _ h];rfl)
theorem list_of {α:Type} (d:α) (n:Nat) (p:Nat→α→Prop) (h:∀ i,i<n→∃ x,p i x):∃ l:List α,l.length=n∧∀ i,i<n→p i (l.getD i d):=by
 induction n with
 | zero=>exact ⟨[],rfl,fun i hi=>absurd hi (Nat.not_lt_zero _)⟩
 | succ n ih =>
   obtain ⟨l,hl,hp⟩:=ih (fun i hi=>h i (by omega))
   obtain ⟨x,hx⟩:=h n (by omega)
   refine ⟨l++[x],by simp [hl],fun i hi=>?_⟩
   by_cases hin:i<n
   ·have e:(l++[x]).getD i d=l.getD i d:=by
     simp only [List.getD_eq_getElem?_getD];rw [List.getElem?_append_left (by omega)]
    rw [e];exact hp i hin
   ·obtain rfl:i=n:=by omega
    have e:(l++[x]).getD i d=x:=by
     simp only [List.getD_eq_getElem?_getD];rw [List.getElem?_append_right (by omega)];simp [hl]
    rw [e];exact hx
set_option maxHeartbeats 2000000 in
theorem esame_any (es:List Ev) (u x:Value) (w:World) (hu:EvsAt w u es) (hx:EvsAt w x es) (hl:es.length≤1000000):Calls Tryz.prog 29 #[u,x] w fun e w'=>e=.returned (.bool true)∧Sl (Below w.heap.size w w'):=by
 obtain ⟨a,c,rfl⟩:=hu.slice
 obtain ⟨a',c',rfl⟩:=hx.slice
 have HU:=Sl.mk hu
 have HX:=Sl.mk hx
 obtain ⟨n,hn⟩:∃ n,es.length=n:=⟨_,rfl⟩
 rw [hn] at HU HX ⊢
 have HN:=Sl.mk hn
 rw [hn] at hl
 clear hu hx hn
 go_enter Tryz.func29,Tryz.ntmps29
 go_wp2
 go_loopw [5] (fun i wr=>∃ k:Nat,i=.int .i64 (k:Int)∧k≤n∧Sl (Below w.heap.size w wr)) (fun i _=>n-(intOf i).toNat)
 case atStart=>exact ⟨0,rfl,Nat.zero_le _,⟨Below.refl _ _⟩⟩
 case round =>
  obtain ⟨k,rfl,hkn,HB⟩:=hrel
  by_cases hlt:k<n
  ·have hq:((k:Int)<(n:Int))=True:=eq_true (by omega)
   obtain ⟨sb,so,rfl⟩:=HU.out.cap.2.2 (by omega)
   obtain ⟨sb',so',rfl⟩:=HX.out.cap.2.2 (by omega)
   obtain ⟨o,cd,d,he⟩:∃ o cd d,es.getD k Ev0=⟨o,cd,d⟩:=⟨_,_,_,rfl⟩
   have hs:=ev_same o cd (strOf d)
   obtain ⟨c0,c1,c2⟩:=((HU.out.below HB.out).below (Below.refl _ _).drew).at3 k (by rw [HN.out];exact hlt) he
   obtain ⟨d0,d1,d2⟩:=((HX.out.below HB.out).below (Below.refl _ _).drew).at3 k (by rw [HN.out];exact hlt) he
   obtain ⟨S,hS⟩:∃ S,strOf d=S:=⟨_,rfl⟩
   rw [hS] at hs c2 d2
   clear he hS
   go_upto_region 6 with fail
   go_still (by kernel_rfl)
   go_wp2
   exact ⟨⟨k+1,by go_num,by omega,⟨HB.out.drew⟩⟩,by simp [intOf];omega⟩
  ·obtain rfl:k=n:=by omega
   have hq:((k:Int)<(k:Int))=False:=eq_false (by omega)
   go_wp2
   go_ret
   exact ⟨rfl,HB⟩
end Go.Proofs.YtlahonjmfecikaaGreatDoor.Evt
set_option maxRecDepth 100000
namespace Go.Proofs.YtlahonjmfecikaaGreatDoor.Leg
open Go.RowKit Stm
open FramePlain (Fr Fr0)
open LegPlain (Cf Lg)
open Msg (Kept MacS Mine)
open LegPlain (Inv Few CfOk Good came evs errs react bound feed fail)
open FramePlain (text size chk form zero4)
open MsgPlain (Ev Ms M0 run)
open StreamPlain (all)
open Evt
open Msg (Goes evO)
theorem FGoes.fresh {W V U:World} {S S1 T:Nat→Prop} (h:FGoes W V S S1) (k:Kept T V U) (hT:∀ j,T j→W.heap.size≤j):FGoes W U S S1 :=
 ⟨h.kept.trans k (fun j hj e=>by have:=hT j e;omega),h.mine⟩
theorem own_mono {W:World} {b b':Nat} {e:TypeId} {size n:Nat} {v:Value} {xs:List Value} (h:W.ownsRow b e size v n xs) (hb:b'≤b):W.ownsRow b' e size v n xs:=by
 obtain ⟨h1,h2⟩:=h
 refine ⟨h1,h2.imp id ?_⟩
 rintro ⟨g,cap,cur,e1,e2,e3⟩
 exact ⟨g,cap,cur,e1,Nat.le_trans hb e2,e3⟩
structure FL (w0 W2 wr:World) (L sb mb rb rp:Nat) (tv kv qv sv mv mp:Value) (A2:Nat→Prop) (B2:Nat) (c:Cf) (X:Lg) (vf:Value) (gs:List Fr) (told:Value) (T:List Ev):Prop where
 leg:LegF w0 wr L sb mb rb rp tv kv qv sv mv mp c X
 goes:FGoes W2 wr A2 (All L rb rp sb mb tv kv qv sv mv mp)
 frs:OwnR wr B2 vf gs
 fn:∀ j,vf.ownBlock=some j→¬ All L rb rp sb mb tv kv qv sv mv mp j
 say:OwnE wr W2.heap.size told T
 tn:∀ j,told.ownBlock=some j→(¬ All L rb rp sb mb tv kv qv sv mv mp j)∧vf.ownBlock≠some j
section
variable {w0 W2 wr:World} {L sb mb rb rp:Nat} {tv kv qv sv mv mp:Value} {A2:Nat→Prop} {B2:Nat} {c:Cf} {X:Lg} {vf:Value} {gs:List Fr} {told:Value} {T:List Ev} {w':World} {tv' kv' qv' mv' mp':Value}
theorem FL.below (h:FL w0 W2 wr L sb mb rb rp tv kv qv sv mv mp A2 B2 c X vf gs told T) (k:Below wr.heap.size wr w'):FL w0 W2 w' L sb mb rb rp tv kv qv sv mv mp A2 B2 c X vf gs told T :=
 ⟨h.leg.below k,h.goes.trans (FGoes.below _ k),h.frs.below k,h.fn,h.say.below k,h.tn⟩
theorem frs_lt {W:World} {base:Nat} {v:Value} {fs:List Fr} (h:OwnR W base v fs) {g:Nat} (hg:v.ownBlock=some g):g<W.heap.size:=by
 obtain ⟨_,cs,h2⟩:=Cut.own_heap h hg
 exact (Array.getElem?_eq_some_iff.1 h2).1
theorem evs_lt {W:World} {base:Nat} {v:Value} {es:List Ev} (h:OwnE W base v es) {g:Nat} (hg:v.ownBlock=some g):g<W.heap.size:=by
 obtain ⟨_,cs,h2⟩:=h.heap hg
 exact (Array.getElem?_eq_some_iff.1 h2).1
theorem FL.took (h:FL w0 W2 wr L sb mb rb rp tv kv qv sv mv mp A2 B2 c X vf gs told T) {st':Ms} (hM:MacS w0 w' mb (c.msg:Int) st' mv' mp') (g:Goes wr w' mb mv mp mv' mp'):FL w0 W2 w' L sb mb rb rp tv kv qv sv mv' mp' A2 B2 c {X with ms:=st'} vf gs told T:=by
 obtain ⟨h1,h2⟩:=h.leg.took hM g
 refine ⟨h1,h.goes.trans h2,Cut.own_kept h.frs g.kept (fun j e e2=>h.fn j e (.inr (.inr e2))),fun j e e2=>?_,Cut.own_kept h.say g.kept (fun j e e2=>(h.tn j e).1 (.inr (.inr e2))),fun j e=>⟨fun e2=>?_,(h.tn j e).2⟩⟩
 ·rcases h2.mine j e2 with e3 | e3
  ·exact h.fn j e e3
  ·have:=frs_lt h.frs e;omega
 ·rcases h2.mine j e2 with e3 | e3
  ·exact (h.tn j e).1 e3
  ·have:=evs_lt h.say e;omega
theorem FL.out (h:FL w0 W2 wr L sb mb rb rp tv kv qv sv mv mp A2 B2 c X vf gs told T) {m:Lg} (hA:LegAt w0 w' L sb mb rb rp tv' kv' qv' c m) (g:OGoes wr w' L rb rp tv kv qv tv' kv' qv') (e1:m.buf=X.buf) (e2:m.serr=X.serr) (e3:m.ms=X.ms):FL w0 W2 w' L sb mb rb rp tv' kv' qv' sv mv mp A2 B2 c m vf gs told T:=by
 obtain ⟨h1,h2⟩:=h.leg.out hA g e1 e2 e3
 refine ⟨h1,h.goes.trans h2,Cut.own_kept h.frs g.kept (fun j e e2=>h.fn j e (.inl e2)),fun j e e2=>?_,Cut.own_kept h.say g.kept (fun j e e2=>(h.tn j e).1 (.inl e2)),fun j e=>⟨fun e2=>?_,(h.tn j e).2⟩⟩
 ·rcases h2.mine j e2 with e3 | e3
  ·exact h.fn j e e3
  ·have:=frs_lt h.frs e;omega
 ·rcases h2.mine j e2 with e3 | e3
  ·exact (h.tn j e).1 e3
  ·have:=evs_lt h.say e;omega
theorem FL.add (h:FL w0 W2 wr L sb mb rb rp tv kv qv sv mv mp A2 B2 c X vf gs told T) {x:Value} {ev:Ev} (hx:EvsAt wr x [ev]) (hl:T.length+1≤1000000) (hW:W2.heap.size≤wr.heap.size) (hW0:w0.heap.size≤W2.heap.size) :
 ∃ v1 w1,(Builtin.append_ #[47,47] 47 #[told,x]).run Tryz.prog wr=.ok v1 w1∧FL w0 W2 w1 L sb mb rb rp tv kv qv sv mv mp A2 B2 c X vf gs v1 (T++[ev]):=by
 obtain ⟨v1,w1,hap,ho,hg,hb⟩:=add_evs h.say hx (by simpa using hl) hW
 have hk:Kept (fun j=>told.ownBlock=some j) wr w1:=Kept.grown hg (fun j e=>e)
 have hge:∀ j,told.ownBlock=some j→W2.heap.size≤j:=fun j e=>(h.say.heap e).1
 have hL:Below w0.heap.size w0 w1:=hk.up h.leg.low (fun j e=>Nat.le_trans hW0 (hge j e)) h.leg.low.size
 refine ⟨v1,w1,hap,⟨h.leg.stay hk (fun j e e2=>(h.tn j e2).1 e) hL,h.goes.fresh hk hge,Cut.own_kept h.frs hk (fun j e e2=>(h.tn j e2).2 e),h.fn,ho,fun j e=>?_⟩⟩
 rcases hb with h1 | h1
 ·exact h.tn j (h1 ▸ e)
 ·rw [h1] at e
  injection e with e
  subst e
  exact ⟨fun e2=>Nat.lt_irrefl _ (h.leg.own e2).2,fun e2=>Nat.lt_irrefl _ (frs_lt h.frs e2)⟩
end
end Go.Proofs.YtlahonjmfecikaaGreatDoor.Leg
