/- leg: what the walks share. -/
import Derived.Test.YtlahonjmfecikaaGreatDoorZy
set_option maxRecDepth 100000
set_option linter.unusedVariables false
set_option linter.unusedSimpArgs false
namespace Go.Proofs.YtlahonjmfecikaaGreatDoor.Leg
open Go.RowKit Stm
open FramePlain (Fr Fr0)
open LegPlain (Cf Lg)
open Msg (Kept MacS Mine)
open LegPlain (Inv Few CfOk Good came evs errs react bound feed fail L0 takeN pend wts)
open MsgPlain (Ev Ms M0)
open Evt
theorem strs_below {w w':World} {v:Value} {l:List ByteArray} (h:StrsAt w v l) (k:Below w.heap.size w w'):StrsAt w' v l:=by
 obtain ⟨a,cap,sb,so,h1,h2,h3,h4,h5⟩:=h
 refine ⟨a,cap,sb,so,h1,h2,h3,fun i hi=>?_,h5⟩
 have h6:=h4 i hi
 rw [k.cell (p:=⟨sb,so+i,none⟩) (block_lt_of_cell h6)]
 exact h6
theorem lens_app {a b:List ByteArray} (ha:(∀ i,(a.getD i ByteArray.empty).size≤300)∧a.length≤40) (hb:(∀ i,(b.getD i ByteArray.empty).size≤300)∧b.length≤40):(∀ i,((a++b).getD i ByteArray.empty).size≤300)∧(a++b).length≤80:=by
 refine ⟨fun i=>?_,by rw [List.length_append];omega⟩
 by_cases hi:i<a.length
 ·have:=ha.1 i
  rw [List.getD_eq_getElem?_getD] at this ⊢
  rw [List.getElem?_append_left hi];exact this
 ·have:=hb.1 (i-a.length)
  rw [List.getD_eq_getElem?_getD] at this ⊢
  rw [List.getElem?_append_right (by omega)];exact this
theorem str_cell {W:World} {a:Option Addr} {n c:Nat} {l:List ByteArray} (h:StrA W (.slice a n c) l) (k:Nat) (hk:k<l.length):∃ sb so,a=some ⟨sb,so,none⟩∧W.cell? ⟨sb,so+k,none⟩=some (.string (l.getD k ByteArray.empty)):=by
 obtain ⟨a',c',sb,so,he,_,h3,h4⟩:=h
 injection he with e1 e2 e3
 exact ⟨sb,so,by rw [e1];exact h3 (by omega),h4 k hk⟩
theorem few_lens {l:List ByteArray} (h:Stm.few l=true):(∀ i,(l.getD i ByteArray.empty).size≤300)∧l.length≤40:=by
 unfold Stm.few at h
 rw [Bool.and_eq_true,List.all_eq_true] at h
 refine ⟨fun i=>?_,of_decide_eq_true h.2⟩
 by_cases hi:i<l.length
 ·rw [List.getD_eq_getElem?_getD,List.getElem?_eq_getElem hi]
  exact of_decide_eq_true (h.1 _ (List.getElem_mem hi))
 ·rw [List.getD_eq_getElem?_getD,List.getElem?_eq_none (by omega)];exact Nat.zero_le _
theorem feed_len {c:Cf} {l:Lg} {k:Nat} (h:LegPlain.Good c l k) {b:List Nat} (hb:∀ y∈b,y<256) (hm:c.msg≤65536) (hl:b.length≤30000):(feed c l b).2.length≤100000:=by
 rcases h.cases with hst | ⟨_,_,hrd⟩
 ·rw [LegPlain.feed_stop b hst];exact Nat.zero_le _
 ·obtain ⟨_,_,_,_,_,f6,_,_⟩:=LegPlain.feed_in hrd b hb
  rw [f6]
  refine Nat.le_trans (List.length_filter_le _ _) ?_
  have h1:(evs c l b).length≤(StreamPlain.all (l.buf++b) c.masked (bound c:Int)).1.length:=run_len _ _ _
  have hs:Small 256 (l.buf++b):=Small.append (show Small 256 l.buf from hrd.small) hb
  have h2:=(StreamPlain.all_frs c.masked (bound c:Int) _ (l.buf++b) (Nat.le_refl _) hs).2.2
  have h3:=(LegPlain.Reads.kept hrd).buf
  rw [List.length_append] at h2
  have:bound c≤65536:=by unfold LegPlain.bound;omega
  omega
theorem free_send {c:Cf} {l:Lg} (t:List Nat):(LegPlain.send c l 1 t).2=(LegPlain.free l&&decide (t.length≤c.msg)):=by
 unfold LegPlain.send
 cases hf:LegPlain.free l with
 | false=>rw [if_neg (fun e=>by cases e.1)];rfl
 | true =>
   by_cases ht:t.length≤c.msg
   ·rw [if_pos ⟨rfl,.inl rfl,ht⟩,decide_eq_true ht];rfl
   ·rw [if_neg (fun e=>ht e.2.2),decide_eq_false ht];rfl
theorem put1000:(ClosePlain.putC 1000 []).2=0∧(ClosePlain.putC 1000 []).1.length=2:=by decide +kernel
theorem close_yes {c:Cf} {l:Lg} (hs:l.sent=false):(LegPlain.close c l 1000 []).2=true:=by
 unfold LegPlain.close
 rw [if_neg (fun e=>e.elim (fun e=>by rw [hs] at e;cases e) (fun e=>e put1000.1))]
theorem close_pend {c:Cf} {l:Lg} (h:LegPlain.Good c l 0) (hs:l.sent=false) (hc:CfOk c) (ho:c.out≤256) (hf:c.frm≤256):pend (LegPlain.close c l 1000 []).1≤1000:=by
 unfold LegPlain.close
 rw [if_neg (fun e=>e.elim (fun e=>by rw [hs] at e;cases e) (fun e=>e put1000.1))]
 have h1:=h.few.low.ring
 have h2:=h.few.tail
 have h3:=LegPlain.wts_le (k:=125) l.ctl (fun f hf=>(h.few.ok.inv.ctl f hf).len)
 have h4:l.ctl.length≤1:=by
  rw [LegPlain.few_sum]
  have a1:=h.few.pongs
  have a2:=h.few.others
  rw [hs] at a2
  have:(false.toNat)=0:=rfl
  omega
 obtain ⟨d,hd⟩:∃ d,(ClosePlain.putC 1000 []).1=d:=⟨_,rfl⟩
 have hd2:d.length=2:=by rw [← hd];exact put1000.2
 rw [hd]
 have hIC:LegPlain.IsC (LegPlain.ctlF 8 d):=⟨rfl,.inl rfl,rfl,rfl,by show d.length≤125;omega,by rw [← hd];decide +kernel⟩
 obtain ⟨m1,_,_⟩:=LegPlain.move_low (c:=c) hc.f2 (l:={l with sent:=true,rest:=[],last:=d,ctl:=l.ctl++[LegPlain.ctlF 8 d]}) (fun f hf=>by
  rcases List.mem_append.1 hf with hf | hf
  ·exact h.few.ok.inv.ctl f hf
  ·rw [List.mem_singleton] at hf;subst hf;exact hIC) (fun f hf=>absurd hf List.not_mem_nil) h2
 refine Nat.le_trans m1 ?_
 show l.ring.length+l.tail.length+wts (l.ctl++[LegPlain.ctlF 8 d])+0≤1000
 rw [LegPlain.wts_append]
 have h5:wts [LegPlain.ctlF 8 d]=14+d.length+0:=rfl
 have:l.ctl.length*(14+125)≤139:=by omega
 omega
theorem shut_send {c:Cf} {l:Lg} (hs:l.sent=true) (o:Int) (t:List Nat):LegPlain.send c l o t=(l,false):=by
 unfold LegPlain.send
 rw [if_neg (fun e=>by
  have h1:=e.1
  unfold LegPlain.free at h1
  rw [hs] at h1
  simp at h1)]
theorem shut_ping {c:Cf} {l:Lg} (hs:l.sent=true) (t:List Nat):LegPlain.ping c l t=(l,false):=by
 unfold LegPlain.ping
 rw [if_pos (.inl hs)]
theorem shut_close {c:Cf} {l:Lg} (hs:l.sent=true) (k:Int) (t:List Nat):LegPlain.close c l k t=(l,false):=by
 unfold LegPlain.close
 rw [if_pos (.inl hs)]
theorem shut_free {l:Lg} (hs:l.sent=true):LegPlain.free l=false:=by
 unfold LegPlain.free
 rw [hs]
 simp
theorem keep_cb {w W V U:World} {L cb k k':Nat} {S S':Nat→Prop} {c:Cf} {l m:Lg} {cs:Array Value} {ty:TypeId} (h:LegH w W L S c l k) (hc:W.heap[cb]? = some (.cells cs ty (0,0))∧∀ j,S j→j≠cb) (hge:w.heap.size≤cb) (hV:Below W.heap.size W V) (hm:LegH w U L S' c m k') (g:FGoes V U S S') :
 Sl (U.heap[cb]? = some (.cells cs ty (0,0))∧∀ j,S' j→j≠cb):=by
 have hlt:cb<W.heap.size:=(Array.getElem?_eq_some_iff.1 hc.1).1
 have hV1:=below_key hc.1 hV
 refine ⟨?_,fun j e e2=>?_⟩
 ·rw [g.kept.block cb (Array.getElem?_eq_some_iff.1 hV1).1 (fun e=>hc.2 cb e rfl)];exact hV1
 ·rcases g.mine j e with h1 | h1
  ·exact hc.2 j h1 e2
  ·have:=hV.size;omega
theorem getD_small8 {l:List Nat} (h:Small 256 l) (i:Nat):l.getD i 0<256:=LegPlain.getD_small h i
end Go.Proofs.YtlahonjmfecikaaGreatDoor.Leg
