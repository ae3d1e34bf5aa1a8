/- The texts below, joined. -/
import Derived.Test.YtlahonjmfecikaaGreatDoorYa
import Derived.Test.YtlahonjmfecikaaGreatDoorRows
import Derived.WalkKit
import Derived.WalkSpells
import Derived.WalkLawsBesides
import Derived.Deep.WholeRow
import Derived.Deep.MidRow
import Derived.Deep.QuietTactic
import Derived.BigQuiet
import Derived.BigRegion
import Derived.Lib.Hide
import Derived.StillTailTactics
import Derived.Laws.BitsAllLaws
import Derived.IntWalk
import Derived.Laws.CopyOwn
import Derived.Laws.IdiomStrings
import Derived.Laws.BytesArg
import Derived.Lib.SlBytesConst
import Derived.Deep.RegionHeld3
import Derived.Stop.BytesEq
import Derived.Deep.DeepCutAuto
set_option maxRecDepth 100000
set_option linter.unusedVariables false
set_option linter.unusedSimpArgs false
namespace LegPlain
open FramePlain (Fr Fr0 form ctl zero4 text size text_length)
open StreamPlain (one all all_append all_step one_text all_rest all_left one_err)
open MsgPlain (Ev Ms M0 run run_append run_cons run_stop bad)
open CutPlain (frs)
open ClosePlain (putC getC codeC acrossC valid)
def wt (f:Fr):Nat:=14+f.data.length
def wts (l:List Fr):Nat:=(l.map wt).sum
theorem wts_cons (f:Fr) (l:List Fr):wts (f :: l)=wt f+wts l:=rfl
theorem wts_append (a b:List Fr):wts (a++b)=wts a+wts b:=by simp [wts]
theorem wts_le {k:Nat} : ∀ (l:List Fr),(∀ f∈l,f.data.length≤k)→wts l≤l.length*(14+k)
 | [],_=>Nat.zero_le _
 | f :: l,h=>by
   have h1:=h f List.mem_cons_self
   have h2:=wts_le l (fun g hg=>h g (List.mem_cons_of_mem _ hg))
   rw [wts_cons,List.length_cons,Nat.succ_mul]
   unfold wt
   omega
theorem size_le (f:Fr):size f≤14+f.data.length:=by
 unfold size
 repeat' split
 all_goals omega
def pend (l:Lg):Nat:=l.ring.length+l.tail.length+wts l.ctl+wts l.rest
theorem fill_pend (c:Cf) (l:Lg):(fill c l).ring.length+(fill c l).tail.length=l.ring.length+l.tail.length:=by
 show (l.ring++l.tail.take _).length+(l.tail.drop _).length=_
 rw [List.length_append,List.length_take,List.length_drop]
 omega
theorem fill_tail (c:Cf) (l:Lg):(fill c l).tail.length≤l.tail.length:=by
 show (l.tail.drop _).length≤_
 rw [List.length_drop];omega
theorem out_len {c:Cf} {f:Fr} (h:IsO c f) (hf:c.frm≤65536):(text f).length≤14+f.data.length:=by
 rw [text_length f (by have:=h.len;omega) h.key]
 exact size_le f
theorem mv_pend (c:Cf) (hf:c.frm≤65536) (T:Nat) (hT:14+max c.frm 125≤T):∀ (n:Nat) (l:Lg),(∀ f∈l.ctl,IsC f)→(∀ f∈l.rest,IsR c.frm f)→l.tail.length≤T →
 pend (mv c n l)≤pend l∧(mv c n l).tail.length≤T∧∃ k,(mv c n l).ctl=l.ctl.drop k
 | 0,l,_,_,h=>⟨by have:=fill_pend c l;show (fill c l).ring.length+(fill c l).tail.length+wts l.ctl+wts l.rest≤l.ring.length+l.tail.length+wts l.ctl+wts l.rest;omega,Nat.le_trans (fill_tail c l) h,0,rfl⟩
 | n+1,l,hC,hR,h=>by
   have hfp:=fill_pend c l
   have hft:=fill_tail c l
   have stop:pend (fill c l)≤pend l∧(fill c l).tail.length≤T∧∃ k,(fill c l).ctl=l.ctl.drop k:=⟨by show (fill c l).ring.length+_+wts l.ctl+wts l.rest≤l.ring.length+_+wts l.ctl+wts l.rest;omega,by omega,0,rfl⟩
   unfold mv
   by_cases ht:(fill c l).tail≠[]
   ·rw [if_pos ht];exact stop
   ·rw [if_neg ht]
    have ht':(fill c l).tail=[]:=Classical.byContradiction ht
    rw [ht'] at hfp
    cases hc:l.ctl with
    | cons f cs =>
      have hfc:IsC f:=hC f (by rw [hc];exact List.mem_cons_self)
      have ho:=hfc.out (c:=c) (draws c (fill c l).draw)
      have hl:=out_len ho hf
      rw [(dress_op _ _ _).2.1] at hl
      have:=hfc.len
      obtain ⟨i1,i2,k,i3⟩:=mv_pend c hf T hT n (put c {fill c l with ctl:=cs} f) (fun g hg=>hC g (by rw [hc];exact List.mem_cons_of_mem _ hg)) hR (by show (text _).length≤T;exact Nat.le_trans hl (by omega))
      refine ⟨Nat.le_trans i1 ?_,i2,k+1,by rw [List.drop_succ_cons];exact i3⟩
      show (fill c l).ring.length+(text _).length+wts cs+wts l.rest≤l.ring.length+l.tail.length+wts l.ctl+wts l.rest
      rw [hc,wts_cons]
      unfold wt
      have hl':(text (dress c (draws c (fill c l).draw) f)).length≤14+f.data.length:=hl
      simp only [List.length_nil,Nat.add_zero] at hfp
      show (fill c l).ring.length+(text (dress c (draws c (fill c l).draw) f)).length+wts cs+wts l.rest≤_
      omega
    | nil =>
      cases hr:l.rest with
      | cons f r =>
        have hfr:IsR c.frm f:=hR f (by rw [hr];exact List.mem_cons_self)
        have ho:=hfr.out (c:=c) (draws c (fill c l).draw)
        have hl:=out_len ho hf
        rw [(dress_op _ _ _).2.1] at hl
        have:=hfr.len
        obtain ⟨i1,i2,k,i3⟩:=mv_pend c hf T hT n (put c {fill c l with rest:=r} f) hC (fun g hg=>hR g (by rw [hr];exact List.mem_cons_of_mem _ hg)) (by show (text _).length≤T;exact Nat.le_trans hl (by omega))
        refine ⟨Nat.le_trans i1 ?_,i2,k,i3.trans (by show l.ctl.drop k=_;rw [hc])⟩
        have hl':(text (dress c (draws c (fill c l).draw) f)).length≤14+f.data.length:=hl
        simp only [List.length_nil,Nat.add_zero] at hfp
        show (fill c l).ring.length+(text (dress c (draws c (fill c l).draw) f)).length+wts l.ctl+wts r≤l.ring.length+l.tail.length+wts l.ctl+wts l.rest
        rw [hr,wts_cons]
        unfold wt
        omega
      | nil=>exact ⟨stop.1,stop.2.1,0,by show l.ctl=_;rw [hc];rfl⟩
structure Low (c:Cf) (l:Lg):Prop where
 tail:l.tail.length≤14+max c.frm 125
 ctl:∀ f∈l.ctl,IsC f
 rest:∀ f∈l.rest,IsR c.frm f
 ring:l.ring.length≤c.out
theorem low_of {c:Cf} {l:Lg} (h:Ok c l) (ht:l.tail.length≤14+max c.frm 125):Low c l:=⟨ht,h.inv.ctl,h.inv.rest,h.inv.ring⟩
theorem move_low {c:Cf} (hf:c.frm≤65536) {l:Lg} (hC:∀ f∈l.ctl,IsC f) (hR:∀ f∈l.rest,IsR c.frm f) (ht:l.tail.length≤14+max c.frm 125):pend (move c l)≤pend l∧(move c l).tail.length≤14+max c.frm 125∧∃ k,(move c l).ctl=l.ctl.drop k:=mv_pend c hf _ (Nat.le_refl _) _ l hC hR ht
theorem take_pend {c:Cf} (hf:c.frm≤65536) {l:Lg} (h:Low c l) {n:Int} (hn:1≤n):(l.ring≠[]→pend (takeN c l n).1+1≤pend l)∧pend (takeN c l n).1≤pend l∧(takeN c l n).1.tail.length≤14+max c.frm 125:=by
 obtain ⟨h1,h2,_⟩:=move_low hf (l:={l with gone:=l.gone++l.ring.take n.toNat,ring:=l.ring.drop n.toNat}) h.ctl h.rest h.tail
 have hp:pend {l with gone:=l.gone++l.ring.take n.toNat,ring:=l.ring.drop n.toNat}=l.ring.length-n.toNat+l.tail.length+wts l.ctl+wts l.rest:=by
  show (l.ring.drop n.toNat).length+_+_+_=_
  rw [List.length_drop]
 have hq:pend l=l.ring.length+l.tail.length+wts l.ctl+wts l.rest:=rfl
 refine ⟨fun hr=>?_,?_,h2⟩
 ·have:0<l.ring.length:=List.length_pos_iff.2 hr
  show pend (move c _)+1≤_
  omega
 ·show pend (move c _)≤_
  omega
theorem quiet_pend {l:Lg} (h:pend l=0):Quiet l:=by
 unfold pend at h
 have h3:wts l.ctl=0:=by omega
 have h4:wts l.rest=0:=by omega
 have z:∀ (l:List Fr),wts l=0→l=[]:=fun l h=>by
  cases l with
  | nil=>rfl
  | cons f l=>rw [wts_cons] at h;unfold wt at h;omega
 exact ⟨List.eq_nil_of_length_eq_zero (by omega),List.eq_nil_of_length_eq_zero (by omega),z _ h3,z _ h4⟩
theorem getL_low (xs:List Nat):(MaskPlain.getL xs).2.1≤9∧((MaskPlain.getL xs).2.2=80→xs.length≤8):=by
 cases xs with
 | nil=>exact ⟨by decide,fun _=>by decide⟩
 | cons x xs =>
   rw [MaskPlain.getL]
   split
   ·exact ⟨by simp,fun h=>by simp at h⟩
   split
   ·split
    ·exact ⟨by simp,fun _=>by simp;omega⟩
    split
    ·exact ⟨by simp,fun h=>by simp at h⟩
    ·exact ⟨by simp,fun h=>by simp at h⟩
   split
   ·exact ⟨by simp,fun h=>by simp at h⟩
   split
   ·exact ⟨by simp,fun h=>by simp at h⟩
   split
   ·exact ⟨by simp,fun _=>by simp;omega⟩
   ·exact ⟨by simp,fun h=>by simp at h⟩
theorem keep_le {s:List Nat} {masked:Bool} {most:Int} (hm:0≤most) (h:(one s masked most).2.2=90):(s.length:Int)≤13+most:=by
 cases s with
 | nil=>simp;omega
 | cons x xs =>
   rw [StreamPlain.one_cons] at h
   by_cases h1:FramePlain.bad x=true
   ·rw [if_pos h1] at h;exact absurd h (by decide)
   rw [if_neg h1] at h
   by_cases h2:0<xs.length∧decide (128≤xs.getD 0 0)≠masked
   ·rw [if_pos h2] at h;exact absurd h (by decide)
   rw [if_neg h2,StreamPlain.get_cons,if_neg h1] at h
   obtain ⟨k1,k2⟩:=getL_low xs
   by_cases h3:0<xs.length∧8≤x % 16∧125<xs.getD 0 0 % 128
   ·rw [if_pos h3] at h;exact absurd h (by decide)
   rw [if_neg h3] at h
   by_cases h4:(MaskPlain.getL xs).2.2=81
   ·rw [if_pos h4] at h;exact absurd h (by decide)
   rw [if_neg h4] at h
   by_cases h5:(MaskPlain.getL xs).2.2=80
   ·have:=k2 h5
    simp;omega
   rw [if_neg h5] at h
   by_cases h6:most<((MaskPlain.getL xs).1:Int)
   ·rw [if_pos h6] at h;exact absurd h (by decide)
   rw [if_neg h6] at h
   unfold FramePlain.rest at h
   have hl:(xs.drop (MaskPlain.getL xs).2.1).length=xs.length-(MaskPlain.getL xs).2.1:=List.length_drop ..
   rw [hl] at h
   simp only [List.length_cons]
   split at h
   ·split at h
    ·omega
    ·simp at h
   ·split at h
    ·omega
    ·simp at h
structure Kept (c:Cf) (l:Lg):Prop where
 buf:l.buf.length≤13+bound c
 text:l.ms.text.length≤c.msg
theorem Keep.kept {c:Cf} {l m:Lg} (k:Keep l m) (h:Kept c l):Kept c m:=⟨by rw [k.buf];exact h.buf,by rw [k.ms];exact h.text⟩
theorem Reads.kept {c:Cf} {l:Lg} (h:Reads c l):Kept c l:=⟨by have:=keep_le (by omega) h.left;omega,by have:=h.fit.most;omega⟩
theorem feed_kept {c:Cf} {l:Lg} (h:Reads c l) (b:List Nat) (hb:∀ y∈b,y<256):Kept c (feed c l b).1:=by
 obtain ⟨_,_,f3,_,f5,_,_,f8⟩:=feed_in h b hb
 have hs:∀ y∈l.buf++b,y<256:=fun y hy=>by
  rcases List.mem_append.1 hy with hy | hy
  ·exact h.small y hy
  ·exact hb y hy
 refine ⟨?_,by rw [f5];have:=f8.most;omega⟩
 rw [f3]
 show (if _ then _ else _:List Nat).length≤_
 split
 ·next he =>
  have:=keep_le (by omega) (all_rest c.masked (bound c:Int) _ _ (Nat.le_refl _) hs he)
  omega
 ·exact Nat.zero_le _
def In (c:Cf) (l:Lg):Prop:=Reads c l∨((l.got=true∨l.wrong≠0)∧Kept c l)
theorem In.kept {c:Cf} {l:Lg} (h:In c l):Kept c l:=h.elim Reads.kept And.right
theorem in_zero (c:Cf) (d:Nat):In c (L0 d):=.inl (reads_zero c d)
theorem in_keep {c:Cf} {l m:Lg} (k:Keep l m) (h:In c l):In c m:=by
 rcases h with h | ⟨h1,h2⟩
 ·exact .inl ⟨k.got.trans h.got,k.wrong.trans h.wrong,k.serr.trans h.serr,by rw [k.ms];exact h.err,by rw [k.ms];exact h.over,by rw [k.ms];exact h.fit,by rw [k.buf];exact h.left,by rw [k.buf];exact h.small⟩
 ·exact .inr ⟨by rw [k.got,k.wrong];exact h1,k.kept h2⟩
theorem in_feed {c:Cf} {l:Lg} (h:In c l) (b:List Nat) (hb:∀ y∈b,y<256):In c (feed c l b).1:=by
 rcases h with h | ⟨h1,h2⟩
 ·by_cases he:errs c l b=0
  ·cases ho:(came c l b).ms.over with
   | false=>exact .inl (feed_reads h b hb he ho)
   | true=>exact .inr ⟨.inl ((feed_in h b hb).1.trans ho),feed_kept h b hb⟩
  ·exact .inr ⟨.inr (by rw [(feed_in h b hb).2.1];exact he),feed_kept h b hb⟩
 ·rw [feed_stop b h1];exact .inr ⟨h1,h2⟩
theorem move_keep (c:Cf) (l:Lg):Keep l (move c l):=(mv_keep c _ l).1
theorem send_keep (c:Cf) (l:Lg) (op:Int) (t:List Nat):Keep l (send c l op t).1:=by
 unfold send
 split
 ·have k:=move_keep c {l with rest:=frs c.frm op t,said:=l.said++[(op,t)]}
  exact ⟨k.got,k.wrong,k.buf,k.serr,k.ms⟩
 ·exact ⟨rfl,rfl,rfl,rfl,rfl⟩
theorem ping_keep (c:Cf) (l:Lg) (d:List Nat):Keep l (ping c l d).1:=by
 unfold ping
 split
 ·exact ⟨rfl,rfl,rfl,rfl,rfl⟩
 ·exact (control_keep c l 9 d).1
theorem take_keep (c:Cf) (l:Lg) (n:Int):Keep l (takeN c l n).1:=by
 have k:=move_keep c {l with gone:=l.gone++l.ring.take n.toNat,ring:=l.ring.drop n.toNat}
 exact ⟨k.got,k.wrong,k.buf,k.serr,k.ms⟩
theorem ring_le {c:Cf} {l:Lg} (h:Ok c l):l.ring.length≤c.out:=h.inv.ring
end LegPlain
namespace Go.Proofs.YtlahonjmfecikaaGreatDoor
open Go.RowKit
structure Sl (p:Prop):Prop where
 out:p
def v8 (n:Nat):Value:=.int .u8 (n:Int)
def u8s (l:List Nat):List Value:=l.map v8
@[simp] theorem u8s_length (l:List Nat):(u8s l).length=l.length:=by simp [u8s]
theorem u8s_get (l:List Nat) (i:Nat) (h:i<l.length):(u8s l)[i]? = some (.int .u8 ((l.getD i 0:Nat):Int)):=by
 simp [u8s,v8,List.getElem?_eq_getElem h]
theorem u8s_one (l:List Nat):∀ v∈u8s l,v.oneCell'=true:=by
 intro v hv;simp [u8s,v8] at hv;obtain ⟨n,_,rfl⟩:=hv;rfl
theorem u8s_append (a b:List Nat):u8s (a++b)=u8s a++u8s b:=by simp [u8s]
def Small (b:Nat) (l:List Nat):Prop:=∀ x∈l,x<b
theorem Small.append {b:Nat} {l m:List Nat} (h:Small b l) (k:Small b m):Small b (l++m):=fun x hx=>by
 rcases List.mem_append.1 hx with hx | hx
 ·exact h x hx
 ·exact k x hx
theorem Small.take {b:Nat} {l:List Nat} (h:Small b l) (n:Nat):Small b (l.take n):=fun x hx=>h x (List.mem_of_mem_take hx)
theorem Small.drop {b:Nat} {l:List Nat} (h:Small b l) (n:Nat):Small b (l.drop n):=fun x hx=>h x (List.mem_of_mem_drop hx)
theorem Small.getD {b:Nat} {l:List Nat} (h:Small b l) (hb:0<b) (i:Nat):l.getD i 0<b:=by
 by_cases hi:i<l.length
 ·simpa [List.getD,List.getElem?_eq_getElem hi] using h _ (List.getElem_mem hi)
 ·simpa [List.getD,List.getElem?_eq_none (Nat.le_of_not_lt hi)] using hb
theorem alloc_new (w:World) (o:Obj) (k:Nat) (h:k=w.heap.size):(w.alloc o).heap[k]? = some o:=by
 subst h;show (w.heap.push o)[w.heap.size]? = _;simp
theorem alloc_size (w:World) (o:Obj):(w.alloc o).heap.size=w.heap.size+1:=by show (w.heap.push o).size=_;simp
theorem ret_bool {a b:Bool} (h:a=b):Ending.returned (.bool a)=.returned (.bool b):=by rw [h]
theorem ret_int {k:IntKind} {a b:Int} (h:a=b):Ending.returned (.int k a)=.returned (.int k b):=by rw [h]
theorem alloc_old (w:World) (o:Obj) (k:Nat) (h:k<w.heap.size):(w.alloc o).heap[k]? = w.heap[k]?:=Below.heap_alloc w o k h
def bytes (s:ByteArray):List Nat:=s.data.toList.map (·.toNat)
theorem bytes_length (s:ByteArray):(bytes s).length=s.size:=by unfold bytes;rw [List.length_map,Array.length_toList];rfl
theorem bytes_small (s:ByteArray):Small 256 (bytes s):=fun x hx=>by
 simp only [bytes,List.mem_map] at hx
 obtain ⟨b,_,rfl⟩:=hx
 exact b.toNat_lt
theorem bytes_append (a b:ByteArray):bytes (a++b)=bytes a++bytes b:=by simp [bytes]
theorem bytes_getD (s:ByteArray) (i:Nat) (hi:i<s.size):(bytes s).getD i 0=(s.data[i]'hi).toNat:=by
 have hi':i<s.data.size:=hi
 simp only [bytes,List.getD,List.getElem?_map,Array.getElem?_toList,Array.getElem?_eq_getElem hi']
 rfl
theorem bytes_inj {a b:ByteArray} (h:bytes a=bytes b):a=b:=by
 unfold bytes at h
 have h2:a.data.toList=b.data.toList:=by
  have:=(List.map_inj_right (fun x y (e:UInt8.toNat x=UInt8.toNat y)=>UInt8.toNat_inj.1 e)).1 h
  exact this
 cases a;cases b
 simp at h2
 simp [h2]
theorem bytes_extract (s:ByteArray) (i j:Nat):bytes (s.extract i j)=((bytes s).take j).drop i:=by
 unfold bytes
 rw [ByteArray.data_extract,Array.toList_extract,List.extract_eq_take_drop,← List.map_take,← List.map_drop]
 congr 1
 rw [List.drop_take]
theorem toList_bytes (x:ByteArray):bytes x=x.toList.map (·.toNat):=by rw [ByteArray.toList_eq];rfl
theorem toNat_inj_map {a b:List UInt8} (h:a.map (·.toNat)=b.map (·.toNat)):a=b:=(List.map_inj_right (fun x y (e:UInt8.toNat x=UInt8.toNat y)=>UInt8.toNat_inj.1 e)).1 h
theorem beq_bytes (a:ByteArray) (l:List UInt8):(a.toList==l)=decide (bytes a=l.map (·.toNat)):=by
 rw [Bool.eq_iff_iff,toList_bytes]
 simp only [beq_iff_eq,decide_eq_true_eq]
 exact ⟨fun h=>by rw [h],toNat_inj_map⟩
theorem beq_bytes2 (a b:ByteArray):(a.toList==b.toList)=decide (bytes a=bytes b):=by rw [beq_bytes,← toList_bytes]
def strOf (l:List Nat):ByteArray:=strOfNums (l.map fun (n:Nat)=>(n:Int))
theorem strOf_size (l:List Nat):(strOf l).size=l.length:=by unfold strOf;rw [strOfNums_size];simp
theorem bytes_strOf (l:List Nat) (h:Small 256 l):bytes (strOf l)=l:=by
 unfold bytes strOf
 rw [strOfNums_data,List.map_map,List.map_map]
 conv=>rhs;rw [← List.map_id l]
 refine List.map_congr_left (fun x hx=>?_)
 have:=h x hx
 simp only [Function.comp_def,Int.toNat_natCast,id]
 exact UInt8.toNat_ofNat_of_lt' this
theorem strOf_bytes (s:ByteArray):strOf (bytes s)=s:=bytes_inj (bytes_strOf _ (bytes_small s))
def SrcAt (w:World) (v:Value) (bs:List Nat):Prop :=
 ∃ (a:Option Addr) (cap sb so:Nat),v=.slice a bs.length cap∧bs.length≤cap∧(0<bs.length→a=some ⟨sb,so,none⟩) ∧
   ∀ i,i<bs.length→w.cell? ⟨sb,so+i,none⟩=some (.int .u8 ((bs.getD i 0:Nat):Int))
theorem conv_str (s:ByteArray) (W:World):∃ cap w',(convert 9 49 (.string s)).run Tryz.prog W=.ok (.slice (some ⟨W.heap.size,0,none⟩) s.size cap) w' ∧
 Sl (SrcAt w' (.slice (some ⟨W.heap.size,0,none⟩) s.size cap) (bytes s))∧Sl (Below W.heap.size W w'):=by
 refine ⟨_,_,run_bytes_of_string (P:=Tryz.prog) W 9 49 5 s Tryz.underlying9 Tryz.underlying49 Tryz.underlying5,⟨?_⟩,⟨((Below.refl _ _).drew).alloc (Nat.le_refl _) _⟩⟩
 refine ⟨some ⟨W.heap.size,0,none⟩,_,W.heap.size,0,by rw [bytes_length],by rw [bytes_length];exact grownCap_ge _ _ _ _,fun _=>rfl,fun i hi=>?_⟩
 rw [bytes_length] at hi
 rw [Nat.zero_add]
 have h:=World.cell?_alloc_mark W.drew (bytesRow s (grownCap W s.size 0 5)) 5 ((bytesRow s (grownCap W s.size 0 5)).size,(bytesRow s (grownCap W s.size 0 5)).size+1) i
 rw [show W.drew.heap.size=W.heap.size from rfl] at h
 rw [h,bytesRow_at s _ i hi,bytes_getD s i hi]
theorem grown_below {w w':World} (h:Below w.heap.size w w') (r:Option Nat):w.grownBy w' r:=⟨h.os,h.tape,h.output,h.size,fun k hk _=>h.block k hk⟩
theorem own_below {w w':World} {base:Nat} {e:TypeId} {size:Nat} {v:Value} {n:Nat} {xs:List Value} (h:w.ownsRow base e size v n xs) (hb:Below w.heap.size w w'):w'.ownsRow base e size v n xs :=
 h.kept (grown_below hb none) (by cases h2:v.ownBlock with | none=>exact .inl rfl | some k=>exact .inr (fun e=>by cases e))
theorem grown_refl (w:World) (r:Option Nat):w.grownBy w r:=⟨rfl,rfl,rfl,Nat.le_refl _,fun _ _ _=>rfl⟩
theorem grown_trans {a b c:World} {r:Option Nat} (h:a.grownBy b r) (k:b.grownBy c r):a.grownBy c r :=
 ⟨k.os.trans h.os,k.tape.trans h.tape,k.output.trans h.output,Nat.le_trans h.size k.size,fun i hi hr=>(k.block i (Nat.lt_of_lt_of_le hi h.size) hr).trans (h.block i hi hr)⟩
theorem grown_setCell (w:World) (b i:Nat) (v:Value):w.grownBy (w.setCell ⟨b,i,none⟩ v) (some b) :=
 ⟨rfl,rfl,rfl,by simp [World.setCell],fun k _ hr=>heap_setCell_other _ _ _ _ (fun e=>hr (by rw [e]))⟩
theorem grown_setCells (b:Nat):∀ (vs:List Value) (o:Nat) (w:World),w.grownBy (w.setCells b o vs) (some b)
 | [],_,w=>grown_refl w _
 | v :: r,o,w=>by rw [World.setCells];exact grown_trans (grown_setCell w b o v) (grown_setCells b r (o+1) _)
def splice (l:List Nat) (i:Nat) (c:List Nat):List Nat:=l.take i++c++l.drop (i+c.length)
theorem splice_length (l c:List Nat) (i:Nat) (h:i+c.length≤l.length):(splice l i c).length=l.length:=by
 simp only [splice,List.length_append,List.length_take,List.length_drop];omega
theorem splice_get (l c:List Nat) (i k:Nat) (h:i+c.length≤l.length):(splice l i c).getD k 0=if i≤k∧k<i+c.length then c.getD (k-i) 0 else l.getD k 0:=by
 unfold splice
 have hl:(l.take i).length=i:=by rw [List.length_take];omega
 simp only [List.getD_eq_getElem?_getD]
 by_cases h1:k<i
 ·rw [if_neg (by omega),List.append_assoc,List.getElem?_append_left (by omega),List.getElem?_take,if_pos h1]
 ·by_cases h2:k<i+c.length
  ·rw [if_pos ⟨by omega,h2⟩,List.append_assoc,List.getElem?_append_right (by omega),List.getElem?_append_left (by omega),hl]
  ·rw [if_neg (by omega),List.getElem?_append_right (by rw [List.length_append];omega),List.getElem?_drop,List.length_append,hl]
   congr 2;omega
theorem ext_getD {a b:List Nat} (hl:a.length=b.length) (h:∀ i,i<a.length→a.getD i 0=b.getD i 0):a=b:=by
 apply List.ext_getElem hl
 intro i h1 h2
 have:=h i h1
 simpa [List.getD_eq_getElem?_getD,List.getElem?_eq_getElem h1,List.getElem?_eq_getElem h2] using this
theorem getD_append_left' {a b:List Nat} {i:Nat} (h:i<a.length):(a++b).getD i 0=a.getD i 0:=by
 simp only [List.getD_eq_getElem?_getD];rw [List.getElem?_append_left h]
theorem getD_append_right' {a b:List Nat} {i:Nat} (h:a.length≤i):(a++b).getD i 0=b.getD (i-a.length) 0:=by
 simp only [List.getD_eq_getElem?_getD];rw [List.getElem?_append_right h]
section
variable {P:Program} {md:Region.Mode} {ops:Array Oper} {Q:Exit→Act→World→Prop} {S:World→Prop}
def opIsG (ops:Array Oper) (i:Nat) (d:Option Tmp) (op:Op) (g:Option (Nat×Bool)):Prop:=(ops[i]?).map (fun o=>(o.dst,o.op,o.guard))=some (d,op,g)
theorem op_ofG {i:Nat} {d:Option Tmp} {op:Op} {g:Option (Nat×Bool)} (h:opIsG ops i d op g):∃ o,ops[i]? = some o∧o.dst=d∧o.op=op∧o.guard=g:=by
 unfold opIsG at h
 cases ho:ops[i]? with
 | none=>rw [ho] at h;cases h
 | some o =>
   rw [ho] at h
   simp only [Option.map_some,Option.some.injEq,Prod.mk.injEq] at h
   exact ⟨o,rfl,h.1,h.2.1,h.2.2⟩
def lets (ops:Array Oper) (a:Act):Option (Nat×Bool)→Bool
 | none=>true
 | some (j,want)=>yielded ops a.tmps j==some want
theorem wanted_of {o:Oper} {a:Act} {g:Option (Nat×Bool)} (hg:o.guard=g) (h:lets ops a g=true):Region.wanted o (yielded ops a.tmps)=true:=by
 unfold Region.wanted
 rw [hg]
 cases g with
 | none=>rfl
 | some p=>exact h
theorem heldTake {fuel:Nat} {listed:Array Bool} {a:Act} {w:World} {d:Option Tmp} {op:Op} {g:Option (Nat×Bool)} (i:Nat) (v:Value) (hi:opIsG ops i d op g) (hw:lets ops a g=true)
 (hs:Region.noSelect ops=true) (hf:Region.free md ops listed i=true) (hr:(Region.ready md ops listed).contains i=true)
 (hy:∀ o:Oper,o.op=op→∀ w,S w→(execOp a.eval o).run P w=.ok (.value v) w) (hS:S w)
 (h:wpAnyH P md ops (NoPanic Q) S fuel (listed.setIfInBounds i true) (a.put d v) w):wpAnyH P md ops (NoPanic Q) S (fuel+1) listed a w:=by
 obtain ⟨o,ho,hd,hop,hg⟩:=op_ofG hi
 refine wpAnyH_take ho hs hf hr (fun _ _ _ h=>h) (Or.inl ⟨wanted_of hg hw,hy o hop⟩) hS ?_
 rw [hd];exact h
theorem heldSkip {fuel:Nat} {listed:Array Bool} {a:Act} {w:World} {d:Option Tmp} {op:Op} {g:Option (Nat×Bool)} (i:Nat) (hi:opIsG ops i d op g) (hw:lets ops a g=false)
 (hs:Region.noSelect ops=true) (hf:Region.free md ops listed i=true) (hr:(Region.ready md ops listed).contains i=true) (hS:S w)
 (h:wpAnyH P md ops (NoPanic Q) S fuel (listed.setIfInBounds i true) (a.put d undef) w):wpAnyH P md ops (NoPanic Q) S (fuel+1) listed a w:=by
 obtain ⟨o,ho,hd,hop,hg⟩:=op_ofG hi
 have hwf:Region.wanted o (yielded ops a.tmps)=false:=by
  unfold Region.wanted
  rw [hg]
  cases g with
  | none=>cases hw
  | some p=>exact hw
 refine wpAnyH_take ho hs hf hr (fun _ _ _ h=>h) (Or.inr ⟨hwf,rfl⟩) hS ?_
 rw [hd];exact h
theorem heldCall {fuel:Nat} {listed:Array Bool} {a:Act} {w:World} {d:Option Tmp} {op:Op} {g:Option (Nat×Bool)} (i:Nat) (f:FuncId) (args:Array Value) (hi:opIsG ops i d op g) (hw:lets ops a g=true)
 (hr:Region.ready md ops listed=[i]) (hy:∀ o:Oper,o.op=op→(execOp a.eval o).run P w=.ok (.enter f args) w)
 (h:Calls P f args w fun e w'=>∃ v,e=.returned v∧S w'∧wpAnyH P md ops Q S fuel (listed.setIfInBounds i true) (a.put d v) w'):wpAnyH P md ops Q S (fuel+1) listed a w:=by
 obtain ⟨o,ho,hd,hop,hg⟩:=op_ofG hi
 refine wpAnyH_all hr (by simp) (fun k hk=>?_)
 rw [List.mem_singleton] at hk
 subst hk
 refine wpOp_step ho (fun K hK=>?_)
 rw [if_pos (wanted_of hg hw)]
 unfold Oper.wp
 rw [hy o hop,Oper.upon_enter]
 refine h.mono ?_
 rintro e w' ⟨v,rfl,hS,h'⟩
 rw [hd]
 exact hK _ _ ⟨hS,h'⟩
end
theorem u8s_splice (l c:List Nat) (i:Nat):Go.splice (u8s l) i (u8s c)=u8s (splice l i c):=by
 simp [Go.splice,splice,u8s]
theorem grown_setRow (w:World) (g:Nat) (cs:Array Value):w.grownBy (w.setRow g cs) (some g) :=
 ⟨rfl,rfl,rfl,by simp [World.setRow],fun k _ hr=>setRow_other w g k cs (fun e=>hr (by rw [e]))⟩
section
variable {P:Program} {w:World} {ops:Array Oper} {rest:List Oper} {o:Oper} {a:Act} {Q:Exit→Act→World→Prop}
theorem copy_into (hgd:o.guard=none) (d s:Operand) (dT sT:TypeId)
 (ho:o.op=.call {callee:=.builtin .copy,args:=#[d,s],argTypes:=#[dT,sT]}) (elem:TypeId) (hu:P.underlying dT=some (.slice elem)) (hsz:(P.info? elem).map (·.size)=some 1)
 (dp sp:Option Addr) (dLen dCap sLen sCap:Nat) (hd:a.eval d=.slice dp dLen dCap) (hs:a.eval s=.slice sp sLen sCap)
 (g off k:Nat) (cur cs:List Nat) (t:TypeId) (hg:w.heap[g]? = some (.cells (u8s cur).toArray t (0,0))) (hk:k=cs.length) (hn:cs.length=min sLen dLen)
 (hpos:0<cs.length→dp=some ⟨g,off,none⟩∧∃ sb so,sp=some ⟨sb,so,none⟩∧∀ j,j<cs.length→w.cell? ⟨sb,so+j,none⟩=some (.int .u8 ((cs.getD j 0:Nat):Int)))
 (hfit:off+cs.length≤cur.length)
 (h:∀ w',Sl (w'.heap[g]? = some (.cells (u8s (splice cur off cs)).toArray t (0,0)))→Sl (w.grownBy w' (some g))→wpList P ops Q rest (a.put o.dst (goInt k)) w') :
 wpList P ops Q (o :: rest) a w:=by
 subst hk
 by_cases h0:cs.length=0
 ·obtain rfl:cs=[]:=List.eq_nil_of_length_eq_zero h0
  refine wpList_copy_nothing hgd d s dT sT ho elem hu hsz dp sp dLen dCap sLen sCap hd hs (by simpa using hn.symm) ?_
  exact h w ⟨by simpa [splice] using hg⟩ ⟨grown_refl _ _⟩
 ·obtain ⟨rfl,sb,so,rfl,hsrc⟩:=hpos (by omega)
  have hl:(u8s cs).length=cs.length:=u8s_length _
  refine wpList_copy_own hgd d s dT sT ho elem hu hsz g off dLen dCap _ sLen sCap hd hs (u8s cur).toArray t hg (u8s cs) (by rw [hl,hn]) (fun j v hv=>?_) (by simpa using hfit) (u8s_one cs) ?_
  ·have hj:j<cs.length:=by have:=(List.getElem?_eq_some_iff.1 hv).1;rwa [hl] at this
   rw [u8s_get _ _ hj] at hv
   injection hv with hv
   subst hv
   rw [Addr.add_mid]
   exact hsrc j hj
  ·rw [hl]
   refine h _ ⟨?_⟩ ⟨grown_setRow _ _ _⟩
   have e:=u8s_splice cur cs off
   unfold Go.splice at e
   rw [hl] at e
   have e2:=setRow_heap w g (u8s cur).toArray ((u8s cur).toArray.toList.take off++(u8s cs++(u8s cur).toArray.toList.drop (off+cs.length))).toArray t _ hg
   rw [e2]
   simp only [e]
end
def zs (n:Nat):List Nat:=List.replicate n 0
@[simp] theorem zs_length (n:Nat):(zs n).length=n:=by simp [zs]
theorem zs_small (n:Nat):Small 256 (zs n):=fun x hx=>by simp only [zs,List.mem_replicate] at hx;omega
theorem info5:(Tryz.prog.info? 5).map (fun i=>(i.zero,i.size,i.bytes))=some (some (.int .u8 0),1,1):=by kernel_rfl
theorem size5:(Tryz.prog.info? 5).map (·.size)=some 1:=by kernel_rfl
theorem made_u8 (n:Nat):madeCells (Value.int .u8 0).cells (n*1)=(u8s (zs n)).toArray:=by
 apply Array.ext_getElem?
 intro i
 by_cases h:i<n<;>simp [madeCells,Value.cells,u8s,v8,zs,Nat.mod_one,h]
theorem make_u8 (X:Int) (n:Nat) (hX:X=(n:Int)) (hn:n≤1000000) (w:World) :
 (Instr.makeSlice 49 (.int .i64 X) (.int .i64 X)).run Tryz.prog w=.ok (.slice (some ⟨w.heap.size,0,none⟩) n n) (w.alloc (.cells (u8s (zs n)).toArray 5)):=by
 subst hX
 have h5:=info5
 cases hi:Tryz.prog.info? 5 with
 | none=>rw [hi] at h5;cases h5
 | some i =>
   rw [hi] at h5
   simp only [Option.map_some,Option.some.injEq,Prod.mk.injEq] at h5
   obtain ⟨hz,h1,h2⟩:=h5
   have:=run_make (P:=Tryz.prog) w 49 5 i (.int .u8 0) Tryz.underlying49 hi hz .i64 .i64 (n:Int) (n:Int) (by omega) (by omega) (by rw [h2];omega) (by omega)
   rw [h1] at this
   rw [show ((n:Int).toNat)=n from by omega,made_u8] at this
   exact this
def SrcN (w:World) (b:Nat) (v:Value) (bs:List Nat):Prop :=
 ∃ (a:Option Addr) (cap sb so:Nat),v=.slice a bs.length cap∧bs.length≤cap∧(0<bs.length→a=some ⟨sb,so,none⟩)∧(0<bs.length→sb≠b) ∧
   ∀ i,i<bs.length→w.cell? ⟨sb,so+i,none⟩=some (.int .u8 ((bs.getD i 0:Nat):Int))
structure Two (w w':World) (b p:Nat):Prop where
 os:w'.os=w.os
 tape:w'.tape=w.tape
 output:w'.output=w.output
 size:w.heap.size≤w'.heap.size
 block:∀ k,k<w.heap.size→k≠b→k≠p→w'.heap[k]? = w.heap[k]?
theorem Two.refl (w:World) (b p:Nat):Two w w b p:=⟨rfl,rfl,rfl,Nat.le_refl _,fun _ _ _ _=>rfl⟩
theorem Two.trans {u v w:World} {b p:Nat} (h:Two u v b p) (k:Two v w b p):Two u w b p :=
 ⟨k.os.trans h.os,k.tape.trans h.tape,k.output.trans h.output,Nat.le_trans h.size k.size,fun i hi h1 h2=>(k.block i (Nat.lt_of_lt_of_le hi h.size) h1 h2).trans (h.block i hi h1 h2)⟩
theorem Two.left {w w':World} {b p:Nat} (h:w.grownBy w' (some b)):Two w w' b p:=⟨h.os,h.tape,h.output,h.size,fun k hk h1 _=>h.block k hk (fun e=>h1 (by injection e))⟩
theorem Two.right {w w':World} {b p:Nat} (h:w.grownBy w' (some p)):Two w w' b p:=⟨h.os,h.tape,h.output,h.size,fun k hk _ h1=>h.block k hk (fun e=>h1 (by injection e))⟩
theorem Two.ofBelow {w w':World} {b p:Nat} (h:Below w.heap.size w w'):Two w w' b p:=⟨h.os,h.tape,h.output,h.size,fun k hk _ _=>h.block k hk⟩
theorem Two.below {w0 w w':World} {b p:Nat} (h:Two w w' b p) (hb:Below w0.heap.size w0 w) (h1:w0.heap.size≤b) (h2:w0.heap.size≤p):Below w0.heap.size w0 w' :=
 ⟨h.os.trans hb.os,h.tape.trans hb.tape,h.output.trans hb.output,Nat.le_trans hb.size h.size,fun k hk=>(h.block k (Nat.lt_of_lt_of_le hk hb.size) (by omega) (by omega)).trans (hb.block k hk)⟩
def RowB (w:World) (g:Nat) (bs:List Nat):Prop:=w.heap[g]? = some (.cells (u8s bs).toArray 5 (0,0))
theorem RowB.below {w w':World} {g:Nat} {bs:List Nat} (h:RowB w g bs) (k:Below w.heap.size w w'):RowB w' g bs:=by
 unfold RowB at *;rw [k.block _ (Array.getElem?_eq_some_iff.1 h).1];exact h
theorem RowB.two {w w':World} {g b p:Nat} {bs:List Nat} (h:RowB w g bs) (k:Two w w' b p) (h1:g≠b) (h2:g≠p):RowB w' g bs:=by
 unfold RowB at *;rw [k.block _ (Array.getElem?_eq_some_iff.1 h).1 h1 h2];exact h
theorem RowB.lt {w:World} {g:Nat} {bs:List Nat} (h:RowB w g bs):g<w.heap.size:=(Array.getElem?_eq_some_iff.1 h).1
theorem RowB.src {w:World} {g:Nat} {bs:List Nat} (h:RowB w g bs):SrcAt w (.slice (some ⟨g,0,none⟩) bs.length bs.length) bs :=
 ⟨_,_,g,0,rfl,Nat.le_refl _,fun _=>rfl,fun i hi=>by rw [Nat.zero_add,cell_of_row _ _ _ _ _ _ h,List.getElem?_toArray];exact u8s_get bs i hi⟩
theorem RowB.str {w:World} {g k:Nat} {bs:List Nat} (h:RowB w g bs) (hk:bs.length=k):(convert 49 9 (.slice (some ⟨g,0,none⟩) k k)).run Tryz.prog w=.ok (.string (strOf bs)) w:=by
 subst hk
 refine run_convert_bytes_arg _ 49 5 Tryz.underlying49 Tryz.underlying5 g 0 bs.length bs.length (bs.map fun (n:Nat)=>(n:Int)) (by simp) (fun i hi=>?_) 9 Tryz.underlying9
 have hi':i<bs.length:=by simpa using hi
 rw [Nat.zero_add,cell_of_row _ _ _ _ _ _ h,List.getElem?_toArray,u8s_get bs i hi']
 simp [List.getD,List.getElem?_eq_getElem hi']
theorem SrcAt.off {w:World} {v:Value} {bs:List Nat} (h:SrcAt w v bs) {b:Nat} (hb:w.heap.size≤b):SrcN w b v bs:=by
 obtain ⟨a,cap,sb,so,h0,h1,h3,h5⟩:=h
 refine ⟨a,cap,sb,so,h0,h1,h3,fun hp=>?_,h5⟩
 have:=block_lt_of_cell (h5 0 hp)
 intro e;simp only at this;omega
theorem SrcAt.offs {w:World} {g n c:Nat} {bs:List Nat} (h:SrcAt w (.slice (some ⟨g,0,none⟩) n c) bs) {b:Nat} (hb:b<g):SrcN w b (.slice (some ⟨g,0,none⟩) n c) bs:=by
 obtain ⟨a,cap,sb,so,h0,h1,h3,h5⟩:=h
 refine ⟨a,cap,sb,so,h0,h1,h3,fun hp=>?_,h5⟩
 have e:=h3 hp
 injection h0 with h0
 rw [e] at h0
 injection h0 with h0
 injection h0 with h0
 omega
theorem RowB.strs {g k:Nat} {bs:List Nat} (hk:bs.length=k) (W:World) (h:RowB W g bs):(convert 49 9 (.slice (some ⟨g,0,none⟩) k k)).run Tryz.prog W=.ok (.string (strOf bs)) W:=h.str hk
def RowW (w:World) (g n:Nat):Prop:=∀ i,i<n→(∃ x:Nat,w.cell? ⟨g,i,none⟩=some (.int .u8 (x:Int)))∧w.frozen? ⟨g,i,none⟩=false
theorem RowW.set {w:World} {g n i b:Nat} (h:RowW w g n) (hi:i<n):RowW (w.setCell ⟨g,i,none⟩ (.int .u8 (b:Int))) g n:=fun j hj=>by
 refine ⟨?_,by rw [World.frozen?_setCell];exact (h j hj).2⟩
 by_cases e:j=i
 ·subst e
  obtain ⟨x,hx⟩:=(h j hj).1
  exact ⟨b,World.cell?_setCell_same' _ _ _ (by rw [hx];rfl)⟩
 ·have hna:(⟨g,i,none⟩:Addr)≠⟨g,j,none⟩:=fun e2=>e (by injection e2 with _ e3;exact e3.symm)
  rw [World.cell?_setCell_other (h:=hna)]
  exact (h j hj).1
theorem RowW.two {w w':World} {g n b p:Nat} (h:RowW w g n) (k:Two w w' b p) (h1:g≠b) (h2:g≠p):RowW w' g n:=fun i hi=>by
 obtain ⟨⟨x,hx⟩,hf⟩:=h i hi
 have hb:=k.block g (block_lt_of_cell hx) h1 h2
 exact ⟨⟨x,by rw [World.cell?_of_block (w:=w) hb];exact hx⟩,by rw [World.frozen?_of_block (w:=w) hb];exact hf⟩
theorem RowB.rw {w:World} {g:Nat} {bs:List Nat} (h:RowB w g bs):RowW w g bs.length:=fun i hi =>
 ⟨⟨bs.getD i 0,by rw [cell_of_row _ _ _ _ _ _ h,List.getElem?_toArray];exact u8s_get bs i hi⟩,frozen_of_row _ _ _ _ _ h⟩
end Go.Proofs.YtlahonjmfecikaaGreatDoor
set_option maxRecDepth 100000
namespace Go.Proofs.YtlahonjmfecikaaGreatDoor
open Go.RowKit
section
variable {P:Program} {md:Region.Mode} {ops:Array Oper} {Q:Exit→Act→World→Prop} {S:World→Prop}
def opIsT (ops:Array Oper) (i:Nat) (d:Option Tmp) (op:Op) (g:Option (Nat×Bool)) (t:TypeId):Prop:=(ops[i]?).map (fun o=>(o.dst,o.op,o.guard,o.type))=some (d,op,g,t)
theorem op_ofT {i:Nat} {d:Option Tmp} {op:Op} {g:Option (Nat×Bool)} {t:TypeId} (h:opIsT ops i d op g t):∃ o,ops[i]? = some o∧o.dst=d∧o.op=op∧o.guard=g∧o.type=t:=by
 unfold opIsT at h
 cases ho:ops[i]? with
 | none=>rw [ho] at h;cases h
 | some o =>
   rw [ho] at h
   simp only [Option.map_some,Option.some.injEq,Prod.mk.injEq] at h
   exact ⟨o,rfl,h.1,h.2.1,h.2.2.1,h.2.2.2⟩
theorem heldRunT {fuel:Nat} {listed:Array Bool} {a:Act} {w:World} {d:Option Tmp} {op:Op} {g:Option (Nat×Bool)} {t:TypeId} (i:Nat) (v:Value) (w':World) (hi:opIsT ops i d op g t) (hw:lets ops a g=true)
 (hr:Region.ready md ops listed=[i]) (hy:∀ o:Oper,o.op=op→o.type=t→(execOp a.eval o).run P w=.ok (.value v) w') (hS:S w')
 (h:wpAnyH P md ops Q S fuel (listed.setIfInBounds i true) (a.put d v) w'):wpAnyH P md ops Q S (fuel+1) listed a w:=by
 obtain ⟨o,ho,hd,hop,hg,ht⟩:=op_ofT hi
 refine wpAnyH_all hr (by simp) (fun k hk=>?_)
 rw [List.mem_singleton] at hk
 subst hk
 refine wpOp_step ho (fun K hK=>?_)
 rw [if_pos (wanted_of hg hw)]
 unfold Oper.wp
 rw [hy o hop ht,Oper.upon_value,hd]
 exact hK _ _ ⟨hS,h⟩
theorem heldStore {fuel:Nat} {listed:Array Bool} {a:Act} {w:World} {d:Option Tmp} {op:Op} {g:Option (Nat×Bool)} {t:TypeId} (i:Nat) (w':World) (hi:opIsT ops i d op g t) (hw:lets ops a g=true)
 (hr:Region.ready md ops listed=[i]) (hy:∀ o:Oper,o.op=op→o.type=t→(execOp a.eval o).run P w=.ok .skip w') (hS:S w')
 (h:wpAnyH P md ops Q S fuel (listed.setIfInBounds i true) (a.put d undef) w'):wpAnyH P md ops Q S (fuel+1) listed a w:=by
 obtain ⟨o,ho,hd,hop,hg,ht⟩:=op_ofT hi
 refine wpAnyH_all hr (by simp) (fun k hk=>?_)
 rw [List.mem_singleton] at hk
 subst hk
 refine wpOp_step ho (fun K hK=>?_)
 rw [if_pos (wanted_of hg hw)]
 unfold Oper.wp
 rw [hy o hop ht,Oper.upon_skip,hd]
 exact hK _ _ ⟨hS,h⟩
theorem heldTwo {fuel:Nat} {listed:Array Bool} {a:Act} {w:World} {di dj:Option Tmp} {opi opj:Op} {gi gj:Option (Nat×Bool)} {ti tj:TypeId} (i j:Nat) (vi:Value) (wi:World) (vj:Value) (wj:World)
 (hi:opIsT ops i di opi gi ti) (hj:opIsT ops j dj opj gj tj) (hwi:lets ops a gi=true) (hwj:lets ops a gj=true) (hr:Region.ready md ops listed=[i,j])
 (yi:∀ o:Oper,o.op=opi→o.type=ti→(execOp a.eval o).run P w=.ok (.value vi) wi) (yj:∀ o:Oper,o.op=opj→o.type=tj→(execOp a.eval o).run P w=.ok (.value vj) wj) (hSi:S wi) (hSj:S wj)
 (h1:wpAnyH P md ops Q S fuel (listed.setIfInBounds i true) (a.put di vi) wi) (h2:wpAnyH P md ops Q S fuel (listed.setIfInBounds j true) (a.put dj vj) wj):wpAnyH P md ops Q S (fuel+1) listed a w:=by
 obtain ⟨o,ho,hd,hop,hg,ht⟩:=op_ofT hi
 obtain ⟨o',ho',hd',hop',hg',ht'⟩:=op_ofT hj
 refine wpAnyH_all hr (by simp) (fun k hk=>?_)
 rcases List.mem_cons.1 hk with rfl | hk
 ·refine wpOp_step ho (fun K hK=>?_)
  rw [if_pos (wanted_of hg hwi)]
  unfold Oper.wp
  rw [yi o hop ht,Oper.upon_value,hd]
  exact hK _ _ ⟨hSi,h1⟩
 ·rw [List.mem_singleton] at hk
  subst hk
  refine wpOp_step ho' (fun K hK=>?_)
  rw [if_pos (wanted_of hg' hwj)]
  unfold Oper.wp
  rw [yj o' hop' ht',Oper.upon_value,hd']
  exact hK _ _ ⟨hSj,h2⟩
end
end Go.Proofs.YtlahonjmfecikaaGreatDoor
set_option maxRecDepth 100000
namespace Go.Proofs.YtlahonjmfecikaaGreatDoor
open Go.RowKit
theorem u8s_set (ws:List Nat) (k x:Nat):(u8s ws).toArray.setIfInBounds k (.int .u8 (x:Int))=(u8s (ws.set k x)).toArray:=by
 simp [u8s,v8,List.map_set]
theorem RowB.set {w:World} {g:Nat} {bs:List Nat} (h:RowB w g bs) (i x:Nat):RowB (w.setCell ⟨g,i,none⟩ (.int .u8 (x:Int))) g (bs.set i x):=by
 unfold RowB
 rw [heap_setCell_same _ _ _ _ _ _ h,u8s_set]
theorem RowB.cell {w:World} {g:Nat} {bs:List Nat} (h:RowB w g bs) (i:Nat) (hi:i<bs.length):w.cell? ⟨g,i,none⟩=some (.int .u8 ((bs.getD i 0:Nat):Int)):=by
 rw [cell_of_row _ _ _ _ _ _ h,List.getElem?_toArray];exact u8s_get bs i hi
theorem RowB.froz {w:World} {g:Nat} {bs:List Nat} (h:RowB w g bs) (i:Nat):w.frozen? ⟨g,i,none⟩=false:=frozen_of_row _ _ _ _ _ h
theorem rowB_new (w:World) (bs:List Nat):RowB (w.alloc (.cells (u8s bs).toArray 5)) w.heap.size bs:=alloc_new _ _ _ rfl
theorem SrcAt.below {w w':World} {v:Value} {bs:List Nat} (h:SrcAt w v bs) {B:Nat} (hB:w.heap.size≤B) (k:Below B w w'):SrcAt w' v bs:=by
 obtain ⟨a,cap,sb,so,h0,h1,h3,h5⟩:=h
 refine ⟨a,cap,sb,so,h0,h1,h3,fun i hi=>?_⟩
 have hlt:=block_lt_of_cell (h5 i hi)
 rw [k.cell (p:=⟨sb,so+i,none⟩) (Nat.lt_of_lt_of_le hlt hB)]
 exact h5 i hi
theorem SrcAt.one {w:World} {sb so n cap:Nat} {bs:List Nat} (h:∀ i,i<n→w.cell? ⟨sb,so+i,none⟩=some (.int .u8 ((bs.getD i 0:Nat):Int))) (k:Nat) (hk:k+1≤n) (hn:bs.length=n) (hc:k≤cap):SrcAt w (.slice (some ⟨sb,so+1,none⟩) k cap) ((bs.drop 1).take k):=by
 have hl:((bs.drop 1).take k).length=k:=by rw [List.length_take,List.length_drop];omega
 refine ⟨_,cap,sb,so+1,by rw [hl],by rw [hl];exact hc,fun _=>rfl,fun i hi=>?_⟩
 rw [hl] at hi
 rw [Nat.add_assoc,h (1+i) (by omega)]
 simp only [List.getD_eq_getElem?_getD]
 rw [List.getElem?_take_of_lt hi,List.getElem?_drop]
section
variable {P:Program} {md:Region.Mode} {ops:Array Oper} {Q:Exit→Act→World→Prop} {S:World→Prop}
theorem heldCA {fuel:Nat} {listed:Array Bool} {a:Act} {w:World} {di dj:Option Tmp} {opi opj:Op} {ti tj:TypeId} (i j:Nat) (vi:Value) (wi:World) (f:FuncId) (args:Array Value)
 (hi:opIsT ops i di opi none ti) (hj:opIsT ops j dj opj none tj) (hr:Region.ready md ops listed=[i,j])
 (yi:∀ o:Oper,o.op=opi→o.type=ti→(execOp a.eval o).run P w=.ok (.value vi) wi) (yj:∀ o:Oper,o.op=opj→o.type=tj→(execOp a.eval o).run P w=.ok (.enter f args) w) (hS:S wi)
 (h1:wpAnyH P md ops Q S fuel (listed.setIfInBounds i true) (a.put di vi) wi)
 (h2:Calls P f args w fun e w'=>∃ v,e=.returned v∧S w'∧wpAnyH P md ops Q S fuel (listed.setIfInBounds j true) (a.put dj v) w'):wpAnyH P md ops Q S (fuel+1) listed a w:=by
 obtain ⟨o,ho,hd,hop,hg,ht⟩:=op_ofT hi
 obtain ⟨o',ho',hd',hop',hg',ht'⟩:=op_ofT hj
 refine wpAnyH_all hr (by simp) (fun k hk=>?_)
 rcases List.mem_cons.1 hk with rfl | hk
 ·refine wpOp_step ho (fun K hK=>?_)
  rw [if_pos (wanted_of hg rfl)]
  unfold Oper.wp
  rw [yi o hop ht,Oper.upon_value,hd]
  exact hK _ _ ⟨hS,h1⟩
 ·rw [List.mem_singleton] at hk
  subst hk
  refine wpOp_step ho' (fun K hK=>?_)
  rw [if_pos (wanted_of hg' rfl)]
  unfold Oper.wp
  rw [yj o' hop' ht',Oper.upon_enter]
  refine h2.mono ?_
  rintro e w' ⟨v,rfl,hS',h'⟩
  rw [hd']
  exact hK _ _ ⟨hS',h'⟩
end
theorem own_row {w:World} {g:Nat} {bs:List Nat} (h:RowB w g bs) (base:Nat) (hb:base≤g) (hl:bs.length≤1000000):w.ownsRow base 5 1 (.slice (some ⟨g,0,none⟩) bs.length bs.length) bs.length (u8s bs) :=
 ⟨by simp,.inr ⟨g,bs.length,(u8s bs).toArray,rfl,hb,h,Nat.le_refl _,by unfold maxLen;omega,by simp,List.take_of_length_le (by simp)⟩⟩
theorem own_src {w:World} {base:Nat} {v:Value} {bs:List Nat} (h:w.ownsRow base 5 1 v bs.length (u8s bs)) (hp:0<bs.length):∃ g cap,v=.slice (some ⟨g,0,none⟩) bs.length cap∧base≤g∧SrcAt w v bs:=by
 rcases h.2 with ⟨_,h0⟩ | ⟨g,cap,cur,rfl,hb,hg,hn,_,hs,ht⟩
 ·omega
 ·refine ⟨g,cap,rfl,hb,_,cap,g,0,rfl,hn,fun _=>rfl,fun i hi=>?_⟩
  rw [Nat.zero_add,cell_of_row _ _ _ _ _ _ hg]
  have h1:=u8s_get bs i hi
  rw [← ht,List.getElem?_take_of_lt (by omega),Array.getElem?_toList] at h1
  exact h1
theorem info5':∃ i,Tryz.prog.info? 5=some i∧i.zero=some (.int .u8 0)∧i.size=1∧i.bytes=1:=by
 have h5:=info5
 cases hi:Tryz.prog.info? 5 with
 | none=>rw [hi] at h5;cases h5
 | some i =>
   rw [hi] at h5
   simp only [Option.map_some,Option.some.injEq,Prod.mk.injEq] at h5
   exact ⟨i,rfl,h5.1,h5.2.1,h5.2.2⟩
theorem add_bytes {Z:World} {base g1 g2:Nat} {m l:List Nat} (ty:TypeId) (h1:RowB Z g1 m) (hb1:base≤g1) (h2:RowB Z g2 l) (hl:m.length+l.length≤1000000) (hbase:base≤Z.heap.size) :
 ∃ v1 w1,(Builtin.append_ #[49,49] ty #[.slice (some ⟨g1,0,none⟩) m.length m.length,.slice (some ⟨g2,0,none⟩) l.length l.length]).run Tryz.prog Z=.ok v1 w1 ∧
   w1.ownsRow base 5 1 v1 (m++l).length (u8s (m++l))∧Z.grownBy w1 (some g1):=by
 obtain ⟨i0,hi0,hz0,hz1,hz2⟩:=info5'
 obtain ⟨v',w',hrun,hown,hgr,_⟩:=run_append_own (P:=Tryz.prog) Z base 49 ty 5 i0 _ 1 1 Tryz.underlying49 hi0 hz0 hz1 hz2 rfl (by decide) _ m.length (u8s m) (own_row h1 base hb1 (by omega)) ⟨g2,0,none⟩ l.length l.length (u8s l) (by simp) (fun j u hu=>by
  have hj:j<l.length:=by have:=(List.getElem?_eq_some_iff.1 hu).1;simpa using this
  rw [Addr.add_mid,Nat.zero_add,h2.cell j hj,← hu,u8s_get l j hj]) (u8s_one l) (by unfold maxLen;omega) (by omega) hbase
 refine ⟨v',w',hrun,?_,hgr⟩
 rw [List.length_append,u8s_append]
 exact hown
theorem u8s_cells (l:List Nat) (h:Small 256 l):u8s l=(l.map UInt8.ofNat).map Extern.Stop.cell:=by
 simp only [u8s,List.map_map]
 refine List.map_congr_left (fun x hx=>?_)
 have hx':=h x hx
 simp only [v8,Function.comp_def,Extern.Stop.cell]
 congr 1
 rw [UInt8.toNat_ofNat_of_lt' hx']
 rfl
theorem ofNat_inj {a b:List Nat} (ha:Small 256 a) (hb:Small 256 b):(a.map UInt8.ofNat=b.map UInt8.ofNat)↔a=b:=by
 refine ⟨fun h=>?_,fun h=>by rw [h]⟩
 have h2:=congrArg (List.map UInt8.toNat) h
 have key:∀ l:List Nat,Small 256 l→(l.map UInt8.ofNat).map UInt8.toNat=l:=fun l hl=>by
  rw [List.map_map]
  conv=>rhs;rw [← List.map_id l]
  exact List.map_congr_left fun x hx=>UInt8.toNat_ofNat_of_lt' (hl x hx)
 rwa [key a ha,key b hb] at h2
theorem eq_keys (a b:List Nat) (ha:a.length=4) (hb:b.length=4) (sa:Small 256 a) (sb:Small 256 b) (W:World) :
 (Op.equalIn 10000 59 (.agg (u8s a).toArray) (.agg (u8s b).toArray)).run Tryz.prog W=.ok (decide (a=b)) W:=by
 rw [u8s_cells a sa,u8s_cells b sb,run_equalIn_bytes W 9998 59 5 4 Tryz.underlying59 Tryz.underlying5 (fun w=>by kernel_rfl) _ _ (by simp [ha]) (by simp [hb])]
 congr 1
 rw [Bool.eq_iff_iff]
 simp only [beq_iff_eq,decide_eq_true_eq]
 exact ofNat_inj sa sb
theorem SrcAt.conv {w:World} {b o n cap:Nat} {bs:List Nat} (h:SrcAt w (.slice (some ⟨b,o,none⟩) n cap) bs):(convert 49 9 (.slice (some ⟨b,o,none⟩) n cap)).run Tryz.prog w=.ok (.string (strOf bs)) w:=by
 obtain ⟨a,c,sb,so,he,hc,ha,hcell⟩:=h
 injection he with h1 h2 h3
 subst h2 h3
 refine run_convert_bytes_arg w 49 5 Tryz.underlying49 Tryz.underlying5 b o bs.length cap (bs.map fun (n:Nat)=>(n:Int)) (by simp) (fun i hi=>?_) 9 Tryz.underlying9
 have hi':i<bs.length:=by simpa using hi
 have h4:=ha (by omega)
 rw [h4] at h1
 injection h1 with h1
 injection h1 with h5 h6
 subst h5 h6
 rw [hcell i hi']
 simp [List.getD,List.getElem?_eq_getElem hi']
theorem strOf_one (x:Nat) (h:x<256):bytes (strOf [x])=[x]:=bytes_strOf _ (fun y hy=>by simp at hy;omega)
theorem keycell {W:World} {g j y:Nat} {key:List Nat} (h:W.heap[g]? = some (.cells (u8s key).toArray 59 (0,0))) (hj:j<4) (hl:key.length=4) (hy:key.getD j 0=y):W.cell? ⟨g,j,none⟩=some (.int .u8 (y:Int)):=by
 rw [cell_of_row _ _ _ _ _ _ h,List.getElem?_toArray,u8s_get key j (by omega),hy]
theorem key_info {key:List Nat} (h:key.length=4):(Tryz.prog.info? 59).map (·.size)=some (u8s key).toArray.size:=by
 have:(Tryz.prog.info? 59).map (·.size)=some 4:=by kernel_rfl
 simpa [h] using this
theorem src_len {w:World} {g n:Nat} {bs:List Nat} (h:SrcAt w (.slice (some ⟨g,0,none⟩) bs.length bs.length) bs) (hn:bs.length=n):SrcAt w (.slice (some ⟨g,0,none⟩) n n) bs:=by subst hn;exact h
theorem below_key {w w':World} {g:Nat} {o:Obj} (h:w.heap[g]? = some o) (k:Below w.heap.size w w'):w'.heap[g]? = some o:=by
 rw [k.block _ (Array.getElem?_eq_some_iff.1 h).1];exact h
end Go.Proofs.YtlahonjmfecikaaGreatDoor
set_option maxRecDepth 100000
namespace Go.Proofs.YtlahonjmfecikaaGreatDoor.Mas
open Go.RowKit MaskPlain
theorem or_join (x y i:Nat) (hx:x % 2 ^ i=0) (hy:y<2 ^ i) (hb:x+y<18446744073709551616):bits .or .u64 (x:Int) (y:Int)=((x+y:Nat):Int):=by
 rw [u64_or_nat x y (by omega) (by omega),nat_join i x y hx hy]
set_option maxHeartbeats 2000000 in
theorem nb_any (N s:Nat) (w:World) (hs:s≤8) :
 Calls Tryz.prog 163 #[.int .u64 N,.int .i64 s] w fun e w'=>e=.returned (.slice (some ⟨w.heap.size,0,none⟩) s s)∧Sl (RowB w' w.heap.size (be N s))∧Sl (Below w.heap.size w w'):=by
 obtain ⟨g,hg⟩:∃ g,w.heap.size=g:=⟨_,rfl⟩
 have hmake:=make_u8 s s rfl (by omega) w
 rw [hg] at hmake ⊢
 obtain ⟨w1,hw1⟩:∃ w1,w.alloc (.cells (u8s (zs s)).toArray 5)=w1:=⟨_,rfl⟩
 have HR1:Sl (RowB w1 g (beTo N s 0)):=⟨by rw [beTo_zero,← hw1,← hg];exact rowB_new w _⟩
 have HB1:Sl (Below g w w1):=⟨by rw [← hw1,← hg];exact (Below.refl _ _).alloc (Nat.le_refl _) _⟩
 rw [hw1] at hmake
 clear hw1 hg
 go_enter Tryz.func163,Tryz.ntmps163
 go_wp2
 go_loopw [10] (fun i wr=>∃ k:Nat,k≤s∧i=.int .i64 k∧Sl (RowB wr g (beTo N s k))∧Sl (Below g w wr)) (fun i _=>s-(intOf i).toNat)
 case atStart=>exact ⟨0,Nat.zero_le _,rfl,HR1,HB1⟩
 case round =>
  obtain ⟨k,hk,rfl,HR,HB⟩:=hrel
  by_cases hlt:k<s
  ·have cw:=HR.out.cell k (by rw [beTo_length _ _ _ hk];exact hlt)
   have fw:=HR.out.froz k
   have k0:(0:Int)≤(k:Int):=by omega
   have k1:(k:Int)<(s:Int):=by omega
   go_wp2
   rw [show (N:Int) / 2 ^ (8*(s-1-k)) % 256=((N / 2 ^ (8*(s-1-k)) % 256:Nat):Int) by simp]
   exact ⟨⟨k+1,by omega,by go_num,⟨by rw [← beTo_step N s k hlt];exact HR.out.set k _⟩,⟨HB.out.setCell (p:=⟨g,k,none⟩) (by have:=HB.out.size;have:=HR.out.lt;first | omega | exact Nat.le_refl _) _⟩⟩,by simp [intOf];omega⟩
  ·have hge:((k:Int)<(s:Int))=False:=eq_false (by omega)
   obtain rfl:k=s:=by omega
   rw [beTo_all] at HR
   go_wp2
   go_ret
   exact ⟨rfl,HR,HB⟩
set_option maxHeartbeats 2000000 in
theorem number_any (v:Value) (bs:List Nat) (w:World) (hv:SrcAt w v bs) (hsm:Small 256 bs) (hl:bs.length≤8) :
 Calls Tryz.prog 178 #[v] w fun e w'=>e=.returned (.int .u64 ((val bs:Nat):Int))∧w=w':=by
 obtain ⟨a,cap,sb,so,rfl,hcap,ha,hc⟩:=hv
 obtain ⟨n,hn⟩:∃ n,bs.length=n:=⟨_,rfl⟩
 have HN:=Sl.mk hn
 rw [hn] at hcap ha hl ⊢
 have HC:Sl (∀ i,i<n→w.cell? ⟨sb,so+i,none⟩=some (.int .u8 ((bs.getD i 0:Nat):Int))):=⟨by rw [← hn];exact hc⟩
 have HSM:=Sl.mk hsm
 clear hc hn hsm
 go_enter Tryz.func178,Tryz.ntmps178
 go_wp2
 go_loopw [3,7] (fun u i wr=>∃ k:Nat,k≤n∧u=.int .u64 ((val (bs.take k):Nat):Int)∧i=.int .i64 k∧w=wr) (fun _ i _=>n-(intOf i).toNat)
 case atStart=>exact ⟨0,Nat.zero_le _,rfl,rfl,rfl⟩
 case round =>
  obtain ⟨k,hk,rfl,rfl,rfl⟩:=hrel
  by_cases hlt:k<n
  ·have cw:=HC.out k hlt
   obtain rfl:=ha (by omega)
   have hs:=HN.out
   have HS:Sl (val (bs.take (k+1))=256*val (bs.take k)+bs.getD k 0):=⟨val_take bs k (by omega)⟩
   have hlt1:=val_lt (bs.take k) (HSM.out.take k)
   rw [List.length_take,Nat.min_eq_left (by omega)] at hlt1
   have hp:256 ^ k≤256 ^ 7:=Nat.pow_le_pow_right (by omega) (by omega)
   have hc256:bs.getD k 0<256:=HSM.out.getD (by omega) k
   obtain ⟨c,hcc⟩:∃ c,bs.getD k 0=c:=⟨_,rfl⟩
   obtain ⟨m,hm⟩:∃ m,val (bs.take k)=m:=⟨_,rfl⟩
   rw [hm] at hlt1
   rw [hcc] at cw hc256
   rw [hcc,hm] at HS
   have hm2:m<72057594037927936:=by omega
   clear hlt1 hp hs
   have k0:(0:Int)≤(k:Int):=by omega
   have k1:(k:Int)<(n:Int):=by omega
   rw [hm]
   clear hm hcc
   go_wp2
   refine ⟨⟨k+1,by omega,?_,by go_num,trivial⟩,by simp [intOf];omega⟩
   rw [show (m:Int)*256=((m*256:Nat):Int) by simp,or_join (m*256) c 8 (by omega) hc256 (by omega),HS.out,Nat.mul_comm]
  ·have hge:((k:Int)<(n:Int))=False:=eq_false (by omega)
   obtain rfl:k=n:=by omega
   have hv:bs.take k=bs:=List.take_of_length_le (by rw [HN.out];exact Nat.le_refl _)
   rw [hv]
   go_wp2
   go_ret
   exact ⟨rfl,rfl⟩
end Go.Proofs.YtlahonjmfecikaaGreatDoor.Mas
set_option maxRecDepth 100000
namespace Go.Proofs.YtlahonjmfecikaaGreatDoor.Mas
open Go.RowKit MaskPlain
structure Row where
 first:Nat
 behind:Nat
 least:Nat
 most:Nat
def row0:Row:=⟨126,2,126,65535⟩
def row1:Row:=⟨127,8,65536,9223372036854775807⟩
def Row.cells (r:Row):List Value:=[.int .u8 r.first,.int .i64 r.behind,.int .u64 r.least,.int .u64 r.most]
def table:List Value:=row0.cells++row1.cells
structure Globs (w:World):Prop where
 t:w.rangeAt 1 0 table
theorem Globs.cell0 {w:World} (h:Globs w):w.cell? ⟨1,0,none⟩=some (.int .u8 ((126:Nat):Int)):=h.t 0 _ rfl
theorem Globs.size {w:World} (h:Globs w):2≤w.heap.size:=by
 have h1:1<w.heap.size:=block_lt_of_cell h.cell0;omega
theorem Globs.below {w w':World} {B:Nat} (h:Globs w) (hb:Below B w w') (hB:2≤B):Globs w' :=
 ⟨fun j v hv=>by rw [hb.cell (p:=⟨1,0+j,none⟩) (show 1<B by omega)];exact h.t j v hv⟩
theorem index_row0 (W:World):(Instr.index 215 (.agg table.toArray) (.int .i64 0)).run Tryz.prog W=.ok (.agg row0.cells.toArray) W:=by show _=_;kernel_rfl
theorem index_row1 (W:World):(Instr.index 215 (.agg table.toArray) (.int .i64 1)).run Tryz.prog W=.ok (.agg row1.cells.toArray) W:=by show _=_;kernel_rfl
def res3 (r:Nat×Nat×Nat):Value:=.tuple #[.int .u64 ((r.1:Nat):Int),.int .i64 ((r.2.1:Nat):Int),.int .i64 ((r.2.2:Nat):Int)]
theorem pow_wrap (M:Nat) (h:M≤64):IntKind.u64.wrap (IntKind.u64.wrap (2 ^ M)-1)=((2 ^ M-1:Nat):Int):=by
 have hp:0<2 ^ M:=Nat.two_pow_pos M
 have e:((2:Int) ^ M)=((2 ^ M:Nat):Int):=by simp
 rw [IntKind.wrap_u64,IntKind.wrap_u64,e]
 by_cases h64:M=64
 ·subst h64;decide
 ·have:2 ^ M≤2 ^ 63:=Nat.pow_le_pow_right (by omega) (by omega)
  omega
theorem shifts (B:Nat) (t:List Nat) (hB:B≤8) (hl:t.length≤B) (hs:Small 256 t):∃ L H:Nat,L=val t*2 ^ (8*(B-t.length))∧H=L+2 ^ (8*(B-t.length))-1 ∧
 IntKind.u64.wrap ((val t:Int)*2 ^ (8*(B-t.length)))=(L:Int)∧bits .or .u64 (L:Int) (IntKind.u64.wrap (IntKind.u64.wrap (2 ^ (8*(B-t.length)))-1))=(H:Int)∧H<18446744073709551616:=by
 have h1:=getW_small hB hl hs
 obtain ⟨M,hM⟩:∃ M,8*(B-t.length)=M:=⟨_,rfl⟩
 rw [hM] at h1 ⊢
 have hp:0<2 ^ M:=Nat.two_pow_pos M
 refine ⟨_,_,rfl,rfl,?_,?_,by omega⟩
 ·rw [IntKind.wrap_u64,show (val t:Int)*2 ^ M=((val t*2 ^ M:Nat):Int) by simp]
  omega
 ·rw [pow_wrap M (by omega),or_join _ _ M (by rw [Nat.mul_mod_left]) (by omega) (by omega)]
  congr 1;omega
set_option maxHeartbeats 2000000 in
theorem wide_any (f B least most:Nat) (v:Value) (bs:List Nat) (w:World) (hB:B≤8) (hB0:0<B) (hv:SrcAt w v bs) (hsm:Small 256 bs) (hl:0<bs.length) (hm:bs.length≤1000000) :
 Calls Tryz.prog 169 #[.agg #[.int .u8 f,.int .i64 B,.int .u64 least,.int .u64 most],v] w fun e w'=>e=.returned (res3 (getW B least most ((bs.drop 1).take B)))∧Sl (Below w.heap.size w w'):=by
 obtain ⟨a,cap,sb,so,rfl,hcap,ha,hc⟩:=hv
 obtain rfl:=ha hl
 obtain ⟨n,hn⟩:∃ n,bs.length=n:=⟨_,rfl⟩
 have HN:=Sl.mk hn
 rw [hn] at hcap hl hm ⊢
 have HC:Sl (∀ i,i<n→w.cell? ⟨sb,so+i,none⟩=some (.int .u8 ((bs.getD i 0:Nat):Int))):=⟨by rw [← hn];exact hc⟩
 obtain ⟨t,ht⟩:∃ t,(bs.drop 1).take B=t:=⟨_,rfl⟩
 rw [ht]
 have hst:Small 256 t:=by rw [← ht];exact (hsm.drop 1).take B
 have hlt:t.length=min B (n-1):=by rw [← ht,List.length_take,List.length_drop,hn]
 obtain ⟨L,H,hL,hH,f1,f2,hH64⟩:=shifts B t hB (by omega) hst
 have HRES:Sl (getW B least most t=if H<least∨most<L then (0,0,81) else if t.length<B then (0,0,80) else (L,1+B,0)):=⟨by unfold getW;rw [← hL,← hH]⟩
 have HT:=Sl.mk ht
 have HST:=Sl.mk hst
 have HLT:=Sl.mk hlt
 have hLH:L≤H:=by have:0<2 ^ (8*(B-t.length)):=Nat.two_pow_pos _;omega
 clear hc hn hsm ha ht hL hH hst hlt
 obtain ⟨g,hg⟩:∃ g,w.heap.size=g:=⟨_,rfl⟩
 have HG:=Sl.mk hg
 obtain ⟨w1,hw1⟩:∃ w1,w.alloc (.cells #[.int .u8 f,.int .i64 B,.int .u64 least,.int .u64 most] 214)=w1:=⟨_,rfl⟩
 have hh:w1.heap[g]? = some (.cells #[.int .u8 f,.int .i64 B,.int .u64 least,.int .u64 most] 214 (0,0)):=by rw [← hw1,← hg];exact alloc_new _ _ _ rfl
 have c1:w1.cell? ⟨g,1,none⟩=some (.int .i64 (B:Int)):=by rw [cell_of_row _ _ _ _ _ _ hh];rfl
 have c2:w1.cell? ⟨g,2,none⟩=some (.int .u64 (least:Int)):=by rw [cell_of_row _ _ _ _ _ _ hh];rfl
 have c3:w1.cell? ⟨g,3,none⟩=some (.int .u64 (most:Int)):=by rw [cell_of_row _ _ _ _ _ _ hh];rfl
 have HB1:Sl (Below g w w1):=⟨by rw [← hw1,← hg];exact (Below.refl _ _).alloc (Nat.le_refl _) _⟩
 clear hh
 rw [hg]
 have HW1:=Sl.mk hw1
 go_enter Tryz.func169,Tryz.ntmps169
 by_cases hle:n≤1+B
 ·by_cases h1:1<n
  ·obtain ⟨k,rfl⟩:∃ k,n=k+1:=⟨n-1,by omega⟩
   have hk:t.length=k:=by have:=HLT.out;omega
   rw [hk] at HRES f1 f2
   obtain ⟨m,hm'⟩:∃ m,B-k=m:=⟨_,rfl⟩
   have e1:(B:Int)-(k:Int)=(m:Int):=by omega
   obtain ⟨M,hM⟩:∃ M,8*m=M:=⟨_,rfl⟩
   have e2:8*(m:Int)=(M:Int):=by omega
   have hM64:M≤64:=by omega
   rw [hm',hM] at f1 f2
   have hsrc:SrcAt w1 (.slice (some ⟨sb,so+1,none⟩) k k) t:=by
    have:=(SrcAt.one (cap:=k) HC.out k (Nat.le_refl _) HN.out (Nat.le_refl _)).below (by rw [HG.out];exact Nat.le_refl _) HB1.out
    rw [← HT.out]
    rwa [List.take_of_length_le (l:=bs.drop 1) (i:=k) (by rw [List.length_drop];have:=HN.out;omega),← List.take_of_length_le (l:=bs.drop 1) (i:=B) (by rw [List.length_drop];have:=HN.out;omega)] at this
   have hnum:=number_any (.slice (some ⟨sb,so+1,none⟩) k k) t w1 hsrc HST.out (by omega)
   have HM:=Sl.mk hM
   have HM':=Sl.mk hm'
   clear hsrc hm' hM hk
   go_wp2_with fail
   refine hnum.mono ?_
   rintro e w2 ⟨rfl,rfl⟩
   by_cases hlow:H<least
   ·have HR2:=Sl.mk (HRES.out.trans (if_pos (Or.inl hlow)))
    clear HRES
    go_wp2
    go_ret3
    exact ⟨by rw [HR2.out];rfl,HB1⟩
   ·by_cases hhigh:most<L
    ·have HR2:=Sl.mk (HRES.out.trans (if_pos (Or.inr hhigh)))
     clear HRES
     go_wp2
     go_ret3
     exact ⟨by rw [HR2.out];rfl,HB1⟩
    ·have HR1:=Sl.mk (HRES.out.trans (if_neg (fun h=>h.elim hlow hhigh)))
     clear HRES
     by_cases hmore:k<B
     ·have HR2:=Sl.mk (HR1.out.trans (if_pos hmore))
      have hM0:0<M:=by have:=HM.out;have:=HM'.out;omega
      clear HR1
      go_wp2
      go_ret3
      exact ⟨by rw [HR2.out];rfl,HB1⟩
     ·have HR2:=Sl.mk (HR1.out.trans (if_neg hmore))
      have hM0:¬ 0<M:=by have:=HM.out;have:=HM'.out;omega
      have hkB:k=B:=by omega
      clear HR1
      go_wp2
      go_ret3
      exact ⟨by rw [HR2.out];simp [res3];omega,HB1⟩
  ·obtain rfl:n=1:=by omega
   have g1:(1:Int)≤1+(B:Int):=by omega
   have hk:t.length=0:=by have:=HLT.out;omega
   rw [hk,Nat.sub_zero] at f1 f2
   rw [hk] at HRES
   have ht0:t=[]:=List.eq_nil_of_length_eq_zero hk
   have hsrc:SrcAt w1 (.slice (some ⟨sb,so,none⟩) 0 0) t:=by
    rw [ht0]
    exact ⟨_,_,sb,so,rfl,Nat.le_refl _,fun _=>rfl,fun i hi=>absurd hi (Nat.not_lt_zero _)⟩
   have hnum:=number_any (.slice (some ⟨sb,so,none⟩) 0 0) t w1 hsrc HST.out (by omega)
   clear hsrc hk ht0
   go_wp2_with fail
   refine hnum.mono ?_
   rintro e w2 ⟨rfl,rfl⟩
   by_cases hlow:H<least
   ·have HR2:=Sl.mk (HRES.out.trans (if_pos (Or.inl hlow)))
    clear HRES
    go_wp2
    go_ret3
    exact ⟨by rw [HR2.out];rfl,HB1⟩
   ·by_cases hhigh:most<L
    ·have HR2:=Sl.mk (HRES.out.trans (if_pos (Or.inr hhigh)))
     clear HRES
     go_wp2
     go_ret3
     exact ⟨by rw [HR2.out];rfl,HB1⟩
    ·have HR1:=Sl.mk (HRES.out.trans (if_neg (fun h=>h.elim hlow hhigh)))
     clear HRES
     have HR2:=Sl.mk (HR1.out.trans (if_pos hB0))
     clear HR1
     go_wp2
     go_ret3
     exact ⟨by rw [HR2.out];rfl,HB1⟩
 ·have h2:1+B<n:=by omega
  have g1:((n:Int)≤1+(B:Int))=False:=eq_false (by omega)
  have g2:(1+(B:Int)<(n:Int)):=by omega
  have hk:t.length=B:=by have:=HLT.out;omega
  rw [hk,Nat.sub_self,Nat.mul_zero] at f1 f2
  rw [hk] at HRES
  have f3:IntKind.u64.wrap ((val t:Nat):Int)=(L:Int):=by rw [← f1];simp
  have f4:bits .or .u64 (L:Int) 0=(H:Int):=by rw [← f2];rfl
  have hsrc:SrcAt w1 (.slice (some ⟨sb,so+1,none⟩) B B) t:=by
   have:=(SrcAt.one (cap:=B) HC.out B (by omega) HN.out (Nat.le_refl _)).below (by rw [HG.out];exact Nat.le_refl _) HB1.out
   rwa [HT.out] at this
  have hnum:=number_any (.slice (some ⟨sb,so+1,none⟩) B B) t w1 hsrc HST.out (by omega)
  clear hsrc hk f1 f2
  go_wp2_with fail
  refine hnum.mono ?_
  rintro e w2 ⟨rfl,rfl⟩
  by_cases hlow:H<least
  ·have HR2:=Sl.mk (HRES.out.trans (if_pos (Or.inl hlow)))
   clear HRES
   go_wp2
   go_ret3
   exact ⟨by rw [HR2.out];rfl,HB1⟩
  ·by_cases hhigh:most<L
   ·have HR2:=Sl.mk (HRES.out.trans (if_pos (Or.inr hhigh)))
    clear HRES
    go_wp2
    go_ret3
    exact ⟨by rw [HR2.out];rfl,HB1⟩
   ·have HR1:=Sl.mk (HRES.out.trans (if_neg (fun h=>h.elim hlow hhigh)))
    clear HRES
    have HR2:=Sl.mk (HR1.out.trans (if_neg (Nat.lt_irrefl _)))
    clear HR1
    go_wp2
    go_ret3
    exact ⟨by rw [HR2.out];simp [res3],HB1⟩
theorem andNot_128 (c:Nat) (h:c<256):bits .andNot .u8 (c:Int) 128=((c % 128:Nat):Int):=by
 have:∀ c:Fin 256,bits BinOp.andNot IntKind.u8 (c.val:Int) 128=((c.val % 128:Nat):Int):=by decide +kernel
 exact this ⟨c,h⟩
def row (k:Nat):Row:=if k=0 then row0 else row1
theorem index_row (k:Nat) (hk:k<2) (W:World):(Instr.index 215 (.agg table.toArray) (.int .i64 (k:Int))).run Tryz.prog W=.ok (.agg (row k).cells.toArray) W:=by
 match k,hk with
 | 0,_=>exact index_row0 W
 | 1,_=>exact index_row1 W
theorem row_get (k:Nat) (hk:k<2) (x:Nat) (xs:List Nat) (hs:Small 256 xs) (h:x % 128=(row k).first):getL (x :: xs)=getW (row k).behind (row k).least (row k).most (xs.take (row k).behind):=by
 match k,hk with
 | 0,_=>exact get_narrow x xs h hs
 | 1,_=>exact get_wide x xs h hs
theorem row_ok (k:Nat):(row k).behind≤8∧0<(row k).behind∧(row k).first<256:=by
 unfold row;split<;>exact ⟨by decide,by decide,by decide⟩
def Past (f k:Nat):Prop:=∀ j,j<k→f≠(row j).first
theorem past_none {f:Nat} (h:Past f 2) (hf:f<128):f<126:=by
 have h0:=h 0 (by decide)
 have h1:=h 1 (by decide)
 simp [row,row0,row1] at h0 h1
 omega
theorem len_nil {w:World} {v:Value} (h:SrcAt w v []):∃ a cap,v=.slice a 0 cap:=by
 obtain ⟨a,cap,_,_,rfl,_⟩:=h
 exact ⟨a,cap,rfl⟩
set_option maxHeartbeats 2000000 in
theorem get_any (v:Value) (bs:List Nat) (w:World) (hg:Globs w) (hv:SrcAt w v bs) (hsm:Small 256 bs) (hm:bs.length≤1000000) :
 Calls Tryz.prog 159 #[v] w fun e w'=>e=.returned (res3 (getL bs))∧Sl (Below w.heap.size w w'):=by
 have HI48:Sl ((Tryz.prog.info? 215).map (·.size)=some table.length):=⟨by kernel_rfl⟩
 have HG:=Sl.mk hg
 have HB0:Sl (Below w.heap.size w w):=⟨Below.refl _ _⟩
 clear hg
 cases bs with
 | nil =>
   obtain ⟨a,cap,rfl⟩:=len_nil hv
   clear hv
   go_enter Tryz.func159,Tryz.ntmps159
   go_wp2
   go_ret3
   exact ⟨rfl,HB0⟩
 | cons x xs =>
   have hx256:x<256:=hsm x (List.mem_cons_self ..)
   have HXS:Sl (Small 256 xs):=⟨fun y hy=>hsm y (List.mem_cons_of_mem _ hy)⟩
   have HSM:=Sl.mk hsm
   have HV:=Sl.mk hv
   have hwide:=fun f B le mo hB hB0 W hW=>wide_any f B le mo v (x :: xs) W hB hB0 hW hsm (by simp) hm
   obtain ⟨a,cap,sb,so,rfl,hcap,ha,hc⟩:=hv
   obtain rfl:=ha (by simp)
   have c0:w.cell? ⟨sb,so,none⟩=some (.int .u8 (x:Int)):=by have:=hc 0 (by simp);simpa using this
   obtain ⟨n,hn⟩:∃ n,xs.length=n:=⟨_,rfl⟩
   have hlen:(x :: xs).length=n+1:=by rw [List.length_cons,hn]
   rw [hlen] at hcap hm hwide HV ⊢
   have f0:=andNot_128 x hx256
   obtain ⟨fb,hfb⟩:∃ fb,x % 128=fb:=⟨_,rfl⟩
   have hfb128:fb<128:=by omega
   rw [hfb] at f0
   have HFB:=Sl.mk hfb
   clear hc ha hn hlen hsm hfb
   go_enter Tryz.func159,Tryz.ntmps159
   go_wp2_with (first | (refine wpList_load_mid rfl 215 (.global 1) rfl 1 0 rfl table (.array 2 214) HG.out.t Tryz.underlying215 rfl HI48.out ?_))
   go_loopw [16] (fun i wr=>∃ k:Nat,k≤2∧i=.int .i64 k∧Sl (Past fb k)∧Sl (Below w.heap.size w wr)) (fun i _=>2-(intOf i).toNat)
   case atStart=>exact ⟨0,Nat.zero_le _,rfl,⟨fun j hj=>absurd hj (Nat.not_lt_zero _)⟩,HB0⟩
   case round =>
    obtain ⟨k,hk,rfl,HP,HB⟩:=hrel
    by_cases hlt:k<2
    ·have hidx:=index_row k hlt
     obtain ⟨hr1,hr2,hr3⟩:=row_ok k
     have HRG:=Sl.mk (row_get k hlt x xs HXS.out)
     have HRP:Sl (fb≠(row k).first→Past fb (k+1)):=⟨fun hne j hj=>by
      by_cases e:j=k
      ·subst e;exact hne
      ·exact HP.out j (by omega)⟩
     rw [HFB.out] at HRG
     obtain ⟨r,hr⟩:∃ r,r=row k:=⟨_,rfl⟩
     rw [← hr] at hidx hr1 hr2 hr3 HRG HRP
     clear hr
     obtain ⟨f,B,le,mo⟩:=r
     simp only [Row.cells] at hidx
     simp only at hr1 hr2 hr3 HRG HRP
     obtain ⟨g,hgg⟩:∃ g,wr.heap.size=g:=⟨_,rfl⟩
     have hgw:=HB.out.size
     rw [hgg] at hgw
     have HGW:=Sl.mk hgw
     by_cases he:fb=f
     ·have HE:=Sl.mk (HRG.out he)
      have HB3:Sl (Below w.heap.size w (wr.alloc (.cells #[.int .u8 f,.int .i64 B,.int .u64 le,.int .u64 mo] 214))):=⟨HB.out.alloc (by rw [hgg];exact hgw) _⟩
      have hcall:=hwide f B le mo hr1 hr2 _ (HV.out.below (Nat.le_refl _) HB3.out)
      clear HRG HRP hgw
      have he2:(fb:Int)=(f:Int):=by omega
      go_wp2_with fail
      refine hcall.mono ?_
      rintro e w4 ⟨rfl,HB4⟩
      have HB5:Sl (Below w.heap.size w w4):=⟨HB3.out.trans (HB4.out.mono HB3.out.size)⟩
      simp only [res3,List.drop_succ_cons,List.drop_zero]
      go_wp2
      go_ret3
      exact ⟨by rw [HE.out];rfl,HB5⟩
     ·have HP2:=Sl.mk (HRP.out he)
      clear HRG HRP hgw
      have he2:((fb:Int)=(f:Int))=False:=eq_false (by omega)
      go_wp2
      exact ⟨⟨k+1,by omega,by go_num,HP2,⟨HB.out.alloc (by rw [hgg];exact HGW.out) _⟩⟩,by simp [intOf];omega⟩
    ·have hge:((k:Int)<2)=False:=eq_false (by omega)
     obtain rfl:k=2:=by omega
     have HE:=Sl.mk (get_one x xs (by rw [HFB.out];exact past_none HP.out hfb128))
     rw [HFB.out] at HE
     go_wp2
     go_ret3
     exact ⟨by rw [HE.out];rfl,HB⟩
end Go.Proofs.YtlahonjmfecikaaGreatDoor.Mas
set_option maxRecDepth 100000
namespace Go.Proofs.YtlahonjmfecikaaGreatDoor.Mas
open Go.RowKit MaskPlain
theorem i64_and3 (n:Int):bits .and .i64 n 3=n % 4:=by
 have h3:(BitVec.ofInt 64 3).toNat=2 ^ 2-1:=by decide
 have key:(BitVec.ofInt 64 n &&& BitVec.ofInt 64 3).toNat=(n % ((2 ^ 64:Nat):Int)).toNat % 2 ^ 2:=by
  rw [BitVec.toNat_and,BitVec.toNat_ofInt,h3,Nat.and_two_pow_sub_one_eq_mod]
 show IntKind.i64.wrap ((BitVec.ofInt 64 n &&& BitVec.ofInt 64 3).toNat:Nat)=n % 4
 rw [key,IntKind.wrap_i64]
 omega
def rest4 (at':Int):Nat:=(at' % 4).toNat
theorem rest4_lt (at':Int):rest4 at'<4:=by unfold rest4;omega
set_option maxHeartbeats 2000000 in
theorem apply_any (key:List Nat) (at':Int) (v:Value) (bs:List Nat) (w:World) (hk:key.length=4) (hks:Small 256 key) (hv:SrcAt w v bs) (hsm:Small 256 bs) (hm:bs.length≤100000) :
 Calls Tryz.prog 170 #[.agg (u8s key).toArray,.int .i64 at',v] w fun e w'=>∃ g,e=.returned (.slice (some ⟨g,0,none⟩) bs.length bs.length)∧Sl (w.heap.size≤g)∧Sl (RowB w' g (turn key (rest4 at') bs))∧Sl (Below w.heap.size w w'):=by
 have f0:bits .and .i64 at' 3=((rest4 at':Nat):Int):=by rw [i64_and3];unfold rest4;omega
 have hK4:=rest4_lt at'
 obtain ⟨K,hK⟩:∃ K,rest4 at'=K:=⟨_,rfl⟩
 rw [hK] at f0 hK4 ⊢
 clear hK
 obtain ⟨a,cap,sb,so,rfl,hcap,ha,hc⟩:=hv
 obtain ⟨n,hn⟩:∃ n,bs.length=n:=⟨_,rfl⟩
 have HN:=Sl.mk hn
 rw [hn] at hcap ha hc hm ⊢
 have HSM:=Sl.mk hsm
 have HKL:=Sl.mk hk
 have HKS:=Sl.mk hks
 obtain ⟨g,hg⟩:∃ g,w.heap.size=g:=⟨_,rfl⟩
 obtain ⟨w1,hw1⟩:∃ w1,w.alloc (.cells (u8s key).toArray 59)=w1:=⟨_,rfl⟩
 have hs1:w1.heap.size=g+1:=by rw [← hw1,alloc_size,hg]
 have hrow:w1.heap[g]? = some (.cells (u8s key).toArray 59 (0,0)):=by rw [← hw1,← hg];exact alloc_new _ _ _ rfl
 have hmake:=make_u8 n n rfl (by omega) w1
 rw [hs1] at hmake
 obtain ⟨w2,hw2⟩:∃ w2,w1.alloc (.cells (u8s (zs n)).toArray 5)=w2:=⟨_,rfl⟩
 have HB1:Sl (Below g w w2):=⟨by rw [← hw2,← hw1,← hg];exact ((Below.refl _ _).alloc (Nat.le_refl _) _).alloc (by rw [alloc_size];omega) _⟩
 have HR1:Sl (RowB w2 (g+1) (tuTo key K bs 0)):=⟨by rw [tuTo_zero,HN.out,← hs1,← hw2];exact rowB_new w1 _⟩
 have HKR:Sl (w2.heap[g]? = some (.cells (u8s key).toArray 59 (0,0))):=⟨by rw [← hw2,alloc_old _ _ _ (by rw [hs1];omega)];exact hrow⟩
 have HC:Sl (∀ i,i<n→w2.cell? ⟨sb,so+i,none⟩=some (.int .u8 ((bs.getD i 0:Nat):Int))∧sb<g):=⟨fun i hi=>by
  have hlt:=block_lt_of_cell (hc i hi)
  rw [hg] at hlt
  exact ⟨by rw [HB1.out.cell (p:=⟨sb,so+i,none⟩) hlt];exact hc i hi,hlt⟩⟩
 rw [hw2] at hmake
 clear hw2 hc hn hsm hk hks hs1 hrow
 rw [hg]
 go_enter Tryz.func170,Tryz.ntmps170
 go_wp2
 go_loopw [17] (fun i wr=>∃ k:Nat,k≤n∧i=.int .i64 k∧Sl (RowB wr (g+1) (tuTo key K bs k))∧Sl (Below g w wr)∧Sl (wr.heap[g]? = some (.cells (u8s key).toArray 59 (0,0)))∧Sl (∀ i,i<n→wr.cell? ⟨sb,so+i,none⟩=some (.int .u8 ((bs.getD i 0:Nat):Int))∧sb<g)) (fun i _=>n-(intOf i).toNat)
 case atStart=>exact ⟨0,Nat.zero_le _,rfl,HR1,HB1,HKR,HC⟩
 case round =>
  obtain ⟨k,hk,rfl,HR,HB,HK,HS⟩:=hrel
  by_cases hlt:k<n
  ·have cw:=HR.out.cell k (by rw [tuTo_length _ _ _ _ (by rw [HN.out];exact hk),HN.out];exact hlt)
   have fw:=HR.out.froz k
   have cs:=(HS.out k hlt).1
   obtain rfl:=ha (by omega)
   have k0:(0:Int)≤(k:Int):=by omega
   have k1:(k:Int)<(n:Int):=by omega
   obtain ⟨j,hj⟩:∃ j,(K+k) % 4=j:=⟨_,rfl⟩
   have hj4:j<4:=by omega
   have q1:((K:Int)+(k:Int)) % 4=(j:Int):=by omega
   have q2:((K:Int)+(k:Int)).tmod 4=(j:Int):=by rw [Int.tmod_eq_emod_of_nonneg (by omega)];omega
   have q3:IntKind.i64.wrap ((K:Int)+(k:Int))=(K:Int)+(k:Int):=by rw [IntKind.wrap_i64];omega
   have ck:wr.cell? ⟨g,j,none⟩=some (.int .u8 ((key.getD j 0:Nat):Int)):=by rw [cell_of_row _ _ _ _ _ _ HK.out,List.getElem?_toArray];exact u8s_get key j (by rw [HKL.out];exact hj4)
   have hx:=u8_xor_nat (bs.getD k 0) (key.getD j 0) (HSM.out.getD (by omega) k) (HKS.out.getD (by omega) j)
   have HST:Sl ((tuTo key K bs k).set k (bs.getD k 0 ^^^ key.getD j 0)=tuTo key K bs (k+1)):=⟨by rw [← hj];exact tuTo_step key K bs k (by rw [HN.out];exact hlt)⟩
   have hne:g≠g+1:=by omega
   have hne2:sb≠g+1:=by have:=(HS.out k hlt).2;omega
   have HNE:=Sl.mk hne2
   obtain ⟨x,hxx⟩:∃ x,bs.getD k 0=x:=⟨_,rfl⟩
   obtain ⟨y,hyy⟩:∃ y,key.getD j 0=y:=⟨_,rfl⟩
   rw [hxx] at cs hx HST
   rw [hyy] at ck hx HST
   obtain ⟨z,hzz⟩:∃ z,x ^^^ y=z:=⟨_,rfl⟩
   rw [hzz] at hx HST
   clear hxx hyy hzz hj
   go_wp2
   go_region
   have HR3:Sl (RowB (wr.setCell ⟨g+1,k,none⟩ (.int .u8 (z:Int))).drew (g+1) (tuTo key K bs (k+1))):=⟨by rw [← HST.out];exact HR.out.set k z⟩
   have HB3:Sl (Below g w (wr.setCell ⟨g+1,k,none⟩ (.int .u8 (z:Int))).drew):=⟨(HB.out.setCell (p:=⟨g+1,k,none⟩) (Nat.le_succ _) _).drew⟩
   have HK3:Sl ((wr.setCell ⟨g+1,k,none⟩ (.int .u8 (z:Int))).drew.heap[g]? = some (.cells (u8s key).toArray 59 (0,0))):=⟨by
    show (wr.setCell ⟨g+1,k,none⟩ (.int .u8 (z:Int))).heap[g]? = _
    rw [heap_setCell_other _ _ _ _ hne];exact HK.out⟩
   have HS3:Sl (∀ i,i<n→(wr.setCell ⟨g+1,k,none⟩ (.int .u8 (z:Int))).drew.cell? ⟨sb,so+i,none⟩=some (.int .u8 ((bs.getD i 0:Nat):Int))∧sb<g):=⟨fun i hi=>by
    refine ⟨?_,(HS.out i hi).2⟩
    show (wr.setCell ⟨g+1,k,none⟩ (.int .u8 (z:Int))).cell? ⟨sb,so+i,none⟩=_
    rw [World.cell?_setCell_other (h:=fun e=>HNE.out (by injection e with e1;exact e1.symm))]
    exact (HS.out i hi).1⟩
   clear cw fw cs ck hx
   generalize (wr.setCell ⟨g+1,k,none⟩ (.int .u8 (z:Int))).drew=w3 at *
   go_wp2
   exact ⟨⟨k+1,by omega,by go_num,HR3,HB3,HK3,HS3⟩,by simp [intOf];omega⟩
  ·have hge:((k:Int)<(n:Int))=False:=eq_false (by omega)
   obtain rfl:k=n:=by omega
   have HT:Sl (tuTo key K bs k=turn key K bs):=⟨by rw [← HN.out];exact tuTo_all key K bs⟩
   have HR2:Sl (RowB wr (g+1) (turn key K bs)):=⟨by rw [← HT.out];exact HR.out⟩
   go_wp2
   go_ret
   exact ⟨_,rfl,⟨by omega⟩,HR2,HB⟩
end Go.Proofs.YtlahonjmfecikaaGreatDoor.Mas
set_option maxRecDepth 100000
namespace Go.Proofs.YtlahonjmfecikaaGreatDoor.Mas
open Go.RowKit MaskPlain
section
variable {P:Program} {md:Region.Mode} {ops:Array Oper} {Q:Exit→Act→World→Prop} {S:World→Prop}
end
inductive PutR (w:World) (o:Option (List Nat)):Ending→World→Prop where
 | yes (s:List Nat) (g cap:Nat) (w':World) (h:o=some s) (hs:Sl (SrcAt w' (.slice (some ⟨g,0,none⟩) s.length cap) s)) (hg:Sl (w.heap.size≤g)) (hb:Sl (Below w.heap.size w w')) :
    PutR w o (.returned (.tuple #[.slice (some ⟨g,0,none⟩) s.length cap,.int .i64 0])) w'
 | no (w':World) (h:o=none) (hb:Sl (Below w.heap.size w w')):PutR w o (.returned (.tuple #[.slice none 0 0,.int .i64 81])) w'
theorem row_put (k:Nat) (hk:k<2) (n:Nat) (h0:¬ n<126) (hp:∀ j,j<k→¬ n≤(row j).most) (h:n≤(row k).most):putL n=some ((row k).first :: be n (row k).behind):=by
 unfold putL
 match k,hk with
 | 0,_ =>
   have h1:n≤65535:=h
   rw [if_neg (by omega),if_neg h0,if_pos h1];rfl
 | 1,_ =>
   have h1:n≤9223372036854775807:=h
   have h2:¬ n≤65535:=hp 0 (by decide)
   rw [if_neg (by omega),if_neg h0,if_neg h2];rfl
theorem put_none (n:Nat) (hp:∀ j,j<2→¬ n≤(row j).most):putL n=none:=by
 have h2:¬ n≤9223372036854775807:=hp 1 (by decide)
 unfold putL
 rw [if_pos (by omega)]
set_option maxHeartbeats 2000000 in
theorem put_any (n:Nat) (w:World) (hg:Globs w):Calls Tryz.prog 171 #[.int .u64 n] w (PutR w (putL n)):=by
 have HI48:Sl ((Tryz.prog.info? 215).map (·.size)=some table.length):=⟨by kernel_rfl⟩
 have HG:=Sl.mk hg
 have HB0:Sl (Below w.heap.size w w):=⟨Below.refl _ _⟩
 have c2:w.cell? ⟨1,2,none⟩=some (.int .u64 126):=hg.t 2 _ rfl
 clear hg
 obtain ⟨o,ho⟩:∃ o,putL n=o:=⟨_,rfl⟩
 rw [ho]
 have HO:=Sl.mk ho
 clear ho
 go_enter Tryz.func171,Tryz.ntmps171
 by_cases h0:n<126
 ·have f1:IntKind.u8.wrap (n:Int)=(n:Int):=by rw [IntKind.wrap_u8'];omega
  have HP:Sl (o=some [n]):=⟨by rw [← HO.out];unfold putL;rw [if_neg (by omega),if_pos h0]⟩
  have h0':(n:Int)<126:=by omega
  go_wp2
  go_ret2
  refine .yes [n] w.heap.size 1 _ HP.out ⟨?_⟩ ⟨Nat.le_refl _⟩ ⟨(Below.refl _ _).alloc (Nat.le_refl _) _⟩
  exact RowB.src (rowB_new w [n])
 ·have h0':((n:Int)<126)=False:=eq_false (by omega)
  have H0:=Sl.mk h0
  clear h0
  go_wp2_with (first | (refine wpList_load_mid rfl 215 (.global 1) rfl 1 0 rfl table (.array 2 214) HG.out.t Tryz.underlying215 rfl HI48.out ?_))
  go_loopw [15] (fun i wr=>∃ k:Nat,k≤2∧i=.int .i64 k∧Sl (∀ j,j<k→¬ n≤(row j).most)∧Sl (Below w.heap.size w wr)) (fun i _=>2-(intOf i).toNat)
  case atStart=>exact ⟨0,Nat.zero_le _,rfl,⟨fun j hj=>absurd hj (Nat.not_lt_zero _)⟩,HB0⟩
  case round =>
   obtain ⟨k,hk,rfl,HP,HB⟩:=hrel
   by_cases hlt:k<2
   ·have hidx:=index_row k hlt
    obtain ⟨hr1,hr2,hr3⟩:=row_ok k
    have HRG:=Sl.mk (row_put k hlt n H0.out HP.out)
    have HRP:Sl (¬ n≤(row k).most→∀ j,j<k+1→¬ n≤(row j).most):=⟨fun hne j hj=>by
     by_cases e:j=k
     ·subst e;exact hne
     ·exact HP.out j (by omega)⟩
    obtain ⟨r,hr⟩:∃ r,r=row k:=⟨_,rfl⟩
    rw [← hr] at hidx hr1 hr2 hr3 HRG HRP
    clear hr
    obtain ⟨f,B,le,mo⟩:=r
    simp only [Row.cells] at hidx
    simp only at hr1 hr2 hr3 HRG HRP
    obtain ⟨g,hgg⟩:∃ g,wr.heap.size=g:=⟨_,rfl⟩
    have hgw:=HB.out.size
    rw [hgg] at hgw
    have HGW:=Sl.mk hgw
    by_cases he:n≤mo
    ·have HE:=Sl.mk (HRG.out he)
     have he2:(n:Int)≤(mo:Int):=by omega
     clear HRG HRP hgw
     go_wp2
     obtain ⟨R,hR⟩:∃ R,(wr.alloc (.cells #[.int .u8 (f:Int),.int .i64 (B:Int),.int .u64 (le:Int),.int .u64 (mo:Int)] 214)).drew=R:=⟨_,rfl⟩
     have HS0:Below w.heap.size w R∧R.heap[g]? = some (.cells #[.int .u8 (f:Int),.int .i64 (B:Int),.int .u64 (le:Int),.int .u64 (mo:Int)] 214 (0,0)):=⟨by rw [← hR];exact (HB.out.alloc (by rw [hgg];exact HGW.out) _).drew,by rw [← hR,← hgg];exact alloc_new _ _ _ rfl⟩
     refine wp_region_noPanic ?_
     refine wp_region_held (S:=fun V=>Below w.heap.size w V∧V.heap[g]? = some (.cells #[.int .u8 (f:Int),.int .i64 (B:Int),.int .u64 (le:Int),.int .u64 (mo:Int)] 214 (0,0))) (by kernel_rfl) ?_
     change wpAnyH _ _ _ _ _ _ _ _ (wr.alloc (.cells #[.int .u8 (f:Int),.int .i64 (B:Int),.int .u64 (le:Int),.int .u64 (mo:Int)] 214)).drew
     rw [hR]
     clear hR
     refine heldTake (d:=some 22) (op:=.fieldAddr 214 (.tmp 5) 0) (g:=none) 0 ?v0 rfl (by kernel_rfl) (by kernel_rfl) (by kernel_rfl) (by kernel_rfl) ?y0 HS0 ?_
     case y0=>intro o' ho W hS;simp only [execOp,ho];go_simp;try rfl
     simp only [Act.put,List.setIfInBounds_toArray,List.set_cons_zero,List.set_cons_succ]
     refine heldTake (d:=some 23) (op:=.load 5 (.tmp 22)) (g:=none) 1 ?v1 rfl (by kernel_rfl) (by kernel_rfl) (by kernel_rfl) (by kernel_rfl) ?y1 HS0 ?_
     case y1=>intro o' ho W hS;have cF:=cell_of_row _ _ 0 _ _ _ hS.2;have cB:=cell_of_row _ _ 1 _ _ _ hS.2;simp only [List.getElem?_toArray,List.getElem?_cons_zero,List.getElem?_cons_succ] at cF cB;simp only [execOp,ho];go_simp;try rfl
     simp only [Act.put,List.setIfInBounds_toArray,List.set_cons_zero,List.set_cons_succ]
     refine heldTake (d:=some 25) (op:=.move (.tmp 0)) (g:=none) 3 ?v3 rfl (by kernel_rfl) (by kernel_rfl) (by kernel_rfl) (by kernel_rfl) ?y3 HS0 ?_
     case y3=>intro o' ho W hS;simp only [execOp,ho];go_simp;try rfl
     simp only [Act.put,List.setIfInBounds_toArray,List.set_cons_zero,List.set_cons_succ]
     refine heldTake (d:=some 26) (op:=.fieldAddr 214 (.tmp 5) 1) (g:=none) 4 ?v4 rfl (by kernel_rfl) (by kernel_rfl) (by kernel_rfl) (by kernel_rfl) ?y4 HS0 ?_
     case y4=>intro o' ho W hS;simp only [execOp,ho];go_simp;try rfl
     simp only [Act.put,List.setIfInBounds_toArray,List.set_cons_zero,List.set_cons_succ]
     refine heldTake (d:=some 27) (op:=.load 3 (.tmp 26)) (g:=none) 5 ?v5 rfl (by kernel_rfl) (by kernel_rfl) (by kernel_rfl) (by kernel_rfl) ?y5 HS0 ?_
     case y5=>intro o' ho W hS;have cF:=cell_of_row _ _ 0 _ _ _ hS.2;have cB:=cell_of_row _ _ 1 _ _ _ hS.2;simp only [List.getElem?_toArray,List.getElem?_cons_zero,List.getElem?_cons_succ] at cF cB;simp only [execOp,ho];go_simp;try rfl
     simp only [Act.put,List.setIfInBounds_toArray,List.set_cons_zero,List.set_cons_succ]
     obtain ⟨A,hA⟩:∃ A,R.alloc (.cells #[.int .u8 (f:Int)] 5)=A:=⟨_,rfl⟩
     have HRA:Sl (RowB A R.heap.size [f]):=⟨by rw [← hA];exact rowB_new R [f]⟩
     have BA:Sl (Below R.heap.size R A):=⟨by rw [← hA];exact (Below.refl _ _).alloc (Nat.le_refl _) _⟩
     have HSB:∀ V V':World,(Below w.heap.size w V∧V.heap[g]? = some (.cells #[.int .u8 (f:Int),.int .i64 (B:Int),.int .u64 (le:Int),.int .u64 (mo:Int)] 214 (0,0)))→Below V.heap.size V V'→(Below w.heap.size w V'∧V'.heap[g]? = some (.cells #[.int .u8 (f:Int),.int .i64 (B:Int),.int .u64 (le:Int),.int .u64 (mo:Int)] 214 (0,0))):=fun V V' h hb=>⟨h.1.trans (hb.mono h.1.size),by rw [hb.block _ (Array.getElem?_eq_some_iff.1 h.2).1];exact h.2⟩
     have HSA:=HSB _ _ HS0 BA.out
     refine heldCA (di:=some 24) (opi:=.buildSlice 49 1 #[(0,.tmp 23)]) (dj:=some 28) (opj:=.call {callee:=.value (.func 163),args:=#[.tmp 25,.tmp 27],argTypes:=#[162,3]}) (ti:=49) (tj:=49) 2 6 (.slice (some ⟨R.heap.size,0,none⟩) 1 1) A 163 #[.int .u64 (n:Int),.int .i64 (B:Int)] rfl rfl (by kernel_rfl) ?y2 ?y6 HSA ?first ?second
     case y2=>intro o' ho ht;simp only [execOp,ho];go_simp;first | done | rw [hA] | rfl
     case y6=>intro o' ho ht;simp only [execOp,ho];go_simp;try rfl
     case first =>
      simp only [Act.put,List.setIfInBounds_toArray,List.set_cons_zero,List.set_cons_succ]
      refine heldCall (d:=some 28) (op:=.call {callee:=.value (.func 163),args:=#[.tmp 25,.tmp 27],argTypes:=#[162,3]}) (g:=none) 6 163 #[.int .u64 (n:Int),.int .i64 (B:Int)] rfl (by kernel_rfl) (by kernel_rfl) ?y6p ?_
      case y6p=>intro o' ho;simp only [execOp,ho];go_simp;try rfl
      refine (nb_any n B A hr1).mono ?_
      rintro e X ⟨rfl,HRX,HBX⟩
      have HSX0:=HSB _ _ HSA HBX.out
      refine ⟨_,rfl,HSX0,?_⟩
      simp only [Act.put,List.setIfInBounds_toArray,List.set_cons_zero,List.set_cons_succ]
      have hRle:w.heap.size≤R.heap.size:=HS0.1.size
      have h1:RowB X R.heap.size [f]:=HRA.out.below HBX.out
      have h2:RowB X A.heap.size (be n B):=HRX.out
      have hg2:g<R.heap.size:=(Array.getElem?_eq_some_iff.1 HS0.2).1
      obtain ⟨v1,X5,hr6,ho6,hg6⟩:=add_bytes (base:=w.heap.size) 49 h1 hRle h2 (by simp [be_length];omega) HSX0.1.size
      rw [be_length] at hr6
      have HB6:Below w.heap.size w X5:=HSX0.1.grown hg6 HSX0.1.size (fun k hk=>by injection hk with hk;rw [← hk];exact hRle)
      have HSX:Below w.heap.size w X5∧X5.heap[g]? = some (.cells #[.int .u8 (f:Int),.int .i64 (B:Int),.int .u64 (le:Int),.int .u64 (mo:Int)] 214 (0,0)):=⟨HB6,by rw [hg6.block _ (Array.getElem?_eq_some_iff.1 HSX0.2).1 (fun e=>by injection e with e;have h9:=(Array.getElem?_eq_some_iff.1 HS0.2).1;omega)];exact HSX0.2⟩
      obtain ⟨gv,cv,hv,hgv,hsv⟩:=own_src ho6 (by simp)
      subst hv
      refine heldRunT (d:=some 29) (op:=.call {callee:=.builtin .append,args:=#[.tmp 24,.tmp 28],argTypes:=#[49,49]}) (g:=none) (t:=49) 7 (.slice (some ⟨gv,0,none⟩) ([f]++be n B).length cv) X5 rfl (by kernel_rfl) (by kernel_rfl) ?y7p HSX ?_
      case y7p=>intro o' ho ht;simp only [execOp,ho,ht,resolve,invoke,builtin,Sem.run_bind,Sem.run_pure,Result.andThen_ok,List.map_toArray,List.map_cons,List.map_nil];refine (congrArg (fun r=>Result.andThen r _) hr6).trans ?_;rfl
      simp only [Act.put,List.setIfInBounds_toArray,List.set_cons_zero,List.set_cons_succ]
      refine heldTake (d:=some 2) (op:=.assign (.tmp 29)) (g:=none) 8 ?v8p rfl (by kernel_rfl) (by kernel_rfl) (by kernel_rfl) (by kernel_rfl) ?y8p HSX ?_
      case y8p=>intro o' ho W hS;simp only [execOp,ho];go_simp;try rfl
      simp only [Act.put,List.setIfInBounds_toArray,List.set_cons_zero,List.set_cons_succ]
      refine heldTake (d:=some 3) (op:=.assign (.const (.int .i64 0))) (g:=none) 9 ?v9p rfl (by kernel_rfl) (by kernel_rfl) (by kernel_rfl) (by kernel_rfl) ?y9p HSX ?_
      case y9p=>intro o' ho W hS;simp only [execOp,ho];go_simp;try rfl
      simp only [Act.put,List.setIfInBounds_toArray,List.set_cons_zero,List.set_cons_succ]
      refine wpAnyH_done (by kernel_rfl) ?_ _
      refine NoPanic.normal ?_
      go_wp2
      go_ret2
      exact .yes _ gv cv _ (HO.out.symm.trans HE.out) ⟨hsv⟩ ⟨hgv⟩ ⟨HB6⟩
     case second =>
      refine (nb_any n B R hr1).mono ?_
      rintro e X ⟨rfl,HRX,HBX⟩
      have HSX0:=HSB _ _ HS0 HBX.out
      refine ⟨_,rfl,HSX0,?_⟩
      simp only [Act.put,List.setIfInBounds_toArray,List.set_cons_zero,List.set_cons_succ]
      obtain ⟨Y,hY⟩:∃ Y,X.alloc (.cells #[.int .u8 (f:Int)] 5)=Y:=⟨_,rfl⟩
      have BY:Sl (Below X.heap.size X Y):=⟨by rw [← hY];exact (Below.refl _ _).alloc (Nat.le_refl _) _⟩
      have HSY:=HSB _ _ HSX0 BY.out
      have h1:RowB Y X.heap.size [f]:=by rw [← hY];exact rowB_new X [f]
      have h2:RowB Y R.heap.size (be n B):=HRX.out.below BY.out
      have hRle:w.heap.size≤X.heap.size:=HSX0.1.size
      have hg2:g<X.heap.size:=(Array.getElem?_eq_some_iff.1 HSX0.2).1
      refine heldRunT (d:=some 24) (op:=.buildSlice 49 1 #[(0,.tmp 23)]) (g:=none) (t:=49) 2 (.slice (some ⟨X.heap.size,0,none⟩) 1 1) Y rfl (by kernel_rfl) (by kernel_rfl) ?y2q HSY ?_
      case y2q=>intro o' ho ht;simp only [execOp,ho];go_simp;first | done | rw [hY] | rfl
      simp only [Act.put,List.setIfInBounds_toArray,List.set_cons_zero,List.set_cons_succ]
      obtain ⟨v1,X5,hr6,ho6,hg6⟩:=add_bytes (base:=w.heap.size) 49 h1 hRle h2 (by simp [be_length];omega) HSY.1.size
      rw [be_length] at hr6
      have HB6:Below w.heap.size w X5:=HSY.1.grown hg6 HSY.1.size (fun k hk=>by injection hk with hk;rw [← hk];exact hRle)
      have HSX:Below w.heap.size w X5∧X5.heap[g]? = some (.cells #[.int .u8 (f:Int),.int .i64 (B:Int),.int .u64 (le:Int),.int .u64 (mo:Int)] 214 (0,0)):=⟨HB6,by rw [hg6.block _ (Array.getElem?_eq_some_iff.1 HSY.2).1 (fun e=>by injection e with e;omega)];exact HSY.2⟩
      obtain ⟨gv,cv,hv,hgv,hsv⟩:=own_src ho6 (by simp)
      subst hv
      refine heldRunT (d:=some 29) (op:=.call {callee:=.builtin .append,args:=#[.tmp 24,.tmp 28],argTypes:=#[49,49]}) (g:=none) (t:=49) 7 (.slice (some ⟨gv,0,none⟩) ([f]++be n B).length cv) X5 rfl (by kernel_rfl) (by kernel_rfl) ?y7q HSX ?_
      case y7q=>intro o' ho ht;simp only [execOp,ho,ht,resolve,invoke,builtin,Sem.run_bind,Sem.run_pure,Result.andThen_ok,List.map_toArray,List.map_cons,List.map_nil];refine (congrArg (fun r=>Result.andThen r _) hr6).trans ?_;rfl
      simp only [Act.put,List.setIfInBounds_toArray,List.set_cons_zero,List.set_cons_succ]
      refine heldTake (d:=some 2) (op:=.assign (.tmp 29)) (g:=none) 8 ?v8q rfl (by kernel_rfl) (by kernel_rfl) (by kernel_rfl) (by kernel_rfl) ?y8q HSX ?_
      case y8q=>intro o' ho W hS;simp only [execOp,ho];go_simp;try rfl
      simp only [Act.put,List.setIfInBounds_toArray,List.set_cons_zero,List.set_cons_succ]
      refine heldTake (d:=some 3) (op:=.assign (.const (.int .i64 0))) (g:=none) 9 ?v9q rfl (by kernel_rfl) (by kernel_rfl) (by kernel_rfl) (by kernel_rfl) ?y9q HSX ?_
      case y9q=>intro o' ho W hS;simp only [execOp,ho];go_simp;try rfl
      simp only [Act.put,List.setIfInBounds_toArray,List.set_cons_zero,List.set_cons_succ]
      refine wpAnyH_done (by kernel_rfl) ?_ _
      refine NoPanic.normal ?_
      go_wp2
      go_ret2
      exact .yes _ gv cv _ (HO.out.symm.trans HE.out) ⟨hsv⟩ ⟨hgv⟩ ⟨HB6⟩
    ·have HP2:=Sl.mk (HRP.out he)
     clear HRG HRP hgw
     have he2:((n:Int)≤(mo:Int))=False:=eq_false (by omega)
     go_wp2
     exact ⟨⟨k+1,by omega,by go_num,HP2,⟨HB.out.alloc (by rw [hgg];exact HGW.out) _⟩⟩,by simp [intOf];omega⟩
   ·have hge:((k:Int)<2)=False:=eq_false (by omega)
    obtain rfl:k=2:=by omega
    have HN:=Sl.mk (HO.out.symm.trans (put_none n HP.out))
    go_wp2
    go_ret2
    exact .no _ HN.out HB
end Go.Proofs.YtlahonjmfecikaaGreatDoor.Mas
set_option maxRecDepth 100000
namespace Go.Proofs.YtlahonjmfecikaaGreatDoor.Mas
open Go.RowKit MaskPlain
set_option maxHeartbeats 2000000 in
theorem key_any (n:Nat) (w:World) (hn:n<4294967296):Calls Tryz.prog 146 #[.int .u32 n] w fun e w'=>e=.returned (.agg (u8s (be n 4)).toArray)∧Sl (Below w.heap.size w w'):=by
 have f1:IntKind.u64.wrap (n:Int)=(n:Int):=by rw [IntKind.wrap_u64];omega
 obtain ⟨g,hg⟩:∃ g,w.heap.size=g:=⟨_,rfl⟩
 go_enter Tryz.func146,Tryz.ntmps146
 go_upto_region 2 with fail
 obtain ⟨R,hR⟩:∃ R,((w.alloc (.cells (u8s (zs 4)).toArray 59)).alloc (.cells (u8s (zs 4)).toArray 59)).drew=R:=⟨_,rfl⟩
 have H0:R.heap[g]? = some (.cells (u8s (zs 4)).toArray 59 (0,0)):=by rw [← hR];show ((w.alloc (.cells (u8s (zs 4)).toArray 59)).alloc (.cells (u8s (zs 4)).toArray 59)).heap[g]? = _;rw [alloc_old _ _ _ (by rw [alloc_size];omega)];exact alloc_new _ _ _ hg.symm
 have HS0:Below g w R∧R.heap[g+1]? = some (.cells (u8s (zs 4)).toArray 59 (0,0))∧R.heap[g]? = some (.cells (u8s (zs 4)).toArray 59 (0,0)):=⟨by rw [← hR];exact (((Below.refl _ _).alloc (by omega) _).alloc (by rw [alloc_size];omega) _).drew,by rw [← hR];exact alloc_new _ _ _ (by rw [alloc_size,hg]),H0⟩
 clear H0
 refine wp_region_noPanic ?_
 refine wp_region_held (S:=fun V=>Below g w V) (by kernel_rfl) ?_
 change wpAnyH _ _ _ _ _ _ _ _ ((w.alloc (.cells (u8s (zs 4)).toArray 59)).alloc (.cells (u8s (zs 4)).toArray 59)).drew
 rw [hR]
 clear hR
 refine heldTake (d:=some 4) (op:=.slice 59 (.tmp 3) none none none) (g:=none) 0 ?v0 rfl (by kernel_rfl) (by kernel_rfl) (by kernel_rfl) (by kernel_rfl) ?y0 HS0.1 ?_
 case y0=>intro o' ho W hS;simp only [execOp,ho];go_simp;try rfl
 simp only [Act.put,List.setIfInBounds_toArray,List.set_cons_zero,List.set_cons_succ]
 refine heldTake (d:=some 5) (op:=.move (.tmp 0)) (g:=none) 1 ?v1 rfl (by kernel_rfl) (by kernel_rfl) (by kernel_rfl) (by kernel_rfl) ?y1 HS0.1 ?_
 case y1=>intro o' ho W hS;simp only [execOp,ho];go_simp;try rfl
 simp only [Act.put,List.setIfInBounds_toArray,List.set_cons_zero,List.set_cons_succ]
 refine heldTake (d:=some 6) (op:=.convert 26 162 (.tmp 5)) (g:=none) 2 ?v2 rfl (by kernel_rfl) (by kernel_rfl) (by kernel_rfl) (by kernel_rfl) ?y2 HS0.1 ?_
 case y2=>intro o' ho W hS;simp only [execOp,ho];go_simp;try rfl
 simp only [Act.put,List.setIfInBounds_toArray,List.set_cons_zero,List.set_cons_succ]
 refine heldCall (d:=some 7) (op:=.call {callee:=.value (.func 163),args:=#[.tmp 6,.const (.int .i64 4)],argTypes:=#[162,3]}) (g:=none) 3 163 #[.int .u64 (n:Int),.int .i64 4] rfl (by kernel_rfl) (by kernel_rfl) ?y3 ?_
 case y3=>intro o' ho;simp only [execOp,ho];go_simp;try rfl
 refine (nb_any n 4 R (by omega)).mono ?_
 rintro e X ⟨rfl,HRX,HBX⟩
 have hgR:g+1<R.heap.size:=(Array.getElem?_eq_some_iff.1 HS0.2.1).1
 have hX0:X.heap[g]? = some (.cells (u8s (zs 4)).toArray 59 (0,0)):=by rw [HBX.out.block _ (by omega)];exact HS0.2.2
 have hX1:X.heap[g+1]? = some (.cells (u8s (zs 4)).toArray 59 (0,0)):=by rw [HBX.out.block _ hgR];exact HS0.2.1
 have hBX:Below g w X:=HS0.1.trans (HBX.out.mono (by have:=HS0.1.size;omega))
 refine ⟨_,rfl,hBX,?_⟩
 simp only [Act.put,List.setIfInBounds_toArray,List.set_cons_zero,List.set_cons_succ]
 have hrun:=run_copy_row (P:=Tryz.prog) X 49 49 3 5 (g+1) 0 4 4 ⟨R.heap.size,0,none⟩ 4 4 (u8s (zs 4)).toArray 59 (u8s (be n 4)) Tryz.underlying49 size5 hX1 (by simp [be_length]) (fun j u hu=>by
  have hj:j<(be n 4).length:=by have:=(List.getElem?_eq_some_iff.1 hu).1;simpa using this
  rw [Addr.add_mid,Nat.zero_add,HRX.out.cell j hj,← hu,u8s_get _ j hj]) (by simp [be_length]) (u8s_one _)
 rw [show ((u8s (zs 4)).toArray.toList.take 0++u8s (be n 4)++(u8s (zs 4)).toArray.toList.drop (0+(u8s (be n 4)).length))=u8s (be n 4) by simp [be_length],show (u8s (be n 4)).length=4 by simp [be_length]] at hrun
 obtain ⟨Y,hY⟩:∃ Y,X.setRow (g+1) (u8s (be n 4)).toArray=Y:=⟨_,rfl⟩
 have hY1:Sl (Y.heap[g+1]? = some (.cells (u8s (be n 4)).toArray 59 (0,0))):=⟨by rw [← hY];exact setRow_heap _ _ _ _ _ _ hX1⟩
 have hY0:Sl (Y.heap[g]? = some (.cells (u8s (zs 4)).toArray 59 (0,0))):=⟨by rw [← hY,setRow_other _ _ _ _ (by omega)];exact hX0⟩
 have hBY:Sl (Below g w Y):=⟨by rw [← hY];exact below_setRow hBX (by omega) _⟩
 rw [hY] at hrun
 clear hY
 refine heldRunT (d:=some 8) (op:=.call {callee:=.builtin .copy,args:=#[.tmp 4,.tmp 7],argTypes:=#[49,49]}) (g:=none) (t:=3) 4 (.int .i64 4) Y rfl (by kernel_rfl) (by kernel_rfl) ?y4 hBY.out ?_
 case y4=>intro o' ho ht;simp only [execOp,ho,ht,resolve,invoke,builtin,Sem.run_bind,Sem.run_pure,Result.andThen_ok,List.map_toArray,List.map_cons,List.map_nil];refine (congrArg (fun r=>Result.andThen r _) hrun).trans ?_;rfl
 simp only [Act.put,List.setIfInBounds_toArray,List.set_cons_zero,List.set_cons_succ]
 refine wpAnyH_done (by kernel_rfl) ?_ _
 refine NoPanic.normal ?_
 have HI:Sl ((Tryz.prog.info? 59).map (·.size)=some (u8s (be n 4)).toArray.size):=⟨by
  have:(Tryz.prog.info? 59).map (·.size)=some 4:=by kernel_rfl
  simpa [be_length] using this⟩
 have HO:Sl ((u8s (zs 4)).toArray.size=(u8s (be n 4)).toArray.size):=⟨by simp [be_length]⟩
 go_wp2_with (first
  | (refine wpList_load_row rfl 59 (.tmp 3) rfl (g+1) rfl 59 _ (0,0) (.array 4 5) hY1.out Tryz.underlying59 rfl HI.out ?_)
  | (refine wpList_store_row rfl 59 (.tmp 2) (.tmp 9) rfl g _ rfl rfl 59 _ hY0.out HI.out HO.out (all_oneCell_toArray (u8s_one _)) ?_))
 refine bodyPost_ret (v:=.agg (u8s (be n 4)).toArray) ?_ rfl ⟨rfl,⟨below_setRow (by rw [hg];exact hBY.out) (by omega) _⟩⟩
 exact results_cell_row Tryz.results146 _ _ g 59 _ (0,0) (.array 4 5) rfl (setRow_heap _ _ _ _ _ _ hY0.out) Tryz.underlying59 rfl HI.out
end Go.Proofs.YtlahonjmfecikaaGreatDoor.Mas
set_option maxRecDepth 100000
namespace Go.Proofs.YtlahonjmfecikaaGreatDoor.Mas
open Go.RowKit MaskPlain
theorem put_yes (n:Nat) (s:List Nat) (w:World) (hg:Globs w) (h:putL n=some s) :
 Calls Tryz.prog 171 #[.int .u64 n] w fun e w'=>∃ g cap,e=.returned (.tuple #[.slice (some ⟨g,0,none⟩) s.length cap,.int .i64 0])∧Sl (SrcAt w' (.slice (some ⟨g,0,none⟩) s.length cap) s)∧Sl (Below w.heap.size w w') :=
 (put_any n w hg).mono fun _ _ hr=>by
  cases hr with
  | yes s' g cap w' h' hs hg hb =>
    rw [h] at h'
    injection h' with h'
    subst h'
    exact ⟨g,cap,rfl,hs,hb⟩
  | no w' h' hb=>rw [h] at h';cases h'
theorem get_ex (v:Value) (bs:List Nat) (n k e:Nat) (w:World) (hg:Globs w) (hv:SrcAt w v bs) (hsm:Small 256 bs) (hm:bs.length≤1000000) (h:getL bs=(n,k,e)) :
 Calls Tryz.prog 159 #[v] w fun x w'=>x=.returned (.tuple #[.int .u64 (n:Int),.int .i64 (k:Int),.int .i64 (e:Int)])∧Sl (Below w.heap.size w w') :=
 (get_any v bs w hg hv hsm hm).mono fun _ _ ⟨hx,hb⟩=>⟨by rw [hx,h];rfl,hb⟩
theorem key_ex (n:Nat) (l:List Nat) (w:World) (hn:n<4294967296) (h:be n 4=l):Calls Tryz.prog 146 #[.int .u32 n] w fun e w'=>e=.returned (.agg (u8s l).toArray)∧Sl (Below w.heap.size w w') :=
 (key_any n w hn).mono fun _ _ ⟨hx,hb⟩=>⟨by rw [hx,h],hb⟩
end Go.Proofs.YtlahonjmfecikaaGreatDoor.Mas
set_option maxRecDepth 100000
namespace Go.Proofs.YtlahonjmfecikaaGreatDoor.Mas
open Go.RowKit MaskPlain
end Go.Proofs.YtlahonjmfecikaaGreatDoor.Mas
set_option maxRecDepth 100000
namespace Go.Proofs.YtlahonjmfecikaaGreatDoor.Mas
open Go.RowKit MaskPlain
theorem bytes_tail (s:ByteArray) (x:Nat) (xs:List Nat) (h:bytes s=x :: xs) (k:Nat) (hk:k+1<s.size):(s[k+1]'hk).toNat=xs.getD k 0:=by
 have:=bytes_getD s (k+1) hk
 rw [h,List.getD_cons_succ] at this
 rw [this];rfl
structure GI (x:Nat) (xs:List Nat) (S k:Nat):Prop where
 len:k≤xs.length
 high:S=8→0<k→xs.getD 0 0<128
 zero:S=8→6≤k→val (xs.take 6)≠0
 two:S=2→2≤k→¬ val (xs.take 2)<126
 siz:(S=2∧x % 128=126)∨(S=8∧x % 128=127)
theorem GI.fin {x:Nat} {xs:List Nat} {S:Nat} (h:GI x xs S S):getL (x :: xs)=(val (xs.take S),1+S,0):=by
 rcases h.siz with ⟨rfl,hx⟩ | ⟨rfl,hx⟩
 ·have:=h.len
  rw [getL,if_neg (by omega),if_pos hx,if_neg (by omega),if_neg (h.two rfl (by omega))]
 ·exact get_whole x xs hx h.len (h.high rfl (by omega)) (h.zero rfl (by omega))
theorem GI.more {x:Nat} {xs:List Nat} {S k:Nat} (h:GI x xs S k) (hk:k<S) (hl:xs.length=k):getL (x :: xs)=(0,0,80):=by
 rcases h.siz with ⟨rfl,hx⟩ | ⟨rfl,hx⟩
 ·rw [getL,if_neg (by omega),if_pos hx,if_pos (by omega)]
 ·exact get_end x xs hx (by omega) (fun h1=>h.high rfl (by omega)) (fun h1=>h.zero rfl (by omega))
theorem GI.above {x:Nat} {xs:List Nat} (h:GI x xs 8 0) (hl:0<xs.length) (hc:128≤xs.getD 0 0):getL (x :: xs)=(0,0,81):=by
 rcases h.siz with ⟨h8,_⟩ | ⟨_,hx⟩
 ·omega
 ·exact get_high x xs hx hl hc
theorem GI.six {x:Nat} {xs:List Nat} (h:GI x xs 8 5) (hl:5<xs.length) (hc:val (xs.take 6)=0):getL (x :: xs)=(0,0,81):=by
 rcases h.siz with ⟨h8,_⟩ | ⟨_,hx⟩
 ·omega
 ·exact get_short x xs hx hl hc
theorem GI.one {x:Nat} {xs:List Nat} (h:GI x xs 2 1) (hl:1<xs.length) (hc:val (xs.take 2)<126):getL (x :: xs)=(0,0,81):=by
 rcases h.siz with ⟨_,hx⟩ | ⟨h8,_⟩
 ·rw [getL,if_neg (by omega),if_pos hx,if_neg (by omega),if_pos hc]
 ·omega
theorem GI.next {x:Nat} {xs:List Nat} {S k:Nat} (h:GI x xs S k) (hl:k<xs.length) (h1:S=8→k=0→xs.getD 0 0<128) (h2:S=8→k=5→val (xs.take 6)≠0) (h3:S=2→k=1→¬ val (xs.take 2)<126):GI x xs S (k+1) :=
 ⟨hl,fun e _=>by
  by_cases hk:k=0
  ·exact h1 e hk
  ·exact h.high e (by omega),fun e _=>by
  by_cases hk:k=5
  ·exact h2 e hk
  ·exact h.zero e (by omega),fun e _=>by
  by_cases hk:k=1
  ·exact h3 e hk
  ·exact h.two e (by omega),h.siz⟩
set_option maxHeartbeats 4000000 in
theorem refget8 (s:ByteArray) (x:Nat) (xs:List Nat) (hb:bytes s=x :: xs) (hfb:x % 128=127) (w:World) (hs:s.size≤100000):Calls Tryz.prog 125 #[.string s] w fun e w'=>e=.returned (res3 (getL (x :: xs)))∧w=w':=by
 have hsm:=bytes_small s
 have hlen:=bytes_length s
 rw [hb] at hsm hlen
 obtain ⟨n,hn⟩:∃ n,xs.length=n:=⟨_,rfl⟩
 have hsz:s.size=n+1:=by rw [← hlen,List.length_cons,hn]
 have h0:0<s.size:=by omega
 have hx:(s[0]'h0).toNat=x:=by
  have:=bytes_getD s 0 h0
  rw [hb,List.getD_cons_zero] at this
  rw [this];rfl
 have hx256:x<256:=hsm x (List.mem_cons_self ..)
 have HXS:Sl (Small 256 xs):=⟨fun y hy=>hsm y (List.mem_cons_of_mem _ hy)⟩
 have HB:=Sl.mk hb
 have HN:=Sl.mk hn
 have HSZ:=Sl.mk hsz
 have hmod:(x:Int) % 128=127:=by omega
 have HFB:=Sl.mk hfb
 clear hb hlen hsm hn hfb hsz
 go_enter Tryz.func125,Tryz.ntmps125
 have HX:Sl (x % 128=127):=HFB
 go_wp2
 go_loopw [7,8,9] (fun u z i wr=>∃ (k v:Nat) (zb:Bool),k≤8∧u=.int .u64 (v:Int)∧z=.bool zb∧i=.int .i64 k∧w=wr∧Sl (val (xs.take k)=v)∧Sl (zb=decide (v=0))∧Sl (GI x xs 8 k)) (fun _ _ i _=>8-(intOf i).toNat)
 case atStart=>exact ⟨0,0,true,Nat.zero_le _,rfl,rfl,rfl,rfl,⟨rfl⟩,⟨rfl⟩,⟨⟨Nat.zero_le _,fun _ h=>absurd h (by decide),fun _ h=>absurd h (by decide),fun _ h=>absurd h (by decide),.inr ⟨rfl,HX.out⟩⟩⟩⟩
 case round =>
  obtain ⟨k,v,zb,hk,rfl,rfl,rfl,rfl,HV,HZ,HG⟩:=hrel
  by_cases hlt:k<8
  ·by_cases hmore:k<n
   ·have hi:k+1<s.size:=by have:=HSZ.out;omega
    have hcc:=bytes_tail s x xs HB.out k hi
    have HCC:Sl (xs.getD k 0<256):=⟨HXS.out.getD (by omega) k⟩
    obtain ⟨c,hc⟩:∃ c,xs.getD k 0=c:=⟨_,rfl⟩
    have HC:=Sl.mk hc
    rw [hc] at hcc HCC
    have hc256:=HCC.out
    have hv64:v<72057594037927936:=by
     have h1:=val_lt (xs.take k) (HXS.out.take k)
     rw [HV.out,List.length_take,Nat.min_eq_left (by rw [HN.out];omega)] at h1
     have h2:256 ^ k≤256 ^ 7:=Nat.pow_le_pow_right (by omega) (by omega)
     omega
    have HV2:Sl (val (xs.take (k+1))=256*v+c):=⟨by rw [val_take _ _ (by rw [HN.out];exact hmore),HV.out,HC.out]⟩
    have hge:((k:Int)+1≥(s.size:Int))=False:=eq_false (by have:=HSZ.out;omega)
    have hi0:(0:Int)≤(k:Int)+1:=by omega
    have hi1:(k:Int)+1<(s.size:Int):=by omega
    clear hc
    by_cases hk0:k=0
    ·subst hk0
     by_cases hhi:128≤c
     ·have HR:=Sl.mk (GI.above HG.out (by rw [HN.out];exact hmore) (by rw [HC.out];exact hhi))
      have hq:((c:Int)≥128)=True:=eq_true (by omega)
      go_wp2
      go_ret3
      exact ⟨by rw [HR.out];rfl,rfl⟩
     ·have hq:((c:Int)≥128)=False:=eq_false (by omega)
      have HN2:Sl (GI x xs 8 1):=⟨HG.out.next (by rw [HN.out];exact hmore) (fun _ _=>by rw [HC.out];omega) (fun _ h=>absurd h (by decide)) (fun h=>absurd h (by decide))⟩
      by_cases hv0:v=0
      ·have hz:zb=true:=by rw [HZ.out,decide_eq_true hv0]
       subst hz
       by_cases hc0:c=0
       ·have hcb:((c:Int)==0)=true:=by simp;omega
        go_wp2
        exact ⟨⟨1,256*v+c,true,by omega,by go_num,rfl,by go_num,trivial,HV2,⟨by rw [decide_eq_true (by omega)]⟩,HN2⟩,by simp [intOf]<;>omega⟩
       ·have hcb:((c:Int)==0)=false:=by simp;omega
        go_wp2
        exact ⟨⟨1,256*v+c,false,by omega,by go_num,rfl,by go_num,trivial,HV2,⟨by rw [decide_eq_false (by omega)]⟩,HN2⟩,by simp [intOf]<;>omega⟩
      ·have hz:zb=false:=by rw [HZ.out,decide_eq_false hv0]
       subst hz
       go_wp2
       exact ⟨⟨1,256*v+c,false,by omega,by go_num,rfl,by go_num,trivial,HV2,⟨by rw [decide_eq_false (by omega)]⟩,HN2⟩,by simp [intOf]<;>omega⟩
    ·by_cases hk5:k=5
     ·subst hk5
      by_cases hz6:256*v+c=0
      ·have HR:=Sl.mk (GI.six HG.out (by rw [HN.out];exact hmore) (by rw [HV2.out];exact hz6))
       have hc0:((c:Int)==0)=true:=by simp;omega
       have hz:zb=true:=by rw [HZ.out,decide_eq_true (by omega)]
       subst hz
       go_wp2
       go_ret3
       exact ⟨by rw [HR.out];rfl,rfl⟩
      ·have HN2:Sl (GI x xs 8 6):=⟨HG.out.next (by rw [HN.out];exact hmore) (fun _ h=>absurd h (by decide)) (fun _ _=>by rw [HV2.out];exact hz6) (fun h=>absurd h (by decide))⟩
       by_cases hv0:v=0
       ·have hz:zb=true:=by rw [HZ.out,decide_eq_true hv0]
        subst hz
        by_cases hc0:c=0
        ·omega
        ·have hcb:((c:Int)==0)=false:=by simp;omega
         go_wp2
         exact ⟨⟨6,256*v+c,false,by omega,by go_num,rfl,by go_num,trivial,HV2,⟨by rw [decide_eq_false (by omega)]⟩,HN2⟩,by simp [intOf]<;>omega⟩
       ·have hz:zb=false:=by rw [HZ.out,decide_eq_false hv0]
        subst hz
        go_wp2
        exact ⟨⟨6,256*v+c,false,by omega,by go_num,rfl,by go_num,trivial,HV2,⟨by rw [decide_eq_false (by omega)]⟩,HN2⟩,by simp [intOf]<;>omega⟩
     ·have HN2:Sl (GI x xs 8 (k+1)):=⟨HG.out.next (by rw [HN.out];exact hmore) (fun _ h=>absurd h hk0) (fun _ h=>absurd h hk5) (fun h=>absurd h (by decide))⟩
      have hkb0:((k:Int)==0)=false:=by simp;omega
      have hkb5:((k:Int)==5)=false:=by simp;omega
      by_cases hv0:v=0
      ·have hz:zb=true:=by rw [HZ.out,decide_eq_true hv0]
       subst hz
       by_cases hc0:c=0
       ·have hcb:((c:Int)==0)=true:=by simp;omega
        go_wp2
        exact ⟨⟨k+1,256*v+c,true,by omega,by go_num,rfl,by go_num,trivial,HV2,⟨by rw [decide_eq_true (by omega)]⟩,HN2⟩,by simp [intOf]<;>omega⟩
       ·have hcb:((c:Int)==0)=false:=by simp;omega
        go_wp2
        exact ⟨⟨k+1,256*v+c,false,by omega,by go_num,rfl,by go_num,trivial,HV2,⟨by rw [decide_eq_false (by omega)]⟩,HN2⟩,by simp [intOf]<;>omega⟩
      ·have hz:zb=false:=by rw [HZ.out,decide_eq_false hv0]
       subst hz
       go_wp2
       exact ⟨⟨k+1,256*v+c,false,by omega,by go_num,rfl,by go_num,trivial,HV2,⟨by rw [decide_eq_false (by omega)]⟩,HN2⟩,by simp [intOf]<;>omega⟩
   ·obtain rfl:k=n:=by have:=HG.out.len;rw [HN.out] at this;omega
    have hge:((k:Int)+1≥(s.size:Int))=True:=eq_true (by have:=HSZ.out;omega)
    have HR:=Sl.mk (HG.out.more hlt HN.out)
    go_wp2
    go_ret3
    exact ⟨by rw [HR.out];rfl,rfl⟩
  ·obtain rfl:k=8:=by omega
   have HR:=Sl.mk HG.out.fin
   rw [HV.out] at HR
   go_wp2
   go_ret3
   exact ⟨by rw [HR.out];rfl,rfl⟩
set_option maxHeartbeats 4000000 in
theorem refget2 (s:ByteArray) (x:Nat) (xs:List Nat) (hb:bytes s=x :: xs) (hfb:x % 128=126) (w:World) (hs:s.size≤100000):Calls Tryz.prog 125 #[.string s] w fun e w'=>e=.returned (res3 (getL (x :: xs)))∧w=w':=by
 have hsm:=bytes_small s
 have hlen:=bytes_length s
 rw [hb] at hsm hlen
 obtain ⟨n,hn⟩:∃ n,xs.length=n:=⟨_,rfl⟩
 have hsz:s.size=n+1:=by rw [← hlen,List.length_cons,hn]
 have h0:0<s.size:=by omega
 have hx:(s[0]'h0).toNat=x:=by
  have:=bytes_getD s 0 h0
  rw [hb,List.getD_cons_zero] at this
  rw [this];rfl
 have hx256:x<256:=hsm x (List.mem_cons_self ..)
 have HXS:Sl (Small 256 xs):=⟨fun y hy=>hsm y (List.mem_cons_of_mem _ hy)⟩
 have HB:=Sl.mk hb
 have HN:=Sl.mk hn
 have HSZ:=Sl.mk hsz
 have hmod:(x:Int) % 128=126:=by omega
 have HFB:=Sl.mk hfb
 clear hb hlen hsm hn hfb hsz
 go_enter Tryz.func125,Tryz.ntmps125
 have HX:Sl (x % 128=126):=HFB
 go_wp2
 go_loopw [7,8,9] (fun u z i wr=>∃ (k v:Nat) (zb:Bool),k≤2∧u=.int .u64 (v:Int)∧z=.bool zb∧i=.int .i64 k∧w=wr∧Sl (val (xs.take k)=v)∧Sl (zb=decide (v=0))∧Sl (GI x xs 2 k)) (fun _ _ i _=>2-(intOf i).toNat)
 case atStart=>exact ⟨0,0,true,Nat.zero_le _,rfl,rfl,rfl,rfl,⟨rfl⟩,⟨rfl⟩,⟨⟨Nat.zero_le _,fun _ h=>absurd h (by decide),fun _ h=>absurd h (by decide),fun _ h=>absurd h (by decide),.inl ⟨rfl,HX.out⟩⟩⟩⟩
 case round =>
  obtain ⟨k,v,zb,hk,rfl,rfl,rfl,rfl,HV,HZ,HG⟩:=hrel
  by_cases hlt:k<2
  ·by_cases hmore:k<n
   ·have hi:k+1<s.size:=by have:=HSZ.out;omega
    have hcc:=bytes_tail s x xs HB.out k hi
    have HCC:Sl (xs.getD k 0<256):=⟨HXS.out.getD (by omega) k⟩
    obtain ⟨c,hc⟩:∃ c,xs.getD k 0=c:=⟨_,rfl⟩
    have HC:=Sl.mk hc
    rw [hc] at hcc HCC
    have hc256:=HCC.out
    have hv64:v<72057594037927936:=by
     have h1:=val_lt (xs.take k) (HXS.out.take k)
     rw [HV.out,List.length_take,Nat.min_eq_left (by rw [HN.out];omega)] at h1
     have h2:256 ^ k≤256 ^ 7:=Nat.pow_le_pow_right (by omega) (by omega)
     omega
    have HV2:Sl (val (xs.take (k+1))=256*v+c):=⟨by rw [val_take _ _ (by rw [HN.out];exact hmore),HV.out,HC.out]⟩
    have hge:((k:Int)+1≥(s.size:Int))=False:=eq_false (by have:=HSZ.out;omega)
    have hi0:(0:Int)≤(k:Int)+1:=by omega
    have hi1:(k:Int)+1<(s.size:Int):=by omega
    clear hc
    by_cases hk0:k=0
    ·subst hk0
     have HN2:Sl (GI x xs 2 1):=⟨HG.out.next (by rw [HN.out];exact hmore) (fun h=>absurd h (by decide)) (fun h=>absurd h (by decide)) (fun _ h=>absurd h (by decide))⟩
     by_cases hv0:v=0
     ·have hz:zb=true:=by rw [HZ.out,decide_eq_true hv0]
      subst hz
      by_cases hc0:c=0
      ·have hcb:((c:Int)==0)=true:=by simp;omega
       go_wp2
       exact ⟨⟨1,256*v+c,true,by omega,by go_num,rfl,by go_num,trivial,HV2,⟨by rw [decide_eq_true (by omega)]⟩,HN2⟩,by simp [intOf]<;>omega⟩
      ·have hcb:((c:Int)==0)=false:=by simp;omega
       go_wp2
       exact ⟨⟨1,256*v+c,false,by omega,by go_num,rfl,by go_num,trivial,HV2,⟨by rw [decide_eq_false (by omega)]⟩,HN2⟩,by simp [intOf]<;>omega⟩
     ·have hz:zb=false:=by rw [HZ.out,decide_eq_false hv0]
      subst hz
      go_wp2
      exact ⟨⟨1,256*v+c,false,by omega,by go_num,rfl,by go_num,trivial,HV2,⟨by rw [decide_eq_false (by omega)]⟩,HN2⟩,by simp [intOf]<;>omega⟩
    ·obtain hk1:k=1:=by omega
     subst hk1
     by_cases hlow:256*v+c<126
     ·have HR:=Sl.mk (GI.one HG.out (by rw [HN.out];exact hmore) (by rw [HV2.out];exact hlow))
      have hq:(256*(v:Int)+(c:Int)<126)=True:=eq_true (by omega)
      have hcz:((c:Int)==0)=decide (c=0):=by rw [Bool.eq_iff_iff];simp
      go_wp2
      all_goals (go_ret3;exact ⟨by rw [HR.out];rfl,rfl⟩)
     ·have hq:(256*(v:Int)+(c:Int)<126)=False:=eq_false (by omega)
      have HN2:Sl (GI x xs 2 2):=⟨HG.out.next (by rw [HN.out];exact hmore) (fun h=>absurd h (by decide)) (fun h=>absurd h (by decide)) (fun _ _=>by rw [HV2.out];exact hlow)⟩
      by_cases hv0:v=0
      ·have hz:zb=true:=by rw [HZ.out,decide_eq_true hv0]
       subst hz
       by_cases hc0:c=0
       ·omega
       ·have hcb:((c:Int)==0)=false:=by simp;omega
        go_wp2
        exact ⟨⟨2,256*v+c,false,by omega,by go_num,rfl,by go_num,trivial,HV2,⟨by rw [decide_eq_false (by omega)]⟩,HN2⟩,by simp [intOf]<;>omega⟩
      ·have hz:zb=false:=by rw [HZ.out,decide_eq_false hv0]
       subst hz
       go_wp2
       exact ⟨⟨2,256*v+c,false,by omega,by go_num,rfl,by go_num,trivial,HV2,⟨by rw [decide_eq_false (by omega)]⟩,HN2⟩,by simp [intOf]<;>omega⟩
   ·obtain rfl:k=n:=by have:=HG.out.len;rw [HN.out] at this;omega
    have hge:((k:Int)+1≥(s.size:Int))=True:=eq_true (by have:=HSZ.out;omega)
    have HR:=Sl.mk (HG.out.more hlt HN.out)
    go_wp2
    go_ret3
    exact ⟨by rw [HR.out];rfl,rfl⟩
  ·obtain rfl:k=2:=by omega
   have HR:=Sl.mk HG.out.fin
   rw [HV.out] at HR
   go_wp2
   go_ret3
   exact ⟨by rw [HR.out];rfl,rfl⟩
set_option maxHeartbeats 4000000 in
theorem refget_any (s:ByteArray) (w:World) (hs:s.size≤100000):Calls Tryz.prog 125 #[.string s] w fun e w'=>e=.returned (res3 (getL (bytes s)))∧w=w':=by
 have hsm:=bytes_small s
 have hlen:=bytes_length s
 cases hb:bytes s with
 | nil =>
   rw [hb] at hlen
   have h0:s.size=0:=by simpa using hlen.symm
   clear hlen hsm
   go_enter Tryz.func125,Tryz.ntmps125
   go_wp2
   go_ret3
   exact ⟨rfl,rfl⟩
 | cons x xs =>
   by_cases h126:x % 128<126
   ·rw [hb] at hsm hlen
    have HR:=Sl.mk (get_one x xs h126)
    have h0:0<s.size:=by rw [← hlen,List.length_cons];omega
    have hx:(s[0]'h0).toNat=x:=by
     have:=bytes_getD s 0 h0
     rw [hb,List.getD_cons_zero] at this
     rw [this];rfl
    have hx256:x<256:=hsm x (List.mem_cons_self ..)
    obtain ⟨fb,hfb⟩:∃ fb,x % 128=fb:=⟨_,rfl⟩
    rw [hfb] at h126 HR
    have hmod:(x:Int) % 128=(fb:Int):=by omega
    clear hb hlen hsm hfb
    go_enter Tryz.func125,Tryz.ntmps125
    go_wp2
    go_ret3
    exact ⟨by rw [HR.out];rfl,rfl⟩
   ·by_cases h127:x % 128=127
    ·exact refget8 s x xs hb h127 w hs
    ·exact refget2 s x xs hb (by omega) w hs
end Go.Proofs.YtlahonjmfecikaaGreatDoor.Mas
set_option maxRecDepth 100000
namespace Go.Proofs.YtlahonjmfecikaaGreatDoor.Mas
open Go.RowKit MaskPlain
def DG (n size:Nat) (m i:Nat) (s:ByteArray):Prop:=be n size=be m (size-i)++bytes s
theorem DG.next {n size m i:Nat} {s:ByteArray} (h:DG n size m i s) (hi:i<size):DG n size (m / 256) (i+1) (strOf [m % 256]++s):=by
 unfold DG at *
 rw [h,show size-i=(size-(i+1))+1 by omega,be,bytes_append,strOf_one _ (Nat.mod_lt _ (by decide)),List.append_assoc]
theorem DG.size {n size m i:Nat} {s:ByteArray} (h:DG n size m i s) (hi:i≤size):s.size=i:=by
 unfold DG at h
 have h2:=congrArg List.length h
 rw [be_length,List.length_append,be_length,bytes_length] at h2
 omega
theorem DG.fin {n size m:Nat} {s:ByteArray} (h:DG n size m size s):s=strOf (be n size):=by
 unfold DG at h
 rw [Nat.sub_self] at h
 rw [h]
 exact (strOf_bytes s).symm
end Go.Proofs.YtlahonjmfecikaaGreatDoor.Mas
set_option maxRecDepth 100000
namespace Go.Proofs.YtlahonjmfecikaaGreatDoor.Mas
open Go.RowKit MaskPlain
theorem rest4_pos {at' r:Int} (h:at'.tmod 4=r) (h0:¬ r<0):((rest4 at':Nat):Int)=r:=by
 subst h
 unfold rest4
 by_cases hp:0≤at'
 ·rw [Int.tmod_eq_emod_of_nonneg hp];omega
 ·obtain ⟨m,rfl⟩:∃ m,at' = -m:=⟨-at',by omega⟩
  rw [Int.neg_tmod,Int.tmod_eq_emod_of_nonneg (by omega)] at h0 ⊢
  omega
theorem rest4_neg {at' r:Int} (h:at'.tmod 4=r) (h0:r<0):((rest4 at':Nat):Int)=r+4∧-4<r:=by
 subst h
 unfold rest4
 by_cases hp:0≤at'
 ·rw [Int.tmod_eq_emod_of_nonneg hp] at h0;omega
 ·obtain ⟨m,rfl⟩:∃ m,at' = -m:=⟨-at',by omega⟩
  rw [Int.neg_tmod,Int.tmod_eq_emod_of_nonneg (by omega)] at h0 ⊢
  omega
set_option maxHeartbeats 2000000 in
theorem refapply_any (key:List Nat) (at':Int) (s:ByteArray) (w:World) (hk:key.length=4) (hks:Small 256 key) (hs:s.size≤100000) :
 Calls Tryz.prog 126 #[.agg (u8s key).toArray,.int .i64 at',.string s] w fun e w'=>e=.returned (.string (strOf (turn key (rest4 at') (bytes s))))∧Sl (Below w.heap.size w w'):=by
 have HKL:=Sl.mk hk
 have HKS:=Sl.mk hks
 obtain ⟨r,hr⟩:∃ r,at'.tmod 4=r:=⟨_,rfl⟩
 have HW1:Sl (Below w.heap.size w (w.alloc (.cells (u8s key).toArray 59))∧(w.alloc (.cells (u8s key).toArray 59)).heap[w.heap.size]? = some (.cells (u8s key).toArray 59 (0,0))):=⟨(Below.refl _ _).alloc (Nat.le_refl _) _,alloc_new _ _ _ rfl⟩
 have hK4:=rest4_lt at'
 clear hk hks
 by_cases hneg:r<0
 ·have hrr:=(rest4_neg hr hneg).1
  have hr4:=(rest4_neg hr hneg).2
  obtain ⟨K,hK⟩:∃ K,rest4 at'=K:=⟨_,rfl⟩
  rw [hK] at hrr hK4 ⊢
  clear hK
  have hadd:r+4=(K:Int):=hrr.symm
  clear hrr
  go_enter Tryz.func126,Tryz.ntmps126
  go_wp2
  go_loopw [8,9] (fun t i wr=>∃ (k:Nat) (o:ByteArray),k≤s.size∧i=.int .i64 k∧t=.string o∧Sl (bytes o=turn key K ((bytes s).take k))∧Sl (Below w.heap.size w wr∧wr.heap[w.heap.size]? = some (.cells (u8s key).toArray 59 (0,0)))) (fun _ i _=>s.size-(intOf i).toNat)
  case atStart=>exact ⟨0,ByteArray.empty,Nat.zero_le _,rfl,rfl,⟨rfl⟩,HW1⟩
  case round =>
   obtain ⟨k,o,hk,rfl,rfl,HO,HW⟩:=hrel
   by_cases hlt:k<s.size
   ·have hx:(s[k]'hlt).toNat=(bytes s).getD k 0:=by rw [bytes_getD s k hlt];rfl
    obtain ⟨x,hxx⟩:∃ x,(bytes s).getD k 0=x:=⟨_,rfl⟩
    have hx256:Sl (x<256):=⟨by rw [← hxx];exact (bytes_small s).getD (by omega) k⟩
    obtain ⟨j,hj⟩:∃ j,(K+k) % 4=j:=⟨_,rfl⟩
    have hj4:j<4:=by omega
    have q1:((K:Int)+(k:Int)) % 4=(j:Int):=by omega
    have q2:((K:Int)+(k:Int)).tmod 4=(j:Int):=by rw [Int.tmod_eq_emod_of_nonneg (by omega)];omega
    have q3:IntKind.i64.wrap ((K:Int)+(k:Int))=(K:Int)+(k:Int):=by rw [IntKind.wrap_i64];omega
    obtain ⟨y,hyy⟩:∃ y,key.getD j 0=y:=⟨_,rfl⟩
    have hy:=Sl.mk hyy
    have hxor:=u8_xor_nat x y hx256.out (by rw [← hyy];exact HKS.out.getD (by omega) j)
    obtain ⟨z,hzz⟩:∃ z,x ^^^ y=z:=⟨_,rfl⟩
    have hz256:z<256:=by
     rw [← hzz];exact Nat.xor_lt_two_pow (n:=8) hx256.out (by rw [← hyy];exact HKS.out.getD (by omega) j)
    have HN2:Sl (bytes (o++strOf [z])=turn key K ((bytes s).take (k+1))):=⟨by rw [bytes_append,HO.out,strOf_one z hz256,turn_take key K _ k (by rw [bytes_length];exact hlt),hxx,hj,hyy,hzz]⟩
    have HZZ:Sl (o.size+(strOf [z]).size≤100001):=⟨by
     have h1:=congrArg List.length HO.out
     rw [bytes_length,turn_length,List.length_take,bytes_length] at h1
     rw [strOf_size,h1]
     simp;omega⟩
    rw [hxx] at hx
    rw [hzz] at hxor
    have hk0:(0:Int)≤(k:Int):=by omega
    have hk1:(k:Int)<(s.size:Int):=by omega
    have hj0:(0:Int)≤(j:Int):=by omega
    have hj1:(j:Int)<4:=by omega
    clear hj hxx hyy hzz hz256
    go_upto_region 8 with fail
    obtain ⟨R,hR⟩:∃ R,wr.drew=R:=⟨_,rfl⟩
    have HS0:Below w.heap.size w R∧R.heap[w.heap.size]? = some (.cells (u8s key).toArray 59 (0,0)):=⟨by rw [← hR];exact HW.out.1.drew,by rw [← hR];exact HW.out.2⟩
    refine wp_region_noPanic ?_
    refine wp_region_held (S:=fun V=>Below w.heap.size w V∧V.heap[w.heap.size]? = some (.cells (u8s key).toArray 59 (0,0))) (by kernel_rfl) ?_
    change wpAnyH _ _ _ _ _ _ _ _ wr.drew
    rw [hR]
    clear hR
    refine heldTake (d:=some 22) (op:=.move (Operand.tmp 8)) (g:=none) 0 ?v0p rfl (by kernel_rfl) (by kernel_rfl) (by kernel_rfl) (by kernel_rfl) ?y0p HS0 ?_
    case y0p=>intro o' ho W hS;simp only [execOp,ho];go_simp;try rfl
    simp only [Act.put,List.setIfInBounds_toArray,List.set_cons_zero,List.set_cons_succ]
    refine heldTake (d:=some 23) (op:=.move (Operand.tmp 2)) (g:=none) 1 ?v1p rfl (by kernel_rfl) (by kernel_rfl) (by kernel_rfl) (by kernel_rfl) ?y1p HS0 ?_
    case y1p=>intro o' ho W hS;simp only [execOp,ho];go_simp;try rfl
    simp only [Act.put,List.setIfInBounds_toArray,List.set_cons_zero,List.set_cons_succ]
    refine heldTake (d:=some 24) (op:=.move (Operand.tmp 9)) (g:=none) 2 ?v2p rfl (by kernel_rfl) (by kernel_rfl) (by kernel_rfl) (by kernel_rfl) ?y2p HS0 ?_
    case y2p=>intro o' ho W hS;simp only [execOp,ho];go_simp;try rfl
    simp only [Act.put,List.setIfInBounds_toArray,List.set_cons_zero,List.set_cons_succ]
    refine heldTake (d:=some 25) (op:=.index 9 (Operand.tmp 23) (Operand.tmp 24)) (g:=none) 3 ?v3p rfl (by kernel_rfl) (by kernel_rfl) (by kernel_rfl) (by kernel_rfl) ?y3p HS0 ?_
    case y3p=>intro o' ho W hS;simp only [execOp,ho];go_simp;try rfl
    simp only [Act.put,List.setIfInBounds_toArray,List.set_cons_zero,List.set_cons_succ]
    refine heldTake (d:=some 26) (op:=.move (Operand.tmp 7)) (g:=none) 4 ?v4p rfl (by kernel_rfl) (by kernel_rfl) (by kernel_rfl) (by kernel_rfl) ?y4p HS0 ?_
    case y4p=>intro o' ho W hS;simp only [execOp,ho];go_simp;try rfl
    simp only [Act.put,List.setIfInBounds_toArray,List.set_cons_zero,List.set_cons_succ]
    refine heldTake (d:=some 27) (op:=.move (Operand.tmp 9)) (g:=none) 5 ?v5p rfl (by kernel_rfl) (by kernel_rfl) (by kernel_rfl) (by kernel_rfl) ?y5p HS0 ?_
    case y5p=>intro o' ho W hS;simp only [execOp,ho];go_simp;try rfl
    simp only [Act.put,List.setIfInBounds_toArray,List.set_cons_zero,List.set_cons_succ]
    refine heldTake (d:=some 28) (op:=.binOp BinOp.add 3 (Operand.tmp 26) (Operand.tmp 27) 3) (g:=none) 6 ?v6p rfl (by kernel_rfl) (by kernel_rfl) (by kernel_rfl) (by kernel_rfl) ?y6p HS0 ?_
    case y6p=>intro o' ho W hS;simp only [execOp,ho];go_simp;try rfl
    simp only [Act.put,List.setIfInBounds_toArray,List.set_cons_zero,List.set_cons_succ]
    refine heldTake (d:=some 29) (op:=.binOp BinOp.rem 3 (Operand.tmp 28) (Operand.const (Value.int IntKind.i64 4)) 3) (g:=none) 7 ?v7p rfl (by kernel_rfl) (by kernel_rfl) (by kernel_rfl) (by kernel_rfl) ?y7p HS0 ?_
    case y7p=>intro o' ho W hS;simp only [execOp,ho];go_simp;try rfl
    simp only [Act.put,List.setIfInBounds_toArray,List.set_cons_zero,List.set_cons_succ]
    refine heldTake (d:=some 30) (op:=.indexAddr 59 (Operand.tmp 3) (Operand.tmp 29)) (g:=none) 8 ?v8p rfl (by kernel_rfl) (by kernel_rfl) (by kernel_rfl) (by kernel_rfl) ?y8p HS0 ?_
    case y8p=>intro o' ho W hS;simp only [execOp,ho];go_simp;try rfl
    simp only [Act.put,List.setIfInBounds_toArray,List.set_cons_zero,List.set_cons_succ]
    refine heldTake (d:=some 31) (op:=.load 5 (Operand.tmp 30)) (g:=none) 9 ?v9p rfl (by kernel_rfl) (by kernel_rfl) (by kernel_rfl) (by kernel_rfl) ?y9p HS0 ?_
    case y9p=>intro o' ho W hS;have cW:=keycell hS.2 hj4 HKL.out hy.out;simp only [execOp,ho];go_simp;try rfl
    simp only [Act.put,List.setIfInBounds_toArray,List.set_cons_zero,List.set_cons_succ]
    refine heldTake (d:=some 32) (op:=.binOp BinOp.xor 5 (Operand.tmp 25) (Operand.tmp 31) 5) (g:=none) 10 ?v10p rfl (by kernel_rfl) (by kernel_rfl) (by kernel_rfl) (by kernel_rfl) ?y10p HS0 ?_
    case y10p=>intro o' ho W hS;simp only [execOp,ho];go_simp;try rfl
    simp only [Act.put,List.setIfInBounds_toArray,List.set_cons_zero,List.set_cons_succ]
    obtain ⟨X,hX⟩:∃ X,R.alloc (.cells #[.int .u8 (z:Int)] 5)=X:=⟨_,rfl⟩
    have HXB:Sl (Below R.heap.size R X):=⟨by rw [← hX];exact (Below.refl _ _).alloc (Nat.le_refl _) _⟩
    have HSX:Below w.heap.size w X∧X.heap[w.heap.size]? = some (.cells (u8s key).toArray 59 (0,0)):=⟨HS0.1.trans (HXB.out.mono HS0.1.size),by rw [HXB.out.block _ (Array.getElem?_eq_some_iff.1 HS0.2).1];exact HS0.2⟩
    have hst:(convert 49 9 (.slice (some ⟨R.heap.size,0,none⟩) 1 1)).run Tryz.prog X=.ok (.string (strOf [z])) X:=by
     have:=(rowB_new R [z]).str (k:=1) rfl
     have e0:(u8s [z]).toArray=#[.int .u8 (z:Int)]:=rfl
     rwa [e0,hX] at this
    refine heldRunT (d:=some 33) (op:=.buildSlice 49 1 #[(0,Operand.tmp 32)]) (g:=none) (t:=49) 11 (.slice (some ⟨R.heap.size,0,none⟩) 1 1) X rfl (by kernel_rfl) (by kernel_rfl) ?y11p HSX ?_
    case y11p=>intro o' ho _;simp only [execOp,ho];go_simp;first | done | rw [hX] | rfl
    simp only [Act.put,List.setIfInBounds_toArray,List.set_cons_zero,List.set_cons_succ]
    refine heldRunT (d:=some 34) (op:=.convert 49 9 (Operand.tmp 33)) (g:=none) (t:=9) 12 (.string (strOf [z])) X rfl (by kernel_rfl) (by kernel_rfl) ?y12p HSX ?_
    case y12p=>intro o' ho _;simp only [execOp,ho];go_simp;try rfl
    simp only [Act.put,List.setIfInBounds_toArray,List.set_cons_zero,List.set_cons_succ]
    refine heldRunT (d:=some 35) (op:=.binOp BinOp.add 9 (Operand.tmp 22) (Operand.tmp 34) 9) (g:=none) (t:=9) 13 (.string (o++strOf [z])) X rfl (by kernel_rfl) (by kernel_rfl) ?y13p HSX ?_
    case y13p=>intro o' ho _;simp only [execOp,ho];go_simp;first | done | (have:=HZZ.out;omega) | rfl
    simp only [Act.put,List.setIfInBounds_toArray,List.set_cons_zero,List.set_cons_succ]
    refine heldTake (d:=some 8) (op:=.assign (Operand.tmp 35)) (g:=none) 14 ?v14p rfl (by kernel_rfl) (by kernel_rfl) (by kernel_rfl) (by kernel_rfl) ?y14p HSX ?_
    case y14p=>intro o' ho W hS;simp only [execOp,ho];go_simp;try rfl
    simp only [Act.put,List.setIfInBounds_toArray,List.set_cons_zero,List.set_cons_succ]
    refine wpAnyH_done (by kernel_rfl) ?_ _
    refine NoPanic.normal ?_
    go_wp2
    exact ⟨⟨k+1,_,by omega,by go_num,rfl,HN2,⟨HSX⟩⟩,by simp [intOf]<;>omega⟩
   ·have hge:((k:Int)<(s.size:Int))=False:=eq_false (by omega)
    obtain rfl:k=s.size:=by omega
    have HE:Sl (o=strOf (turn key K (bytes s))):=⟨by
     have h1:=HO.out
     rw [List.take_of_length_le (by rw [bytes_length];exact Nat.le_refl _)] at h1
     rw [← h1,strOf_bytes]⟩
    have HBW:Sl (Below w.heap.size w wr):=⟨HW.out.1⟩
    go_wp2
    go_ret
    exact ⟨by rw [← HE.out];rfl,HBW⟩
 ·have hrr:=rest4_pos hr hneg
  obtain ⟨K,hK⟩:∃ K,rest4 at'=K:=⟨_,rfl⟩
  rw [hK] at hrr hK4 ⊢
  clear hK
  have hneg2:(r<0)=False:=eq_false hneg
  subst hrr
  go_enter Tryz.func126,Tryz.ntmps126
  go_wp2
  go_loopw [8,9] (fun t i wr=>∃ (k:Nat) (o:ByteArray),k≤s.size∧i=.int .i64 k∧t=.string o∧Sl (bytes o=turn key K ((bytes s).take k))∧Sl (Below w.heap.size w wr∧wr.heap[w.heap.size]? = some (.cells (u8s key).toArray 59 (0,0)))) (fun _ i _=>s.size-(intOf i).toNat)
  case atStart=>exact ⟨0,ByteArray.empty,Nat.zero_le _,rfl,rfl,⟨rfl⟩,HW1⟩
  case round =>
   obtain ⟨k,o,hk,rfl,rfl,HO,HW⟩:=hrel
   by_cases hlt:k<s.size
   ·have hx:(s[k]'hlt).toNat=(bytes s).getD k 0:=by rw [bytes_getD s k hlt];rfl
    obtain ⟨x,hxx⟩:∃ x,(bytes s).getD k 0=x:=⟨_,rfl⟩
    have hx256:Sl (x<256):=⟨by rw [← hxx];exact (bytes_small s).getD (by omega) k⟩
    obtain ⟨j,hj⟩:∃ j,(K+k) % 4=j:=⟨_,rfl⟩
    have hj4:j<4:=by omega
    have q1:((K:Int)+(k:Int)) % 4=(j:Int):=by omega
    have q2:((K:Int)+(k:Int)).tmod 4=(j:Int):=by rw [Int.tmod_eq_emod_of_nonneg (by omega)];omega
    have q3:IntKind.i64.wrap ((K:Int)+(k:Int))=(K:Int)+(k:Int):=by rw [IntKind.wrap_i64];omega
    obtain ⟨y,hyy⟩:∃ y,key.getD j 0=y:=⟨_,rfl⟩
    have hy:=Sl.mk hyy
    have hxor:=u8_xor_nat x y hx256.out (by rw [← hyy];exact HKS.out.getD (by omega) j)
    obtain ⟨z,hzz⟩:∃ z,x ^^^ y=z:=⟨_,rfl⟩
    have hz256:z<256:=by
     rw [← hzz];exact Nat.xor_lt_two_pow (n:=8) hx256.out (by rw [← hyy];exact HKS.out.getD (by omega) j)
    have HN2:Sl (bytes (o++strOf [z])=turn key K ((bytes s).take (k+1))):=⟨by rw [bytes_append,HO.out,strOf_one z hz256,turn_take key K _ k (by rw [bytes_length];exact hlt),hxx,hj,hyy,hzz]⟩
    have HZZ:Sl (o.size+(strOf [z]).size≤100001):=⟨by
     have h1:=congrArg List.length HO.out
     rw [bytes_length,turn_length,List.length_take,bytes_length] at h1
     rw [strOf_size,h1]
     simp;omega⟩
    rw [hxx] at hx
    rw [hzz] at hxor
    have hk0:(0:Int)≤(k:Int):=by omega
    have hk1:(k:Int)<(s.size:Int):=by omega
    have hj0:(0:Int)≤(j:Int):=by omega
    have hj1:(j:Int)<4:=by omega
    clear hj hxx hyy hzz hz256
    go_upto_region 8 with fail
    obtain ⟨R,hR⟩:∃ R,wr.drew=R:=⟨_,rfl⟩
    have HS0:Below w.heap.size w R∧R.heap[w.heap.size]? = some (.cells (u8s key).toArray 59 (0,0)):=⟨by rw [← hR];exact HW.out.1.drew,by rw [← hR];exact HW.out.2⟩
    refine wp_region_noPanic ?_
    refine wp_region_held (S:=fun V=>Below w.heap.size w V∧V.heap[w.heap.size]? = some (.cells (u8s key).toArray 59 (0,0))) (by kernel_rfl) ?_
    change wpAnyH _ _ _ _ _ _ _ _ wr.drew
    rw [hR]
    clear hR
    refine heldTake (d:=some 22) (op:=.move (Operand.tmp 8)) (g:=none) 0 ?v0q rfl (by kernel_rfl) (by kernel_rfl) (by kernel_rfl) (by kernel_rfl) ?y0q HS0 ?_
    case y0q=>intro o' ho W hS;simp only [execOp,ho];go_simp;try rfl
    simp only [Act.put,List.setIfInBounds_toArray,List.set_cons_zero,List.set_cons_succ]
    refine heldTake (d:=some 23) (op:=.move (Operand.tmp 2)) (g:=none) 1 ?v1q rfl (by kernel_rfl) (by kernel_rfl) (by kernel_rfl) (by kernel_rfl) ?y1q HS0 ?_
    case y1q=>intro o' ho W hS;simp only [execOp,ho];go_simp;try rfl
    simp only [Act.put,List.setIfInBounds_toArray,List.set_cons_zero,List.set_cons_succ]
    refine heldTake (d:=some 24) (op:=.move (Operand.tmp 9)) (g:=none) 2 ?v2q rfl (by kernel_rfl) (by kernel_rfl) (by kernel_rfl) (by kernel_rfl) ?y2q HS0 ?_
    case y2q=>intro o' ho W hS;simp only [execOp,ho];go_simp;try rfl
    simp only [Act.put,List.setIfInBounds_toArray,List.set_cons_zero,List.set_cons_succ]
    refine heldTake (d:=some 25) (op:=.index 9 (Operand.tmp 23) (Operand.tmp 24)) (g:=none) 3 ?v3q rfl (by kernel_rfl) (by kernel_rfl) (by kernel_rfl) (by kernel_rfl) ?y3q HS0 ?_
    case y3q=>intro o' ho W hS;simp only [execOp,ho];go_simp;try rfl
    simp only [Act.put,List.setIfInBounds_toArray,List.set_cons_zero,List.set_cons_succ]
    refine heldTake (d:=some 26) (op:=.move (Operand.tmp 7)) (g:=none) 4 ?v4q rfl (by kernel_rfl) (by kernel_rfl) (by kernel_rfl) (by kernel_rfl) ?y4q HS0 ?_
    case y4q=>intro o' ho W hS;simp only [execOp,ho];go_simp;try rfl
    simp only [Act.put,List.setIfInBounds_toArray,List.set_cons_zero,List.set_cons_succ]
    refine heldTake (d:=some 27) (op:=.move (Operand.tmp 9)) (g:=none) 5 ?v5q rfl (by kernel_rfl) (by kernel_rfl) (by kernel_rfl) (by kernel_rfl) ?y5q HS0 ?_
    case y5q=>intro o' ho W hS;simp only [execOp,ho];go_simp;try rfl
    simp only [Act.put,List.setIfInBounds_toArray,List.set_cons_zero,List.set_cons_succ]
    refine heldTake (d:=some 28) (op:=.binOp BinOp.add 3 (Operand.tmp 26) (Operand.tmp 27) 3) (g:=none) 6 ?v6q rfl (by kernel_rfl) (by kernel_rfl) (by kernel_rfl) (by kernel_rfl) ?y6q HS0 ?_
    case y6q=>intro o' ho W hS;simp only [execOp,ho];go_simp;try rfl
    simp only [Act.put,List.setIfInBounds_toArray,List.set_cons_zero,List.set_cons_succ]
    refine heldTake (d:=some 29) (op:=.binOp BinOp.rem 3 (Operand.tmp 28) (Operand.const (Value.int IntKind.i64 4)) 3) (g:=none) 7 ?v7q rfl (by kernel_rfl) (by kernel_rfl) (by kernel_rfl) (by kernel_rfl) ?y7q HS0 ?_
    case y7q=>intro o' ho W hS;simp only [execOp,ho];go_simp;try rfl
    simp only [Act.put,List.setIfInBounds_toArray,List.set_cons_zero,List.set_cons_succ]
    refine heldTake (d:=some 30) (op:=.indexAddr 59 (Operand.tmp 3) (Operand.tmp 29)) (g:=none) 8 ?v8q rfl (by kernel_rfl) (by kernel_rfl) (by kernel_rfl) (by kernel_rfl) ?y8q HS0 ?_
    case y8q=>intro o' ho W hS;simp only [execOp,ho];go_simp;try rfl
    simp only [Act.put,List.setIfInBounds_toArray,List.set_cons_zero,List.set_cons_succ]
    refine heldTake (d:=some 31) (op:=.load 5 (Operand.tmp 30)) (g:=none) 9 ?v9q rfl (by kernel_rfl) (by kernel_rfl) (by kernel_rfl) (by kernel_rfl) ?y9q HS0 ?_
    case y9q=>intro o' ho W hS;have cW:=keycell hS.2 hj4 HKL.out hy.out;simp only [execOp,ho];go_simp;try rfl
    simp only [Act.put,List.setIfInBounds_toArray,List.set_cons_zero,List.set_cons_succ]
    refine heldTake (d:=some 32) (op:=.binOp BinOp.xor 5 (Operand.tmp 25) (Operand.tmp 31) 5) (g:=none) 10 ?v10q rfl (by kernel_rfl) (by kernel_rfl) (by kernel_rfl) (by kernel_rfl) ?y10q HS0 ?_
    case y10q=>intro o' ho W hS;simp only [execOp,ho];go_simp;try rfl
    simp only [Act.put,List.setIfInBounds_toArray,List.set_cons_zero,List.set_cons_succ]
    obtain ⟨X,hX⟩:∃ X,R.alloc (.cells #[.int .u8 (z:Int)] 5)=X:=⟨_,rfl⟩
    have HXB:Sl (Below R.heap.size R X):=⟨by rw [← hX];exact (Below.refl _ _).alloc (Nat.le_refl _) _⟩
    have HSX:Below w.heap.size w X∧X.heap[w.heap.size]? = some (.cells (u8s key).toArray 59 (0,0)):=⟨HS0.1.trans (HXB.out.mono HS0.1.size),by rw [HXB.out.block _ (Array.getElem?_eq_some_iff.1 HS0.2).1];exact HS0.2⟩
    have hst:(convert 49 9 (.slice (some ⟨R.heap.size,0,none⟩) 1 1)).run Tryz.prog X=.ok (.string (strOf [z])) X:=by
     have:=(rowB_new R [z]).str (k:=1) rfl
     have e0:(u8s [z]).toArray=#[.int .u8 (z:Int)]:=rfl
     rwa [e0,hX] at this
    refine heldRunT (d:=some 33) (op:=.buildSlice 49 1 #[(0,Operand.tmp 32)]) (g:=none) (t:=49) 11 (.slice (some ⟨R.heap.size,0,none⟩) 1 1) X rfl (by kernel_rfl) (by kernel_rfl) ?y11q HSX ?_
    case y11q=>intro o' ho _;simp only [execOp,ho];go_simp;first | done | rw [hX] | rfl
    simp only [Act.put,List.setIfInBounds_toArray,List.set_cons_zero,List.set_cons_succ]
    refine heldRunT (d:=some 34) (op:=.convert 49 9 (Operand.tmp 33)) (g:=none) (t:=9) 12 (.string (strOf [z])) X rfl (by kernel_rfl) (by kernel_rfl) ?y12q HSX ?_
    case y12q=>intro o' ho _;simp only [execOp,ho];go_simp;try rfl
    simp only [Act.put,List.setIfInBounds_toArray,List.set_cons_zero,List.set_cons_succ]
    refine heldRunT (d:=some 35) (op:=.binOp BinOp.add 9 (Operand.tmp 22) (Operand.tmp 34) 9) (g:=none) (t:=9) 13 (.string (o++strOf [z])) X rfl (by kernel_rfl) (by kernel_rfl) ?y13q HSX ?_
    case y13q=>intro o' ho _;simp only [execOp,ho];go_simp;first | done | (have:=HZZ.out;omega) | rfl
    simp only [Act.put,List.setIfInBounds_toArray,List.set_cons_zero,List.set_cons_succ]
    refine heldTake (d:=some 8) (op:=.assign (Operand.tmp 35)) (g:=none) 14 ?v14q rfl (by kernel_rfl) (by kernel_rfl) (by kernel_rfl) (by kernel_rfl) ?y14q HSX ?_
    case y14q=>intro o' ho W hS;simp only [execOp,ho];go_simp;try rfl
    simp only [Act.put,List.setIfInBounds_toArray,List.set_cons_zero,List.set_cons_succ]
    refine wpAnyH_done (by kernel_rfl) ?_ _
    refine NoPanic.normal ?_
    go_wp2
    exact ⟨⟨k+1,_,by omega,by go_num,rfl,HN2,⟨HSX⟩⟩,by simp [intOf]<;>omega⟩
   ·have hge:((k:Int)<(s.size:Int))=False:=eq_false (by omega)
    obtain rfl:k=s.size:=by omega
    have HE:Sl (o=strOf (turn key K (bytes s))):=⟨by
     have h1:=HO.out
     rw [List.take_of_length_le (by rw [bytes_length];exact Nat.le_refl _)] at h1
     rw [← h1,strOf_bytes]⟩
    have HBW:Sl (Below w.heap.size w wr):=⟨HW.out.1⟩
    go_wp2
    go_ret
    exact ⟨by rw [← HE.out];rfl,HBW⟩
end Go.Proofs.YtlahonjmfecikaaGreatDoor.Mas
set_option maxRecDepth 100000
namespace Go.Proofs.YtlahonjmfecikaaGreatDoor.Mas
open Go.RowKit MaskPlain
theorem apply_len (key:List Nat) (at':Int) (v:Value) (bs:List Nat) (n:Nat) (w:World) (hk:key.length=4) (hks:Small 256 key) (hv:SrcAt w v bs) (hsm:Small 256 bs) (hm:n≤100000) (hn:bs.length=n) :
 Calls Tryz.prog 170 #[.agg (u8s key).toArray,.int .i64 at',v] w fun e w'=>∃ g,e=.returned (.slice (some ⟨g,0,none⟩) n n)∧Sl (RowB w' g (turn key (rest4 at') bs))∧Sl (Below w.heap.size w w'):=by
 subst hn
 exact (apply_any key at' v bs w hk hks hv hsm hm).mono fun _ _ ⟨g,he,_,hr,hb⟩=>⟨g,he,hr,hb⟩
end Go.Proofs.YtlahonjmfecikaaGreatDoor.Mas
set_option maxRecDepth 100000
namespace Go.Proofs.YtlahonjmfecikaaGreatDoor.Mas
open Go.RowKit MaskPlain
end Go.Proofs.YtlahonjmfecikaaGreatDoor.Mas
