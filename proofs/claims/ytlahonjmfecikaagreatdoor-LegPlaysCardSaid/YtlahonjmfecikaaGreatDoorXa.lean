/- Texts, joined. -/
import Derived.Test.YtlahonjmfecikaaGreatDoorRows
import Derived.WalkKit
import Derived.WalkSpells
import Derived.WalkLawsBesides
import Derived.Deep.WholeRow
import Derived.Deep.MidRow
import Derived.Deep.QuietTactic
import Derived.BigQuiet
import Derived.BigRegion
import Derived.Lib.Hide
import Derived.StillTailTactics
import Derived.Laws.BitsAllLaws
import Derived.IntWalk
import Derived.Laws.CopyOwn
import Derived.Laws.IdiomStrings
import Derived.Laws.BytesArg
import Derived.Lib.SlBytesConst
import Derived.Deep.RegionHeld3
import Derived.Stop.BytesEq
import Derived.Deep.DeepCutAuto
set_option maxRecDepth 100000
set_option maxHeartbeats 64000000
set_option linter.unusedVariables false
set_option linter.unusedSimpArgs false
open Go.Proofs.Tryz
theorem zl {α:Type _} {x:Array α} {i:Nat} {a:α} (h:x[i]? = some a):i<x.size:=(Array.getElem?_eq_some_iff.1 h).1
theorem zX {α:Sort _} (a:α):∃ z,a=z:=⟨a,rfl⟩
theorem aY:type_of% @Nat.le_refl:=@Nat.le_refl
theorem iw:type_of% @List.getD_eq_getElem?_getD:=@List.getD_eq_getElem?_getD
theorem lD:type_of% @List.getElem?_eq_getElem:=@List.getElem?_eq_getElem
theorem iP:type_of% @List.length_drop:=@List.length_drop
theorem iG:type_of% @decide_eq_true:=@decide_eq_true
theorem jB:type_of% @List.length_append:=@List.length_append
theorem iQ:type_of% @decide_eq_false:=@decide_eq_false
theorem nC:type_of% @List.take_of_length_le:=@List.take_of_length_le
theorem jE:type_of% @List.length_cons:=@List.length_cons
theorem mJ:type_of% @beq_eq_false_iff_ne:=@beq_eq_false_iff_ne
theorem dR:type_of% @eq_false:=@eq_false
theorem kQ:type_of% @List.length_take:=@List.length_take
theorem jd:type_of% @Nat.le_trans:=@Nat.le_trans
theorem yA:type_of% @List.eq_nil_of_length_eq_zero:=@List.eq_nil_of_length_eq_zero
theorem uK:type_of% @List.mem_cons_of_mem:=@List.mem_cons_of_mem
theorem pJ:type_of% @List.not_mem_nil:=@List.not_mem_nil
theorem rD:type_of% @List.mem_cons_self:=@List.mem_cons_self
theorem ku:type_of% @Nat.zero_le:=@Nat.zero_le
theorem uF:type_of% @List.mem_singleton:=@List.mem_singleton
theorem DI:type_of% @Classical.byContradiction:=@Classical.byContradiction
theorem Ec:type_of% @List.getElem?_append_left:=@List.getElem?_append_left
theorem Fq:type_of% @Int.tmod_eq_emod_of_nonneg:=@Int.tmod_eq_emod_of_nonneg
theorem yB:type_of% @List.take_succ_cons:=@List.take_succ_cons
theorem sN:type_of% @List.mem_append:=@List.mem_append
theorem DJ:type_of% @ByteArray.size_extract:=@ByteArray.size_extract
theorem Ed:type_of% @List.getElem?_toArray:=@List.getElem?_toArray
theorem Ee:type_of% @List.take_append_drop:=@List.take_append_drop
theorem Dx:type_of% @List.getD_cons_zero:=@List.getD_cons_zero
theorem Ae:type_of% @List.append_assoc:=@List.append_assoc
theorem Fv:type_of% @List.length_singleton:=@List.length_singleton
theorem Ef:type_of% @List.mem_of_mem_drop:=@List.mem_of_mem_drop
theorem Ap:type_of% @decide_eq_true_eq:=@decide_eq_true_eq
theorem yC:type_of% @List.append_nil:=@List.append_nil
theorem QB:type_of% @List.take_append_of_le_length:=@List.take_append_of_le_length
theorem JG:type_of% @Bool.and_eq_true:=@Bool.and_eq_true
theorem LV:type_of% @List.getElem?_eq_some_iff:=@List.getElem?_eq_some_iff
theorem Hf:type_of% @List.mem_of_mem_take:=@List.mem_of_mem_take
theorem lG:type_of% @congrArg:=@congrArg
theorem JH:type_of% @Int.eq_ofNat_of_zero_le:=@Int.eq_ofNat_of_zero_le
theorem JI:type_of% @decide_eq_false_iff_not:=@decide_eq_false_iff_not
theorem QC:type_of% @List.getElem?_append_right:=@List.getElem?_append_right
theorem Af:type_of% @List.drop_zero:=@List.drop_zero
theorem NP:type_of% @List.getElem?_take_of_lt:=@List.getElem?_take_of_lt
theorem DK:type_of% @List.cons_append:=@List.cons_append
theorem Dy:type_of% @Option.map_some:=@Option.map_some
theorem vT:type_of% @Nat.zero_add:=@Nat.zero_add
theorem Dz:type_of% @Bool.false_and:=@Bool.false_and
theorem Eg:type_of% @List.length_nil:=@List.length_nil
theorem Fz:type_of% @Nat.not_lt_zero:=@Nat.not_lt_zero
theorem Hg:type_of% @List.getElem_mem:=@List.getElem_mem
theorem QD:type_of% @ByteArray.size_append:=@ByteArray.size_append
theorem LW:type_of% @List.getElem?_drop:=@List.getElem?_drop
theorem DN:type_of% @List.mem_cons:=@List.mem_cons
theorem NQ:type_of% @Nat.lt_of_lt_of_le:=@Nat.lt_of_lt_of_le
theorem Hl:type_of% @Bool.and_false:=@Bool.and_false
theorem QK:type_of% @List.getElem_of_mem:=@List.getElem_of_mem
theorem NR:type_of% @List.all_eq_true:=@List.all_eq_true
theorem QE:type_of% @of_decide_eq_true:=@of_decide_eq_true
theorem LX:type_of% @Nat.min_eq_left:=@Nat.min_eq_left
theorem JF:type_of% @Bool.true_and:=@Bool.true_and
theorem JJ:type_of% @List.map_cons:=@List.map_cons
theorem UM:type_of% @Bool.false_eq_true:=@Bool.false_eq_true
theorem JK:type_of% @Nat.lt_irrefl:=@Nat.lt_irrefl
theorem QF:type_of% @Option.some.inj:=@Option.some.inj
theorem QG:type_of% @List.foldl_cons:=@List.foldl_cons
theorem WX:type_of% @List.mem_append_right:=@List.mem_append_right
theorem NS:type_of% @UInt8.toNat_lt:=@UInt8.toNat_lt
theorem UN:type_of% @List.size_toArray:=@List.size_toArray
theorem Xj:type_of% @List.drop_of_length_le:=@List.drop_of_length_le
theorem QL:type_of% @Bool.eq_iff_iff:=@Bool.eq_iff_iff
theorem QH:type_of% @List.take_zero:=@List.take_zero
theorem QM:type_of% @List.length_set:=@List.length_set
theorem WY:type_of% @List.drop_succ_cons:=@List.drop_succ_cons
theorem QN:type_of% @List.drop_drop:=@List.drop_drop
theorem Xk:type_of% @Bool.or_eq_false_iff:=@Bool.or_eq_false_iff
theorem UW:type_of% @List.map_toArray:=@List.map_toArray
theorem NT:type_of% @List.map_nil:=@List.map_nil
theorem UO:type_of% @Nat.add_assoc:=@Nat.add_assoc
namespace bg
section
variable {b:Nat}
abbrev St:=Nat×Nat×Nat
def s0:St:=(0,128,191)
def lead (b:Nat):Option St :=
 if b<128 then some s0 else if b<194 then none else if b<224 then some (1,128,191)
 else if b=224 then some (2,160,191) else if b=237 then some (2,128,159) else if b<240 then some (2,128,191)
 else if b=240 then some (3,144,191) else if b<244 then some (3,128,191) else if b=244 then some (3,128,143) else none
def jh (s:St) (b:Nat):Option St:=if s.1=0 then lead b else if s.2.1≤b∧b≤s.2.2 then some (s.1-1,128,191) else none
def dP (s:St):List Nat→Nat
 | []=>0
 | b :: r=>match jh s b with
   | none=>0
   | some t=>dP t r+1
def dK (s:St):List Nat→Option St
 | []=>some s
 | b :: r=>match jh s b with
   | none=>none
   | some t=>dK t r
def dH (s:St):List Nat→Nat
 | []=>0
 | b :: r=>match jh s b with
   | none=>0
   | some t=>dH t r+if t.1=0 then 1 else 0
theorem mX (l m:List Nat) (s:St):dK s (l++m)=(dK s l).bind fun t=>dK t m:=by
 induction l generalizing s with
 | nil=>rfl
 | cons b r ih =>
   simp only [DK,dK];cases jh s b with
   | none=>rfl
   | some t=>exact ih t
theorem uM (l m:List Nat) (s:St):dP s (l++m)=match dK s l with | none=>dP s l | some t=>l.length+dP t m:=by
 induction l generalizing s with
 | nil=>simp [dK]
 | cons b r ih =>
   simp only [DK,dK,dP];cases jh s b with
   | none=>rfl
   | some t =>
     simp only [ih t];cases dK t r with
     | none=>rfl
     | some u=>simp only [jE];omega
theorem uN (l m:List Nat) (s:St):dH s (l++m)=match dK s l with | none=>dH s l | some t=>dH s l+dH t m:=by
 induction l generalizing s with
 | nil=>simp [dK,dH]
 | cons b r ih =>
   simp only [DK,dK,dH];cases jh s b with
   | none=>rfl
   | some t =>
     simp only [ih t];cases dK t r with
     | none=>rfl
     | some u=>simp only;omega
theorem pK (l:List Nat) (s:St):dP s l≤l.length:=by
 induction l generalizing s with
 | nil=>exact aY _
 | cons b r ih =>
   simp only [dP];cases jh s b with
   | none=>exact ku _
   | some t=>simp only [jE];have:=ih t;omega
theorem Bf (l:List Nat) (s:St):(dK s l).isSome=true↔dP s l=l.length:=by
 induction l generalizing s with
 | nil=>simp [dK,dP]
 | cons b r ih =>
   simp only [dP,dK];cases jh s b with
   | none=>simp
   | some t=>simp only [jE];rw [ih t];omega
def Ok (s:St):Prop:=s=s0∨s=(1,128,191)∨s=(2,128,191)∨s=(2,160,191)∨s=(2,128,159)∨s=(3,128,191)∨s=(3,144,191)∨s=(3,128,143)
theorem Aq {t:St} (h:lead b=some t):Ok t:=by
 unfold lead at h
 repeat' split at h
 all_goals first | (injection h with h;subst h;unfold Ok s0;simp) | cases h
theorem QO {s t:St} (hs:Ok s) (h:jh s b=some t):Ok t:=by
 unfold jh at h;split at h
 ·exact Aq h
 ·split at h
  ·injection h with h
   subst h;rcases hs with rfl | rfl | rfl | rfl | rfl | rfl | rfl | rfl<;>simp [Ok,s0]
  ·cases h
def eP (n:Int):Option (List Nat) :=
 if n<0∨n>1114111∨(55296≤n∧n≤57343) then none
 else if n<128 then some [n.toNat]
 else if n<2048 then some [192+n.toNat / 64,128+n.toNat % 64]
 else if n<65536 then some [224+n.toNat / 4096,128+n.toNat / 64 % 64,128+n.toNat % 64]
 else some [240+n.toNat / 262144,128+n.toNat / 4096 % 64,128+n.toNat / 64 % 64,128+n.toNat % 64]
def fZ (b:Nat):Nat:=if b<128 then 1 else if 192≤b∧b<224 then 2 else if 224≤b∧b<240 then 3 else if 240≤b∧b<248 then 4 else 0
def oJ (m:Nat):List Nat→Nat
 | []=>0
 | b :: r=>r.foldl (fun v c=>64*v+c % 64) (b % m)
def iZ (s:List Nat):Nat :=
 let n:=fZ (s.headD 0)
 if n=0∨s.length<n then 0 else if eP (oJ (match n with | 1=>256 | 2=>32 | 3=>16 | _=>8) (s.take n))=some (s.take n) then n else 0
def fD (s:List Nat):Nat :=
 match s with
 | []=>0
 | b :: r=>match lead b with
   | none=>0
   | some t=>match t.1,r with
     | 0,_=>1
     | 1,c :: _=>if t.2.1≤c∧c≤t.2.2 then 2 else 0
     | 2,c :: d :: _=>if (t.2.1≤c∧c≤t.2.2)∧128≤d∧d≤191 then 3 else 0
     | 3,c :: d :: e :: _=>if (t.2.1≤c∧c≤t.2.2)∧(128≤d∧d≤191)∧128≤e∧e≤191 then 4 else 0
     | _,_=>0
theorem QS (h:b<128):lead b=some s0:=by unfold lead;rw [if_pos h]
theorem Ho (h1:194≤b) (h2:b<224):lead b=some (1,128,191):=by
 unfold lead;rw [if_neg (by omega),if_neg (by omega),if_pos h2]
theorem yD (h1:128≤b) (h2:b<194):lead b=none:=by
 unfold lead;rw [if_neg (by omega),if_pos h2]
def UP (b:Nat):Nat:=if b=224 then 160 else 128
def UQ (b:Nat):Nat:=if b=237 then 159 else 191
theorem vU (h1:224≤b) (h2:b<240):lead b=some (2,UP b,UQ b):=by
 unfold lead UP UQ;rw [if_neg (by omega),if_neg (by omega),if_neg (by omega)];by_cases e:b=224
 ·rw [if_pos e,if_pos e,if_neg (by omega)]
 ·rw [if_neg e,if_neg e]
  by_cases f:b=237
  ·rw [if_pos f,if_pos f]
  ·rw [if_neg f,if_neg f,if_pos h2]
def QI (b:Nat):Nat:=if b=240 then 144 else 128
def QJ (b:Nat):Nat:=if b=244 then 143 else 191
theorem qX (h1:240≤b) (h2:b<245):lead b=some (3,QI b,QJ b):=by
 unfold lead QI QJ;rw [if_neg (by omega),if_neg (by omega),if_neg (by omega),if_neg (by omega),if_neg (by omega),if_neg (by omega)];by_cases e:b=240
 ·rw [if_pos e,if_pos e,if_neg (by omega)]
 ·rw [if_neg e,if_neg e]
  by_cases f:b=244
  ·rw [if_neg (by omega),if_pos f,if_pos f]
  ·rw [if_pos (by omega),if_neg f]
theorem Bg (h1:245≤b):lead b=none:=by
 unfold lead;rw [if_neg (by omega),if_neg (by omega),if_neg (by omega),if_neg (by omega),if_neg (by omega),if_neg (by omega),if_neg (by omega),if_neg (by omega),if_neg (by omega)]
theorem NU (n:Nat) (h:n<128):eP n=some [n]:=by
 unfold eP;rw [if_neg (by omega),if_pos (by omega)];simp
theorem QT (n:Nat) (h1:128≤n) (h2:n<2048):eP n=some [192+n / 64,128+n % 64]:=by
 unfold eP;rw [if_neg (by omega),if_neg (by omega),if_pos (by omega)];simp
theorem UX (n:Nat) (h1:2048≤n) (h2:n<65536) (h3:n<55296∨57343<n):eP n=some [224+n / 4096,128+n / 64 % 64,128+n % 64]:=by
 unfold eP;rw [if_neg (by omega),if_neg (by omega),if_neg (by omega),if_pos (by omega)];simp
theorem Xl (n:Nat) (h1:65536≤n) (h2:n≤1114111):eP n=some [240+n / 262144,128+n / 4096 % 64,128+n / 64 % 64,128+n % 64]:=by
 unfold eP;rw [if_neg (by omega),if_neg (by omega),if_neg (by omega),if_neg (by omega)];simp
theorem nT (n:Nat) (h:1114111<n∨(55296≤n∧n≤57343)):eP n=none:=by
 unfold eP;rw [if_pos (by omega)]
theorem w2 (b c:Nat) (h1:192≤b) (h2:b<224):eP ((64*(b % 32)+c % 64:Nat):Int)=some [b,c]↔194≤b∧128≤c∧c≤191:=by
 by_cases h:64*(b % 32)+c % 64<128
 ·rw [NU _ h];simp;omega
 ·rw [QT _ (by omega) (by omega)]
  simp only [Option.some.injEq,List.cons.injEq,and_true];omega
theorem sO (b:Nat):(b=224∧UP b=160)∨(b≠224∧UP b=128):=by unfold UP;split<;>simp_all
theorem sQ (b:Nat):(b=237∧UQ b=159)∨(b≠237∧UQ b=191):=by unfold UQ;split<;>simp_all
theorem sS (b:Nat):(b=240∧QI b=144)∨(b≠240∧QI b=128):=by unfold QI;split<;>simp_all
theorem sU (b:Nat):(b=244∧QJ b=143)∨(b≠244∧QJ b=191):=by unfold QJ;split<;>simp_all
theorem w3 (b c d:Nat) (h1:224≤b) (h2:b<240):eP ((64*(64*(b % 16)+c % 64)+d % 64:Nat):Int)=some [b,c,d]↔(UP b≤c∧c≤UQ b)∧128≤d∧d≤191:=by
 have hL:=sO b;have hH:=sQ b;generalize UP b=L at *;generalize UQ b=H at *;generalize hv:64*(64*(b % 16)+c % 64)+d % 64=v;by_cases k1:v<128
 ·rw [NU _ k1];exact ⟨fun h=>by simp at h,fun h=>by exfalso;omega⟩
 ·by_cases k2:v<2048
  ·rw [QT _ (by omega) k2];exact ⟨fun h=>by simp at h,fun h=>by exfalso;omega⟩
  ·by_cases k3:55296≤v∧v≤57343
   ·rw [nT _ (.inr k3)];exact ⟨fun h=>by simp at h,fun h=>by exfalso;omega⟩
   ·rw [UX _ (by omega) (by omega) (by omega)]
    simp only [Option.some.injEq,List.cons.injEq,and_true];omega
theorem w4 (b c d e:Nat) (h1:240≤b) (h2:b<248):eP ((64*(64*(64*(b % 8)+c % 64)+d % 64)+e % 64:Nat):Int)=some [b,c,d,e]↔b<245∧(QI b≤c∧c≤QJ b)∧(128≤d∧d≤191)∧128≤e∧e≤191:=by
 have hL:=sS b;have hH:=sU b;generalize QI b=L at *;generalize QJ b=H at *;generalize hv:64*(64*(64*(b % 8)+c % 64)+d % 64)+e % 64=v;by_cases k1:v<128
 ·rw [NU _ k1];exact ⟨fun h=>by simp at h,fun h=>by exfalso;omega⟩
 ·by_cases k2:v<2048
  ·rw [QT _ (by omega) k2];exact ⟨fun h=>by simp at h,fun h=>by exfalso;omega⟩
  ·by_cases k3:55296≤v∧v≤57343
   ·rw [nT _ (.inr k3)];exact ⟨fun h=>by simp at h,fun h=>by exfalso;omega⟩
   ·by_cases k4:v<65536
    ·rw [UX _ (by omega) (by omega) (by omega)];exact ⟨fun h=>by simp at h,fun h=>by exfalso;omega⟩
    ·by_cases k5:1114111<v
     ·rw [nT _ (.inl k5)];exact ⟨fun h=>by simp at h,fun h=>by exfalso;omega⟩
     ·rw [Xl _ (by omega) (by omega)]
      simp only [Option.some.injEq,List.cons.injEq,and_true];omega
theorem QU (s:List Nat):iZ s=fD s:=by
 match s with
 | []=>rfl
 | b :: r =>
   unfold iZ;simp only [List.headD_cons];by_cases a1:b<128
   ·have hl:fZ b=1:=by unfold fZ;rw [if_pos a1]
    simp only [hl,fD,QS a1,s0];rw [if_neg (by simp)];have:oJ 256 (List.take 1 (b :: r))=b:=by show b % 256=b;omega
    rw [this,NU b a1];simp
   ·by_cases a2:b<192
    ·have hl:fZ b=0:=by unfold fZ;rw [if_neg a1,if_neg (by omega),if_neg (by omega),if_neg (by omega)]
     simp [hl,fD,yD (by omega:128≤b) (by omega)]
    ·by_cases a3:b<224
     ·have hl:fZ b=2:=by unfold fZ;rw [if_neg a1,if_pos (by omega)]
      simp only [hl]
      match r with
      | [] =>
        by_cases e:b<194
        ·simp [fD,yD (by omega:128≤b) e]
        ·simp [fD,Ho (by omega:194≤b) a3]
      | c :: r' =>
        rw [if_neg (by simp)];have hw:=w2 b c (by omega) a3;have e:oJ 32 [b,c]=64*(b % 32)+c % 64:=rfl;simp only [e,show List.take 2 (b :: c :: r')=[b,c] from rfl];by_cases g:b<194
        ·simp only [fD,yD (by omega:128≤b) g]
         rw [if_neg (by rw [hw];omega)]
        ·simp only [fD,Ho (by omega:194≤b) a3]
         by_cases q:128≤c∧c≤191
         ·rw [if_pos (hw.2 ⟨by omega,q⟩),if_pos q]
         ·rw [if_neg (fun h=>q (hw.1 h).2),if_neg q]
     ·by_cases a4:b<240
      ·have hl:fZ b=3:=by unfold fZ;rw [if_neg a1,if_neg (by omega),if_pos (by omega)]
       simp only [hl]
       match r with
       | []=>simp [fD,vU (by omega:224≤b) a4]
       | [c]=>simp [fD,vU (by omega:224≤b) a4]
       | c :: d :: r' =>
         rw [if_neg (by simp)];have hw:=w3 b c d (by omega) a4;have e:oJ 16 [b,c,d]=64*(64*(b % 16)+c % 64)+d % 64:=rfl;simp only [e,show List.take 3 (b :: c :: d :: r')=[b,c,d] from rfl,fD,vU (by omega:224≤b) a4];by_cases q:(UP b≤c∧c≤UQ b)∧128≤d∧d≤191
         ·rw [if_pos (hw.2 q),if_pos q]
         ·rw [if_neg (fun h=>q (hw.1 h)),if_neg q]
      ·by_cases a5:b<248
       ·have hl:fZ b=4:=by unfold fZ;rw [if_neg a1,if_neg (by omega),if_neg (by omega),if_pos (by omega)]
        simp only [hl];by_cases a6:b<245
        ·match r with
         | []=>simp [fD,qX (by omega:240≤b) a6]
         | [c]=>simp [fD,qX (by omega:240≤b) a6]
         | [c,d]=>simp [fD,qX (by omega:240≤b) a6]
         | c :: d :: f :: r' =>
           rw [if_neg (by simp)];have hw:=w4 b c d f (by omega) a5;have e:oJ 8 [b,c,d,f]=64*(64*(64*(b % 8)+c % 64)+d % 64)+f % 64:=rfl;simp only [e,show List.take 4 (b :: c :: d :: f :: r')=[b,c,d,f] from rfl,fD,qX (by omega:240≤b) a6];by_cases q:(QI b≤c∧c≤QJ b)∧(128≤d∧d≤191)∧128≤f∧f≤191
           ·rw [if_pos (hw.2 ⟨a6,q⟩),if_pos q]
           ·rw [if_neg (fun h=>q (hw.1 h).2),if_neg q]
        ·have hn:fD (b :: r)=0:=by simp [fD,Bg (by omega:245≤b)]
         rw [hn]
         match r with
         | []=>simp
         | [c]=>simp
         | [c,d]=>simp
         | c :: d :: f :: r' =>
           rw [if_neg (by simp)];have hw:=w4 b c d f (by omega) a5;have e:oJ 8 [b,c,d,f]=64*(64*(64*(b % 8)+c % 64)+d % 64)+f % 64:=rfl;simp only [e,show List.take 4 (b :: c :: d :: f :: r')=[b,c,d,f] from rfl];rw [if_neg (fun h=>a6 (hw.1 h).1)]
       ·have hl:fZ b=0:=by unfold fZ;rw [if_neg a1,if_neg (by omega),if_neg (by omega),if_neg (by omega)]
        simp [hl,fD,Bg (by omega:245≤b)]
theorem dU (b:Nat):jh s0 b=lead b:=rfl
theorem fE (k lo hi b:Nat):jh (k+1,lo,hi) b=if lo≤b∧b≤hi then some (k,128,191) else none:=by simp [jh]
theorem NV (u:List Nat) (n:Nat) (h:fD u=n+1):n+1≤u.length∧dK s0 (u.take (n+1))=some s0∧dH s0 (u.take (n+1))=1:=by
 match u with
 | []=>cases h
 | b :: r =>
   unfold fD at h;simp only at h;cases hl:lead b with
   | none=>rw [hl] at h;cases h
   | some t =>
     obtain ⟨k,lo,hi⟩:=t;rw [hl] at h;simp only at h
     match k,r with
     | 0,_ =>
       simp only at h;obtain rfl:n=0:=by omega
       have ht:(0,lo,hi)=s0:=by
        rcases Aq hl with e | e | e | e | e | e | e | e<;>first | exact e | (injection e with e1 e2;cases e1)
       refine ⟨by simp,?_,?_⟩
       ·simp [dK,dU,hl,ht]
       ·simp [dH,dU,hl]
     | 1,[]=>cases h
     | 1,c :: r' =>
       simp only at h;split at h
       ·rename_i q
        obtain rfl:n=1:=by omega
        refine ⟨by simp,?_,?_⟩
        ·simp [dK,dU,hl,fE,q];rfl
        ·simp [dH,dU,hl,fE,q]
       ·cases h
     | 2,[]=>cases h
     | 2,[_]=>cases h
     | 2,c :: d :: r' =>
       simp only at h;split at h
       ·rename_i q
        obtain rfl:n=2:=by omega
        refine ⟨by simp,?_,?_⟩
        ·simp [dK,dU,hl,fE,q];rfl
        ·simp [dH,dU,hl,fE,q]
       ·cases h
     | 3,[]=>cases h
     | 3,[_]=>cases h
     | 3,[_,_]=>cases h
     | 3,c :: d :: f :: r' =>
       simp only at h;split at h
       ·rename_i q
        obtain rfl:n=3:=by omega
        refine ⟨by simp,?_,?_⟩
        ·simp [dK,dU,hl,fE,q];rfl
        ·simp [dH,dU,hl,fE,q]
       ·cases h
     | k+4,_=>cases h
theorem ne1 (lo hi:Nat):¬ ((1,lo,hi):St)=s0:=fun h=>by injection h with h;cases h
theorem ne2 (lo hi:Nat):¬ ((2,lo,hi):St)=s0:=fun h=>by injection h with h;cases h
theorem ne3 (lo hi:Nat):¬ ((3,lo,hi):St)=s0:=fun h=>by injection h with h;cases h
theorem QV (u:List Nat) (hu:u≠[]) (h:fD u=0):dK s0 u≠some s0∧dH s0 u=0:=by
 match u with
 | []=>exact absurd rfl hu
 | b :: r =>
   unfold fD at h;simp only at h;cases hl:lead b with
   | none=>simp [dK,dH,dU,hl]
   | some t =>
     obtain ⟨k,lo,hi⟩:=t;have ok:=Aq hl;rw [hl] at h;simp only at h
     match k,r with
     | 0,_=>cases h
     | 1,[]=>simp [dK,dH,dU,hl,ne1]
     | 1,c :: r' =>
       simp only at h;split at h
       ·cases h
       ·rename_i q
        simp [dK,dH,dU,hl,fE,q]
     | 2,[]=>simp [dK,dH,dU,hl,ne2]
     | 2,[c] =>
       by_cases q:lo≤c∧c≤hi
       ·simp [dK,dH,dU,hl,fE,q,ne1]
       ·simp [dK,dH,dU,hl,fE,q]
     | 2,c :: d :: r' =>
       simp only at h;split at h
       ·cases h
       ·rename_i q
        by_cases q1:lo≤c∧c≤hi
        ·have q2:¬ (128≤d∧d≤191):=fun x=>q ⟨q1,x⟩
         simp [dK,dH,dU,hl,fE,q1,q2]
        ·simp [dK,dH,dU,hl,fE,q1]
     | 3,[]=>simp [dK,dH,dU,hl,ne3]
     | 3,[c] =>
       by_cases q:lo≤c∧c≤hi
       ·simp [dK,dH,dU,hl,fE,q,ne2]
       ·simp [dK,dH,dU,hl,fE,q]
     | 3,[c,d] =>
       by_cases q:lo≤c∧c≤hi
       ·by_cases q2:128≤d∧d≤191
        ·simp [dK,dH,dU,hl,fE,q,q2,ne1]
        ·simp [dK,dH,dU,hl,fE,q,q2]
       ·simp [dK,dH,dU,hl,fE,q]
     | 3,c :: d :: f :: r' =>
       simp only at h;split at h
       ·cases h
       ·rename_i q
        by_cases q1:lo≤c∧c≤hi
        ·by_cases q2:128≤d∧d≤191
         ·have q3:¬ (128≤f∧f≤191):=fun x=>q ⟨q1,q2,x⟩
          simp [dK,dH,dU,hl,fE,q1,q2,q3]
         ·simp [dK,dH,dU,hl,fE,q1,q2]
        ·simp [dK,dH,dU,hl,fE,q1]
     | k+4,_ =>
       rcases ok with e | e | e | e | e | e | e | e<;>(injection e with e1 e2;omega)
def lm (v:Nat) (s:List Nat):Nat→Nat×Nat
 | 0=>(v,v)
 | 1=>(v,v)
 | i+2=>(64*(lm v s (i+1)).1+(if i+1<s.length then s.getD (i+1) 0-128 else 0),64*(lm v s (i+1)).2+(if i+1<s.length then s.getD (i+1) 0-128 else 63))
def LY (n:Nat):Nat:=match n with | 1=>256 | 2=>32 | 3=>16 | _=>8
def lH (n:Nat):Nat:=match n with | 2=>128 | 3=>2048 | 4=>65536 | _=>0
def vV (n:Nat):Nat:=match n with | 1=>127 | 2=>2047 | 3=>65535 | 4=>1114111 | _=>0
def uG (n:Nat) (p:Nat×Nat):Bool:=decide (max p.1 (lH n)≤min p.2 (vV n))&&!(decide (55296≤max p.1 (lH n))&&decide (min p.2 (vV n)≤57343))
def qy (s:List Nat):Bool :=
 let n:=fZ (s.headD 0)
 if n≤s.length then false else if s.tail.all (fun c=>decide (128≤c∧c≤191)) then uG n (lm (s.headD 0 % LY n) s n) else false
theorem LZ (h1:192≤b) (h2:b<224):fZ b=2:=by unfold fZ;rw [if_neg (by omega),if_pos (by omega)]
theorem Hq (h1:224≤b) (h2:b<240):fZ b=3:=by unfold fZ;rw [if_neg (by omega),if_neg (by omega),if_pos (by omega)]
theorem Eh (h1:240≤b) (h2:b<248):fZ b=4:=by unfold fZ;rw [if_neg (by omega),if_neg (by omega),if_neg (by omega),if_pos (by omega)]
theorem lI (n:Nat) (l m:Nat):uG n (l,m)=true↔(l≤m∧lH n≤m∧l≤vV n∧lH n≤vV n)∧¬ (55296≤max l (lH n)∧min m (vV n)≤57343):=by
 unfold uG;simp only [JG,Ap,Bool.not_eq_true',Bool.and_eq_false_iff,JI];omega
theorem b2 (b:Nat) (h1:192≤b) (h2:b<224):qy [b]=true↔194≤b:=by
 unfold qy;simp only [List.headD_cons,LZ h1 h2];rw [if_neg (by simp),if_pos (by simp)]
 show uG 2 (64*(b % 32)+0,64*(b % 32)+63)=true↔_
 rw [lI];simp only [lH,vV];omega
theorem b3a (b:Nat) (h1:224≤b) (h2:b<240):qy [b]=true:=by
 unfold qy;simp only [List.headD_cons,Hq h1 h2];rw [if_neg (by simp),if_pos (by simp)]
 show uG 3 (64*(64*(b % 16)+0)+0,64*(64*(b % 16)+63)+63)=true
 rw [lI];simp only [lH,vV];omega
theorem b3b (b c:Nat) (h1:224≤b) (h2:b<240):qy [b,c]=true↔UP b≤c∧c≤UQ b:=by
 have hL:=sO b;have hH:=sQ b;unfold qy;simp only [List.headD_cons,Hq h1 h2];rw [if_neg (by simp)];by_cases q:128≤c∧c≤191
 ·rw [if_pos (by simpa using q)]
  show uG 3 (64*(64*(b % 16)+(c-128))+0,64*(64*(b % 16)+(c-128))+63)=true↔_
  rw [lI];simp only [lH,vV];omega
 ·rw [if_neg (by simpa using q)]
  exact ⟨fun h=>(by cases h),fun h=>by exfalso;omega⟩
theorem b4a (b:Nat) (h1:240≤b) (h2:b<248):qy [b]=true↔b<245:=by
 unfold qy;simp only [List.headD_cons,Eh h1 h2];rw [if_neg (by simp),if_pos (by simp)]
 show uG 4 (64*(64*(64*(b % 8)+0)+0)+0,64*(64*(64*(b % 8)+63)+63)+63)=true↔_
 rw [lI];simp only [lH,vV];omega
theorem b4b (b c:Nat) (h1:240≤b) (h2:b<248):qy [b,c]=true↔b<245∧QI b≤c∧c≤QJ b:=by
 have hL:=sS b;have hH:=sU b;unfold qy;simp only [List.headD_cons,Eh h1 h2];rw [if_neg (by simp)];by_cases q:128≤c∧c≤191
 ·rw [if_pos (by simpa using q)]
  show uG 4 (64*(64*(64*(b % 8)+(c-128))+0)+0,64*(64*(64*(b % 8)+(c-128))+63)+63)=true↔_
  rw [lI];simp only [lH,vV];omega
 ·rw [if_neg (by simpa using q)]
  exact ⟨fun h=>(by cases h),fun h=>by exfalso;omega⟩
theorem b4c (b c d:Nat) (h1:240≤b) (h2:b<248):qy [b,c,d]=true↔b<245∧(QI b≤c∧c≤QJ b)∧128≤d∧d≤191:=by
 have hL:=sS b;have hH:=sU b;unfold qy;simp only [List.headD_cons,Eh h1 h2];rw [if_neg (by simp)];by_cases q:(128≤c∧c≤191)∧128≤d∧d≤191
 ·rw [if_pos (by simpa using q)]
  show uG 4 (64*(64*(64*(b % 8)+(c-128))+(d-128))+0,64*(64*(64*(b % 8)+(c-128))+(d-128))+63)=true↔_
  rw [lI];simp only [lH,vV];omega
 ·rw [if_neg (by simpa using q)]
  exact ⟨fun h=>(by cases h),fun h=>by exfalso;omega⟩
theorem Xm (s:List Nat) (hs:s≠[]):qy s=true↔s.length<fZ (s.headD 0)∧(dK s0 s).isSome=true:=by
 match s with
 | []=>exact absurd rfl hs
 | b :: r =>
   simp only [List.headD_cons];by_cases bt:(b :: r).length<fZ b
   ·by_cases a1:b<128
    ·have hl:fZ b=1:=by unfold fZ;rw [if_pos a1]
     rw [hl] at bt;simp at bt
    ·by_cases a2:b<192
     ·have hl:fZ b=0:=by unfold fZ;rw [if_neg a1,if_neg (by omega),if_neg (by omega),if_neg (by omega)]
      rw [hl] at bt;simp at bt
     ·by_cases a3:b<224
      ·rw [LZ (by omega) a3] at bt ⊢
       match r with
       | [] =>
         rw [b2 b (by omega) a3];by_cases e:b<194
         ·simp [dK,dU,yD (by omega:128≤b) e];omega
         ·simp [dK,dU,Ho (by omega:194≤b) a3];omega
       | _ :: _=>simp at bt;omega
      ·by_cases a4:b<240
       ·rw [Hq (by omega) a4] at bt ⊢
        match r with
        | []=>rw [b3a b (by omega) a4];simp [dK,dU,vU (by omega:224≤b) a4]
        | [c] =>
          rw [b3b b c (by omega) a4];by_cases q:UP b≤c∧c≤UQ b
          ·simp [dK,dU,vU (by omega:224≤b) a4,fE,q]
          ·simp [dK,dU,vU (by omega:224≤b) a4,fE,q]
        | _ :: _ :: _=>simp at bt;omega
       ·by_cases a5:b<248
        ·rw [Eh (by omega) a5] at bt ⊢
         by_cases a6:b<245
         ·match r with
          | []=>rw [b4a b (by omega) a5];simp [dK,dU,qX (by omega:240≤b) a6,a6]
          | [c] =>
            rw [b4b b c (by omega) a5];by_cases q:QI b≤c∧c≤QJ b
            ·simp [dK,dU,qX (by omega:240≤b) a6,fE,q,a6]
            ·simp [dK,dU,qX (by omega:240≤b) a6,fE,q]
          | [c,d] =>
            rw [b4c b c d (by omega) a5];by_cases q:QI b≤c∧c≤QJ b
            ·by_cases q2:128≤d∧d≤191
             ·simp [dK,dU,qX (by omega:240≤b) a6,fE,q,q2,a6]
             ·simp [dK,dU,qX (by omega:240≤b) a6,fE,q,q2]
            ·simp [dK,dU,qX (by omega:240≤b) a6,fE,q]
          | _ :: _ :: _ :: _=>simp at bt;omega
         ·match r with
          | []=>rw [b4a b (by omega) a5];simp [dK,dU,Bg (by omega:245≤b),a6]
          | [c]=>rw [b4b b c (by omega) a5];simp [dK,dU,Bg (by omega:245≤b),a6]
          | [c,d]=>rw [b4c b c d (by omega) a5];simp [dK,dU,Bg (by omega:245≤b),a6]
          | _ :: _ :: _ :: _=>simp at bt;omega
        ·have hl:fZ b=0:=by unfold fZ;rw [if_neg a1,if_neg (by omega),if_neg (by omega),if_neg (by omega)]
         rw [hl] at bt;simp at bt
   ·have hb:qy (b :: r)=false:=by
     unfold qy;simp only [List.headD_cons];exact if_pos (Nat.le_of_not_lt bt)
    rw [hb];exact ⟨fun h=>(by cases h),fun h=>absurd h.1 bt⟩
theorem NY (l:List Nat):∀ (s:St) (j:Nat),j<l.length→(j<dP s l↔(dK s (l.take (j+1))).isSome=true):=by
 induction l with
 | nil=>intro s j h;simp at h
 | cons b r ih =>
   intro s j h;simp only [dP,yB,dK];cases hs:jh s b with
   | none=>simp
   | some t =>
     simp only
     match j with
     | 0=>simp [dK]
     | j+1 =>
       have:=ih t j (by simpa using h);rw [← this];omega
theorem DO (u:List Nat) (m:Nat) (hm:m≤u.length) (h0:u≠[]) (hl:fZ (u.headD 0)≤m) (he:(dK s0 (u.take m)).isSome=true) (hp:0<m):fD u≠0:=by
 intro hw
 match u with
 | []=>exact h0 rfl
 | b :: r =>
   simp only [List.headD_cons] at hl;obtain ⟨m',rfl⟩:∃ m',m=m'+1:=⟨m-1,by omega⟩;rw [yB] at he;unfold fD at hw;simp only [dK,dU] at he hw;cases hld:lead b with
   | none=>rw [hld] at he;simp at he
   | some t =>
     have ia:fZ b=t.1+1:=by
      by_cases a1:b<128
      ·rw [QS a1] at hld;injection hld with hld;subst hld;unfold fZ;rw [if_pos a1];rfl
      ·by_cases a2:b<194
       ·rw [yD (by omega) a2] at hld;cases hld
       ·by_cases a3:b<224
        ·rw [Ho (by omega) a3] at hld;injection hld with hld;subst hld;exact LZ (by omega) a3
        ·by_cases a4:b<240
         ·rw [vU (by omega) a4] at hld;injection hld with hld;subst hld;exact Hq (by omega) a4
         ·by_cases a5:b<245
          ·rw [qX (by omega) a5] at hld;injection hld with hld;subst hld;exact Eh (by omega) (by omega)
          ·rw [Bg (by omega)] at hld;cases hld
     obtain ⟨k,lo,hi⟩:=t;have ok:=Aq hld;rw [hld] at he hw;simp only at he hw ia;simp only [jE] at hm
     match k,r with
     | 0,_=>cases hw
     | 1,[]=>simp at hm;omega
     | 1,c :: r' =>
       simp only at hw;obtain ⟨m2,rfl⟩:∃ m2,m'=m2+1:=⟨m'-1,by omega⟩;rw [yB] at he;simp only [dK,fE] at he;split at hw
       ·cases hw
       ·rename_i q;rw [if_neg q] at he;simp at he
     | 2,[]=>simp at hm;omega
     | 2,[_]=>simp at hm;omega
     | 2,c :: d :: r' =>
       simp only at hw;obtain ⟨m2,rfl⟩:∃ m2,m'=m2+2:=⟨m'-2,by omega⟩;rw [yB,yB] at he;simp only [dK,fE] at he;split at hw
       ·cases hw
       ·rename_i q
        by_cases q1:lo≤c∧c≤hi
        ·have q2:¬ (128≤d∧d≤191):=fun x=>q ⟨q1,x⟩
         rw [if_pos q1] at he;simp only [fE] at he;rw [if_neg q2] at he;simp at he
        ·rw [if_neg q1] at he;simp at he
     | 3,[]=>simp at hm;omega
     | 3,[_]=>simp at hm;omega
     | 3,[_,_]=>simp at hm;omega
     | 3,c :: d :: f :: r' =>
       simp only at hw;obtain ⟨m2,rfl⟩:∃ m2,m'=m2+3:=⟨m'-3,by omega⟩;rw [yB,yB,yB] at he;simp only [dK,fE] at he;split at hw
       ·cases hw
       ·rename_i q
        by_cases q1:lo≤c∧c≤hi
        ·rw [if_pos q1] at he;simp only [fE] at he
         by_cases q2:128≤d∧d≤191
         ·have q3:¬ (128≤f∧f≤191):=fun x=>q ⟨q1,q2,x⟩
          rw [if_pos q2] at he;simp only [fE] at he;rw [if_neg q3] at he;simp at he
         ·rw [if_neg q2] at he;simp at he
        ·rw [if_neg q1] at he;simp at he
     | k+4,_ =>
       rcases ok with e | e | e | e | e | e | e | e<;>(injection e with e1 e2;omega)
theorem UY (u:List Nat) (j:Nat) (hj:j<u.length) (hw:fD u=0):qy (u.take (j+1))=true↔j<dP s0 u:=by
 have hu:u≠[]:=by intro e;rw [e] at hj;simp at hj
 have ht:u.take (j+1)≠[]:=by
  intro e;have h2:=lG List.length e;rw [kQ,LX (by omega)] at h2;simp at h2
 have hh:(u.take (j+1)).headD 0=u.headD 0:=by cases u with | nil=>rfl | cons b r=>rfl
 rw [Xm _ ht,hh,NY u s0 j hj];constructor
 ·exact fun h=>h.2
 ·intro h
  refine ⟨?_,h⟩;apply Nat.lt_of_not_le;intro cV;exact DO u (j+1) (by omega) hu (by simpa [kQ,LX (show j+1≤u.length by omega)] using cV) h (by omega) hw
theorem NZ (s:List Nat) (k:Nat) (hk:k≤s.length) (h:dK s0 (s.take k)=some s0) (hw:k<s.length→fD (s.drop k)=0) :
 dP s0 s=k+dP s0 (s.drop k)∧dH s0 s=dH s0 (s.take k)∧(dK s0 s=some s0↔k=s.length):=by
 have e:s=s.take k++s.drop k:=(Ee k s).symm;have hr:dP s0 s=k+dP s0 (s.drop k):=by
  conv=>lhs;rw [e]
  rw [uM,h];simp only [kQ,LX hk]
 have he:dK s0 s=dK s0 (s.drop k):=by
  conv=>lhs;rw [e]
  rw [mX,h];rfl
 have hc:dH s0 s=dH s0 (s.take k)+dH s0 (s.drop k):=by
  conv=>lhs;rw [e]
  rw [uN,h]
 by_cases bz:k<s.length
 ·have eW:s.drop k≠[]:=by
   intro e2;have:=lG List.length e2;simp at this;omega
  obtain ⟨n1,n2⟩:=QV _ eW (hw bz);exact ⟨hr,by rw [hc,n2];rfl,by rw [he];exact ⟨fun x=>absurd x n1,fun x=>by omega⟩⟩
 ·have hd:s.drop k=[]:=Xj (by omega)
  refine ⟨hr,by rw [hc,hd];rfl,?_⟩;rw [he,hd];exact ⟨fun _=>by omega,fun _=>rfl⟩
end
end bg
namespace aO
section
variable {s:List Nat}
def fC (key:List Nat):Nat→List Nat→List Nat
 | _,[]=>[]
 | k,x :: xs=>(x ^^^ key.getD (k % 4) 0) :: fC key (k+1) xs
theorem fV (key:List Nat) (k:Nat) (a:List Nat):(fC key k a).length=a.length:=by
 induction a generalizing k with
 | nil=>rfl
 | cons x xs ih=>simp [fC,ih]
theorem Hr (key:List Nat) (k:Nat) (a b:List Nat):fC key k (a++b)=fC key k a++fC key (k+a.length) b:=by
 induction a generalizing k with
 | nil=>rfl
 | cons x xs ih =>
   rw [DK,fC,fC,DK,ih,jE,show k+1+xs.length=k+(xs.length+1) by omega]
theorem Bh (key:List Nat) (k:Nat) (a:List Nat):fC key k (fC key k a)=a:=by
 induction a generalizing k with
 | nil=>rfl
 | cons x xs ih=>rw [fC,fC,ih,Nat.xor_assoc,Nat.xor_self,Nat.xor_zero]
theorem Yw {a b c:List Nat} (h:∀ i,i<4→c.getD i 0=a.getD i 0 ^^^ b.getD i 0) (k:Nat) (s:List Nat):fC b k (fC a k s)=fC c k s:=by
 induction s generalizing k with
 | nil=>rfl
 | cons x xs ih=>rw [fC,fC,fC,ih,h _ (Nat.mod_lt _ (by omega)),Nat.xor_assoc]
theorem Ei {z:List Nat} (h:∀ i,i<4→z.getD i 0=0) (k:Nat) (s:List Nat):fC z k s=s:=by
 induction s generalizing k with
 | nil=>rfl
 | cons x xs ih=>rw [fC,ih,h _ (Nat.mod_lt _ (by omega)),Nat.xor_zero]
theorem FB (key:List Nat) (k:Nat) (a:List Nat) (ha:∀ x∈a,x<256) (hk:∀ i,key.getD i 0<256):∀ x∈fC key k a,x<256:=by
 induction a generalizing k with
 | nil=>intro x hx;cases hx
 | cons y ys ih =>
   intro x hx;rw [fC] at hx;rcases DN.1 hx with rfl | hx
   ·exact Nat.xor_lt_two_pow (n:=8) (ha y (rD ..)) (hk _)
   ·exact ih (k+1) (fun z hz=>ha z (uK _ hz)) x hx
theorem yE (key:List Nat) (k:Nat) (a:List Nat) (i:Nat) (hi:i<a.length):fC key k (a.take (i+1))=fC key k (a.take i)++[a.getD i 0 ^^^ key.getD ((k+i) % 4) 0]:=by
 have e:a.take (i+1)=a.take i++[a.getD i 0]:=by
  rw [List.take_add_one,iw,lD hi];rfl
 rw [e,Hr,kQ,LX (by omega)];rfl
def be (n:Nat):Nat→List Nat
 | 0=>[]
 | s+1=>be (n / 256) s++[n % 256]
theorem bW (n s:Nat):(be n s).length=s:=by
 induction s generalizing n with
 | zero=>rfl
 | succ s ih=>simp [be,ih]
theorem vW (n s:Nat):∀ x∈be n s,x<256:=by
 induction s generalizing n with
 | zero=>intro x hx;cases hx
 | succ s ih =>
   intro x hx;rcases sN.1 hx with hx | hx
   ·exact ih _ x hx
   ·simp at hx;omega
def val (bs:List Nat):Nat:=bs.foldl (fun a c=>256*a+c) 0
theorem vX (bs:List Nat) (c:Nat):val (bs++[c])=256*val bs+c:=by simp [val]
theorem QW (n s:Nat) (h:n<256 ^ s):val (be n s)=n:=by
 induction s generalizing n with
 | zero=>simp at h;subst h;rfl
 | succ s ih =>
   rw [be,vX,ih _ (by rw [Nat.pow_succ] at h;omega)];omega
theorem Bi (bs:List Nat) (h:∀ x∈bs,x<256):val bs<256 ^ bs.length:=by
 have key:∀ (r:List Nat),(∀ x∈r,x<256)→val r.reverse<256 ^ r.length:=by
  intro r
  induction r with
  | nil=>intro _;decide
  | cons x xs ih =>
    intro hx;have h1:=ih (fun y hy=>hx y (uK _ hy));have h2:=hx x (rD ..);rw [List.reverse_cons,vX,jE,Nat.pow_succ];omega
 have:=key bs.reverse (fun x hx=>h x (by simpa using hx));simpa using this
theorem QX (bs:List Nat) (h:∀ x∈bs,x<256):be (val bs) bs.length=bs:=by
 have key:∀ (r:List Nat),(∀ x∈r,x<256)→be (val r.reverse) r.length=r.reverse:=by
  intro r
  induction r with
  | nil=>intro _;rfl
  | cons x xs ih =>
    intro hx;have h1:=ih (fun y hy=>hx y (uK _ hy));have h2:=hx x (rD ..);rw [List.reverse_cons,vX,jE,be,show (256*val xs.reverse+x) / 256=val xs.reverse by omega,show (256*val xs.reverse+x) % 256=x by omega,h1]
 have:=key bs.reverse (fun x hx=>h x (by simpa using hx));simpa using this
theorem Bj (bs:List Nat) (i:Nat) (hi:i<bs.length):val (bs.take (i+1))=256*val (bs.take i)+bs.getD i 0:=by
 rw [List.take_add_one,lD hi,Option.toList_some,vX,iw,lD hi];rfl
def eP (n:Nat):Option (List Nat) :=
 if 9223372036854775807<n then none else if n<126 then some [n] else if n≤65535 then some (126 :: be n 2) else some (127 :: be n 8)
def bK:List Nat→Nat×Nat×Nat
 | []=>(0,0,80)
 | x :: xs =>
   if x % 128<126 then (x % 128,1,0)
   else if x % 128=126 then
    (if xs.length<2 then (0,0,80) else if val (xs.take 2)<126 then (0,0,81) else (val (xs.take 2),3,0))
   else if 0<xs.length∧128≤xs.getD 0 0 then (0,0,81)
   else if 6≤xs.length∧val (xs.take 6)=0 then (0,0,81)
   else if xs.length<8 then (0,0,80) else (val (xs.take 8),9,0)
theorem Ht (n:Nat):be n 8=[n / 256 / 256 / 256 / 256 / 256 / 256 / 256 % 256,n / 256 / 256 / 256 / 256 / 256 / 256 % 256,n / 256 / 256 / 256 / 256 / 256 % 256,n / 256 / 256 / 256 / 256 % 256,n / 256 / 256 / 256 % 256,n / 256 / 256 % 256,n / 256 % 256,n % 256]:=rfl
theorem L6 {n:Nat} (h:eP n=some s) (dY:List Nat):bK (s++dY)=(n,s.length,0):=by
 unfold eP at h;by_cases h0:9223372036854775807<n
 ·rw [if_pos h0] at h;cases h
 rw [if_neg h0] at h;by_cases h1:n<126
 ·rw [if_pos h1] at h
  injection h with h
  subst h
  show bK (n :: dY)=_
  rw [bK,show n % 128=n by omega,if_pos h1];rfl
 rw [if_neg h1] at h;by_cases h2:n≤65535
 ·rw [if_pos h2] at h
  injection h with h
  subst h;have hv:val ((be n 2++dY).take 2)=n:=by
   rw [QB (by rw [bW];omega),nC (by rw [bW];omega),QW n 2 (by omega)]
  show bK (126 :: (be n 2++dY))=_
  rw [bK,if_neg (by omega),if_pos (by omega),if_neg (by rw [jB,bW];omega),hv,if_neg h1,jE,bW]
 ·rw [if_neg h2] at h
  injection h with h
  subst h;have hv:val ((be n 8++dY).take 8)=n:=by
   rw [QB (by rw [bW];omega),nC (by rw [bW];omega),QW n 8 (by omega)]
  have hx:¬ (0<(be n 8++dY).length∧128≤(be n 8++dY).getD 0 0):=by
   rw [Ht]
   show ¬ (_∧128≤n / 256 / 256 / 256 / 256 / 256 / 256 / 256 % 256)
   omega
  have hz:¬ (6≤(be n 8++dY).length∧val ((be n 8++dY).take 6)=0):=by
   rw [Ht];intro ⟨_,h⟩;simp only [DK,yB,QH,val,QG,List.foldl_nil] at h;omega
  show bK (127 :: (be n 8++dY))=_
  rw [bK,if_neg (by omega),if_neg (by omega),if_neg hx,if_neg hz,if_neg (by rw [jB,bW];omega),hv,jE,bW]
theorem vY (n:Nat):(eP n).isSome=decide (n≤9223372036854775807):=by
 unfold eP;by_cases h0:9223372036854775807<n
 ·rw [if_pos h0,iQ (by omega)];rfl
 ·rw [if_neg h0,iG (by omega)]
  split
  ·rfl
  ·split<;>rfl
theorem JL {n:Nat} (h:eP n=some s):s.length=if 65535<n then 9 else if 125<n then 3 else 1:=by
 unfold eP at h;by_cases h0:9223372036854775807<n
 ·rw [if_pos h0] at h;cases h
 rw [if_neg h0] at h;by_cases h1:n<126
 ·rw [if_pos h1] at h
  injection h with h
  subst h;rw [if_neg (by omega),if_neg (by omega)];rfl
 rw [if_neg h1] at h;by_cases h2:n≤65535
 ·rw [if_pos h2] at h
  injection h with h
  subst h;rw [if_neg (by omega),if_pos (by omega),jE,bW]
 ·rw [if_neg h2] at h
  injection h with h
  subst h;rw [if_pos (by omega),jE,bW]
theorem je {n:Nat} (h:eP n=some s):∀ x∈s,x<256:=by
 unfold eP at h;by_cases h0:9223372036854775807<n
 ·rw [if_pos h0] at h;cases h
 rw [if_neg h0] at h;by_cases h1:n<126
 ·rw [if_pos h1] at h
  injection h with h
  subst h;intro x hx;simp at hx;omega
 rw [if_neg h1] at h;by_cases h2:n≤65535
 ·rw [if_pos h2] at h
  injection h with h
  subst h;intro x hx;rcases DN.1 hx with rfl | hx
  ·omega
  ·exact vW _ _ x hx
 ·rw [if_neg h2] at h
  injection h with h
  subst h;intro x hx;rcases DN.1 hx with rfl | hx
  ·omega
  ·exact vW _ _ x hx
def uH (B ek ae:Nat) (t:List Nat):Nat×Nat×Nat :=
 if val t*2 ^ (8*(B-t.length))+2 ^ (8*(B-t.length))-1<ek∨ae<val t*2 ^ (8*(B-t.length)) then (0,0,81)
 else if t.length<B then (0,0,80) else (val t*2 ^ (8*(B-t.length)),1+B,0)
theorem mM:val []=0:=rfl
theorem kC (x:Nat) (xs:List Nat):val (x :: xs)=x*256 ^ xs.length+val xs:=by
 have key:∀ (r:List Nat) (a:Nat),r.foldl (fun a c=>256*a+c) a=a*256 ^ r.length+r.foldl (fun a c=>256*a+c) 0:=by
  intro r
  induction r with
  | nil=>intro a;simp
  | cons y ys ih =>
    intro a;rw [QG,QG,ih (256*a+y),ih (256*0+y),jE,Nat.pow_succ,Nat.add_mul,Nat.add_mul];rw [show 256*a*256 ^ ys.length=a*(256 ^ ys.length*256) by rw [Nat.mul_comm 256 a,Nat.mul_assoc,Nat.mul_comm 256]];omega
 unfold val;rw [QG,key];simp
theorem JM (x:Nat) (xs:List Nat) (h:x % 128=126) (hs:∀ y∈xs,y<256):bK (x :: xs)=uH 2 126 65535 (xs.take 2):=by
 rw [bK,if_neg (by omega),if_pos h]
 match xs,hs with
 | [],_=>rfl
 | [a],hs =>
   have:=hs a (by simp);rw [if_pos (by simp)];simp only [yB,List.take_nil,uH,kC,mM,jE,Eg];rw [if_neg (by omega),if_pos (by omega)]
 | a :: b :: ys,hs =>
   have h1:=hs a (by simp);have h2:=hs b (by simp);rw [if_neg (by simp)];simp only [yB,QH,uH,kC,mM,jE,Eg];by_cases h3:a*256+b<126
   ·rw [if_pos (by omega),if_pos (by omega)]
   ·rw [if_neg (by omega),if_neg (by omega),if_neg (by omega)]
    congr 1;omega
theorem QY (x:Nat) (xs:List Nat) (h:x % 128=127) (hs:∀ y∈xs,y<256):bK (x :: xs)=uH 8 65536 9223372036854775807 (xs.take 8):=by
 rw [bK,if_neg (by omega),if_neg (by omega)]
 match xs,hs with
 | [],_=>rfl
 | [a],hs =>
   have:=hs a (by simp);simp only [yB,List.take_nil,Dx,uH,kC,mM,jE,Eg];by_cases h1:128≤a
   ·rw [if_pos (by omega),if_pos (by omega)]
   ·rw [if_neg (by omega),if_neg (by omega),if_pos (by omega),if_neg (by omega),if_pos (by omega)]
 | [a,b],hs =>
   have:=hs a (by simp);have:=hs b (by simp);simp only [yB,List.take_nil,Dx,uH,kC,mM,jE,Eg];by_cases h1:128≤a
   ·rw [if_pos (by omega),if_pos (by omega)]
   ·rw [if_neg (by omega),if_neg (by omega),if_pos (by omega),if_neg (by omega),if_pos (by omega)]
 | [a,b,c],hs =>
   have:=hs a (by simp);have:=hs b (by simp);have:=hs c (by simp);simp only [yB,List.take_nil,Dx,uH,kC,mM,jE,Eg];by_cases h1:128≤a
   ·rw [if_pos (by omega),if_pos (by omega)]
   ·rw [if_neg (by omega),if_neg (by omega),if_pos (by omega),if_neg (by omega),if_pos (by omega)]
 | [a,b,c,d],hs =>
   have:=hs a (by simp);have:=hs b (by simp);have:=hs c (by simp);have:=hs d (by simp);simp only [yB,List.take_nil,Dx,uH,kC,mM,jE,Eg];by_cases h1:128≤a
   ·rw [if_pos (by omega),if_pos (by omega)]
   ·rw [if_neg (by omega),if_neg (by omega),if_pos (by omega),if_neg (by omega),if_pos (by omega)]
 | [a,b,c,d,e],hs =>
   have:=hs a (by simp);have:=hs b (by simp);have:=hs c (by simp);have:=hs d (by simp);have:=hs e (by simp);simp only [yB,List.take_nil,Dx,uH,kC,mM,jE,Eg];by_cases h1:128≤a
   ·rw [if_pos (by omega),if_pos (by omega)]
   ·rw [if_neg (by omega),if_neg (by omega),if_pos (by omega),if_neg (by omega),if_pos (by omega)]
 | [a,b,c,d,e,f],hs =>
   have:=hs a (by simp);have:=hs b (by simp);have:=hs c (by simp);have:=hs d (by simp);have:=hs e (by simp);have:=hs f (by simp);simp only [yB,List.take_nil,Dx,uH,kC,mM,jE,Eg];by_cases h1:128≤a
   ·rw [if_pos (by omega),if_pos (by omega)]
   ·rw [if_neg (by omega)]
    by_cases h2:a=0∧b=0∧c=0∧d=0∧e=0∧f=0
    ·rw [if_pos (by omega),if_pos (by omega)]
    ·rw [if_neg (by omega),if_pos (by omega),if_neg (by omega),if_pos (by omega)]
 | [a,b,c,d,e,f,g],hs =>
   have:=hs a (by simp);have:=hs b (by simp);have:=hs c (by simp);have:=hs d (by simp);have:=hs e (by simp);have:=hs f (by simp);have:=hs g (by simp);simp only [yB,List.take_nil,QH,Dx,uH,kC,mM,jE,Eg];by_cases h1:128≤a
   ·rw [if_pos (by omega),if_pos (by omega)]
   ·rw [if_neg (by omega)]
    by_cases h2:a=0∧b=0∧c=0∧d=0∧e=0∧f=0
    ·rw [if_pos (by omega),if_pos (by omega)]
    ·rw [if_neg (by omega),if_pos (by omega),if_neg (by omega),if_pos (by omega)]
 | a :: b :: c :: d :: e :: f :: g :: i :: ys,hs =>
   have:=hs a (by simp);have:=hs b (by simp);have:=hs c (by simp);have:=hs d (by simp);have:=hs e (by simp);have:=hs f (by simp);have:=hs g (by simp);have:=hs i (by simp);simp only [yB,QH,Dx,uH,kC,mM,jE,Eg];by_cases h1:128≤a
   ·rw [if_pos (by omega),if_pos (by omega)]
   ·rw [if_neg (by omega)]
    by_cases h2:a=0∧b=0∧c=0∧d=0∧e=0∧f=0
    ·rw [if_pos (by omega),if_pos (by omega)]
    ·rw [if_neg (by omega),if_neg (by omega),if_neg (by omega),if_neg (by omega)]
     simp
theorem JO {B:Nat} {t:List Nat} (hb:B≤8) (hl:t.length≤B) (hs:∀ y∈t,y<256) :
 val t*2 ^ (8*(B-t.length))+2 ^ (8*(B-t.length))≤18446744073709551616:=by
 have h1:=Bi t hs;have h2:(val t+1)*2 ^ (8*(B-t.length))≤256 ^ t.length*2 ^ (8*(B-t.length)):=Nat.mul_le_mul_right _ h1;have h3:256 ^ t.length*2 ^ (8*(B-t.length))=2 ^ (8*B):=by
  rw [show (256:Nat)=2 ^ 8 from rfl,← Nat.pow_mul,← Nat.pow_add];congr 1;omega
 have h4:2 ^ (8*B)≤2 ^ 64:=Nat.pow_le_pow_right (by omega) (by omega);rw [Nat.add_mul,Nat.one_mul] at h2;omega
theorem Xn (n s i:Nat) (h:i<s):(be n s).getD i 0=n / 2 ^ (8*(s-1-i)) % 256:=by
 induction s generalizing n with
 | zero=>omega
 | succ s ih =>
   rw [be];by_cases hi:i<s
   ·rw [iw,Ec (by rw [bW];exact hi),← iw,ih _ hi,Nat.div_div_eq_div_mul,show (256:Nat)=2 ^ 8 from rfl,← Nat.pow_add]
    rw [show 8+8*(s-1-i)=8*(s+1-1-i) by omega]
   ·obtain rfl:i=s:=by omega
    rw [iw,QC (by rw [bW];omega),bW];simp
def Bl (n s k:Nat):List Nat:=(be n s).take k++List.replicate (s-k) 0
theorem Hu (n s k:Nat) (h:k≤s):(Bl n s k).length=s:=by
 unfold Bl;rw [jB,kQ,bW,List.length_replicate];omega
theorem N5 (n s:Nat):Bl n s 0=List.replicate s 0:=by unfold Bl;simp
theorem QZ (n s:Nat):Bl n s s=be n s:=by
 unfold Bl;rw [Nat.sub_self,nC (by rw [bW];omega)];simp
theorem N6 (n s k:Nat) (h:k<s):(Bl n s k).set k (n / 2 ^ (8*(s-1-k)) % 256)=Bl n s (k+1):=by
 unfold Bl;have hl:((be n s).take k).length=k:=by rw [kQ,bW];omega
 rw [List.set_append_right _ _ (by rw [hl];exact aY _),hl,Nat.sub_self,show s-k=(s-(k+1))+1 by omega,List.replicate_succ,List.set_cons_zero,List.take_add_one,lD (by rw [bW];exact h)];have hg:=Xn n s k h;rw [iw,lD (by rw [bW];exact h)] at hg;simp only [Option.getD_some] at hg;rw [hg];simp
def uS (key:List Nat) (fx:Nat) (a:List Nat) (k:Nat):List Nat:=fC key fx (a.take k)++List.replicate (a.length-k) 0
theorem Hw (key:List Nat) (fx:Nat) (a:List Nat) (k:Nat) (h:k≤a.length):(uS key fx a k).length=a.length:=by
 unfold uS;rw [jB,fV,kQ,List.length_replicate];omega
theorem N8 (key:List Nat) (fx:Nat) (a:List Nat):uS key fx a 0=List.replicate a.length 0:=by unfold uS;simp [fC]
theorem Q4 (key:List Nat) (fx:Nat) (a:List Nat):uS key fx a a.length=fC key fx a:=by
 unfold uS;rw [Nat.sub_self,List.take_length];simp
theorem N9 (key:List Nat) (fx:Nat) (a:List Nat) (k:Nat) (h:k<a.length):(uS key fx a k).set k (a.getD k 0 ^^^ key.getD ((fx+k) % 4) 0)=uS key fx a (k+1):=by
 unfold uS;have hl:(fC key fx (a.take k)).length=k:=by rw [fV,kQ];omega
 rw [List.set_append_right _ _ (by rw [hl];exact aY _),hl,Nat.sub_self,show a.length-k=(a.length-(k+1))+1 by omega,List.replicate_succ,List.set_cons_zero,yE _ _ _ _ h];simp
theorem UZ (x:Nat) (xs:List Nat) (h:x % 128=127) (h1:xs.length<8) (h2:0<xs.length→xs.getD 0 0<128) (h3:6≤xs.length→val (xs.take 6)≠0):bK (x :: xs)=(0,0,80):=by
 rw [bK,if_neg (by omega),if_neg (by omega),if_neg (fun h=>by have:=h2 h.1;omega),if_neg (fun h=>h3 h.1 h.2),if_pos h1]
theorem Q8 (x:Nat) (xs:List Nat) (h:x % 128=127) (h1:0<xs.length) (h2:128≤xs.getD 0 0):bK (x :: xs)=(0,0,81):=by
 rw [bK,if_neg (by omega),if_neg (by omega),if_pos ⟨h1,h2⟩]
theorem Oa (x:Nat) (xs:List Nat) (h:x % 128=127) (h1:6≤xs.length) (h2:val (xs.take 6)=0):bK (x :: xs)=(0,0,81):=by
 rw [bK,if_neg (by omega),if_neg (by omega)];split
 ·rfl
 ·rw [if_pos ⟨h1,h2⟩]
theorem Ob (x:Nat) (xs:List Nat) (h:x % 128=127) (h1:8≤xs.length) (h2:xs.getD 0 0<128) (h3:val (xs.take 6)≠0):bK (x :: xs)=(val (xs.take 8),9,0):=by
 rw [bK,if_neg (by omega),if_neg (by omega),if_neg (fun h=>by omega),if_neg (fun h=>h3 h.2),if_neg (by omega)]
theorem L8 (x:Nat) (xs:List Nat) (h:x % 128<126):bK (x :: xs)=(x % 128,1,0):=by rw [bK,if_pos h]
end
end aO
namespace aC
open aO
section
variable {xs a:List Nat}
theorem Oc (a b c d e f g h:Nat):val [a,b,c,d,e,f,g,h]=256*(256*(256*(256*(256*(256*(256*a+b)+c)+d)+e)+f)+g)+h:=by simp [val]
theorem U0 (x:Nat) (xs:List Nat):bK (x % 128 :: xs)=bK (x :: xs):=by
 rw [bK,bK,Nat.mod_mod]
theorem Oe {x:Nat} {n k:Nat} (hs:∀ y∈xs,y<256) (h:bK (x :: xs)=(n,k,0)):eP n=some ((x % 128 :: xs).take k)∧k≤xs.length+1∧0<k:=by
 rw [bK] at h;by_cases h1:x % 128<126
 ·rw [if_pos h1] at h
  injection h with e1 e2
  injection e2 with e2 _
  subst e1 e2;refine ⟨?_,by omega,by omega⟩;unfold eP;rw [if_neg (by omega),if_pos h1];rfl
 rw [if_neg h1] at h;by_cases h2:x % 128=126
 ·rw [if_pos h2] at h
  by_cases h3:xs.length<2
  ·rw [if_pos h3] at h;injection h with _ e;injection e with _ e;cases e
  rw [if_neg h3] at h;by_cases h4:val (xs.take 2)<126
  ·rw [if_pos h4] at h;injection h with _ e;injection e with _ e;cases e
  rw [if_neg h4] at h;injection h with e1 e2
  injection e2 with e2 _
  subst e1 e2;have hl:(xs.take 2).length=2:=by rw [kQ];omega
  have hb:=QX (xs.take 2) (fun y hy=>hs y (Hf hy));have hv:=Bi (xs.take 2) (fun y hy=>hs y (Hf hy));rw [hl] at hb hv;refine ⟨?_,by omega,by omega⟩;unfold eP;rw [if_neg (by omega),if_neg h4,if_pos (by omega),hb,h2];rfl
 rw [if_neg h2] at h;by_cases h3:0<xs.length∧128≤xs.getD 0 0
 ·rw [if_pos h3] at h;injection h with _ e;injection e with _ e;cases e
 rw [if_neg h3] at h;by_cases h4:6≤xs.length∧val (xs.take 6)=0
 ·rw [if_pos h4] at h;injection h with _ e;injection e with _ e;cases e
 rw [if_neg h4] at h;by_cases h5:xs.length<8
 ·rw [if_pos h5] at h;injection h with _ e;injection e with _ e;cases e
 rw [if_neg h5] at h;injection h with e1 e2
 injection e2 with e2 _
 subst e1 e2;have hl:(xs.take 8).length=8:=by rw [kQ];omega
 have hb:=QX (xs.take 8) (fun y hy=>hs y (Hf hy));rw [hl] at hb;have hx:x % 128=127:=by omega
 refine ⟨?_,by omega,by omega⟩
 match xs,h5 with
 | a :: b :: c :: d :: e :: f :: g :: i :: ys,_ =>
   have ha:=hs a (by simp);have hb':=hs b (by simp);have hc:=hs c (by simp);have hd:=hs d (by simp);have he:=hs e (by simp);have hf:=hs f (by simp);have hg:=hs g (by simp);have hi:=hs i (by simp);simp only [yB,QH,Dx,jE] at h3 h4 hb ⊢;have h4':¬ val [a,b,c,d,e,f]=0:=fun hh=>h4 ⟨by omega,hh⟩
   rw [show val [a,b,c,d,e,f]=256*(256*(256*(256*(256*a+b)+c)+d)+e)+f by simp [val]] at h4';rw [Oc] at hb ⊢;unfold eP;rw [if_neg (by omega),if_neg (by omega),if_neg (by omega),hb,hx]
theorem Q9 (ys:List Nat) (h:(bK xs).2.2≠80):bK (xs++ys)=bK xs:=by
 cases xs with
 | nil=>exact absurd rfl h
 | cons x xs =>
   rw [DK,bK,bK];rw [bK] at h;by_cases h1:x % 128<126
   ·rw [if_pos h1,if_pos h1]
   rw [if_neg h1] at h ⊢;rw [if_neg h1];by_cases h2:x % 128=126
   ·rw [if_pos h2] at h ⊢
    rw [if_pos h2];by_cases h3:xs.length<2
    ·rw [if_pos h3] at h;exact absurd rfl h
    rw [if_neg h3,if_neg (by rw [jB];omega),QB (by omega)]
   rw [if_neg h2] at h ⊢;rw [if_neg h2];by_cases h3:0<xs.length∧128≤xs.getD 0 0
   ·rw [if_pos h3,if_pos ⟨by rw [jB];omega,by rw [iw,Ec h3.1,← iw];exact h3.2⟩]
   rw [if_neg h3] at h ⊢;by_cases h4:6≤xs.length∧val (xs.take 6)=0
   ·have h5:¬ (0<(xs++ys).length∧128≤(xs++ys).getD 0 0):=fun hh=>h3 ⟨by omega,by
     have:=hh.2;rwa [iw,Ec (by omega),← iw] at this⟩
    rw [if_neg h5,if_pos h4,if_pos ⟨by rw [jB];omega,by rw [QB h4.1];exact h4.2⟩]
   rw [if_neg h4] at h ⊢;by_cases h5:xs.length<8
   ·rw [if_pos h5] at h;exact absurd rfl h
   have h6:¬ (0<(xs++ys).length∧128≤(xs++ys).getD 0 0):=fun hh=>h3 ⟨by omega,by
    have:=hh.2;rwa [iw,Ec (by omega),← iw] at this⟩
   have h7:¬ (6≤(xs++ys).length∧val ((xs++ys).take 6)=0):=fun hh=>h4 ⟨by omega,by
    have:=hh.2;rwa [QB (by omega)] at this⟩
   rw [if_neg h5,if_neg h6,if_neg h7,if_neg (by rw [jB];omega),QB (by omega)]
theorem jP (xs:List Nat):(bK xs).2.2=0∨(bK xs).2.2=80∨(bK xs).2.2=81:=by
 cases xs with
 | nil=>exact .inr (.inl rfl)
 | cons x xs =>
   rw [bK]
   repeat' split
   all_goals simp
theorem yF (xs:List Nat):(bK xs).2.1≤xs.length:=by
 cases xs with
 | nil=>exact aY _
 | cons x xs =>
   rw [bK,jE];by_cases h1:x % 128<126
   ·rw [if_pos h1];show 1≤_;omega
   rw [if_neg h1];by_cases h2:x % 128=126
   ·rw [if_pos h2]
    by_cases h3:xs.length<2
    ·rw [if_pos h3];exact ku _
    rw [if_neg h3];by_cases h4:val (xs.take 2)<126
    ·rw [if_pos h4];exact ku _
    rw [if_neg h4];show 3≤_;omega
   rw [if_neg h2];by_cases h3:0<xs.length∧128≤xs.getD 0 0
   ·rw [if_pos h3];exact ku _
   rw [if_neg h3];by_cases h4:6≤xs.length∧val (xs.take 6)=0
   ·rw [if_pos h4];exact ku _
   rw [if_neg h4];by_cases h5:xs.length<8
   ·rw [if_pos h5];exact ku _
   rw [if_neg h5];show 9≤_;omega
structure Fr where
 aN:Bool
 op:Int
 af:Bool
 key:List Nat
 data:List Nat
def bn:List Nat:=[0,0,0,0]
def dn:Fr:=⟨false,0,false,bn,[]⟩
def aQ (op:Int):Bool:=decide (8≤op)&&decide (op≤10)
def dF (f:Fr):Bool:=((decide (0≤f.op)&&decide (f.op≤2))||(aQ f.op&&f.aN&&decide (f.data.length≤125)))&&(f.af||decide (f.key=bn))
def nI (f:Fr):Nat:=if dF f=false then 91 else if 65536<f.data.length then 92 else 0
def iJ (n:Nat):List Nat:=(eP n).getD []
def kD (f:Fr):Nat:=f.op.toNat+if f.aN then 128 else 0
def nU (f:Fr):List Nat :=
 if f.af then kD f :: ((iJ f.data.length).getD 0 0+128) :: (iJ f.data.length).drop 1++f.key else kD f :: iJ f.data.length
def aT (f:Fr):List Nat:=nU f++if f.af then fC f.key 0 f.data else f.data
def size (f:Fr):Nat:=2+f.data.length+(if 65535<f.data.length then 8 else if 125<f.data.length then 2 else 0)+(if f.af then 4 else 0)
def gG (x:Nat):Bool:=decide (x / 16 % 8≠0)||decide (2<x % 16∧¬ (8≤x % 16∧x % 16≤10))||decide (8≤x % 16∧x<128)
def rest (x y n k:Nat) (r:List Nat):Fr×Nat×Nat :=
 if 128≤y then
  (if r.length<4+n then (dn,0,90) else (⟨decide (128≤x),((x % 16:Nat):Int),true,r.take 4,fC (r.take 4) 0 ((r.drop 4).take n)⟩,1+k+4+n,0))
 else if r.length<n then (dn,0,90) else (⟨decide (128≤x),((x % 16:Nat):Int),false,bn,r.take n⟩,1+k+n,0)
def eX (s:List Nat) (ae:Int):Fr×Nat×Nat :=
 match s with
 | []=>(dn,0,90)
 | x :: xs =>
   if gG x then (dn,0,91)
   else if 0<xs.length∧8≤x % 16∧125<xs.getD 0 0 % 128 then (dn,0,91)
   else if (bK xs).2.2=81 then (dn,0,91)
   else if (bK xs).2.2=80 then (dn,0,90)
   else if ae<((bK xs).1:Int) then (dn,0,92)
   else rest x (xs.getD 0 0) (bK xs).1 (bK xs).2.1 (xs.drop (bK xs).2.1)
theorem nN {n:Nat} (h:n≤9223372036854775807):eP n=some (iJ n):=by
 have:=vY n;rw [iG h] at this;unfold iJ;cases hp:eP n with
 | none=>rw [hp] at this;cases this
 | some s=>rfl
theorem ji {n:Nat} (h:n≤9223372036854775807):(iJ n).length=if 65535<n then 9 else if 125<n then 3 else 1:=JL (nN h)
theorem qA {n:Nat} (h:n≤9223372036854775807):∀ x∈iJ n,x<256:=je (nN h)
theorem pN {n:Nat} (h:n≤9223372036854775807):(iJ n).getD 0 0<128∧(n≤125→(iJ n).getD 0 0=n):=by
 have hs:=nN h;unfold eP at hs;rw [if_neg (by omega)] at hs;by_cases h1:n<126
 ·rw [if_pos h1] at hs;injection hs with hs;rw [← hs];exact ⟨by show n<128;omega,fun _=>rfl⟩
 ·rw [if_neg h1] at hs
  by_cases h2:n≤65535
  ·rw [if_pos h2] at hs;injection hs with hs;rw [← hs];exact ⟨by show 126<128;omega,fun _=>by omega⟩
  ·rw [if_neg h2] at hs;injection hs with hs;rw [← hs];exact ⟨by show 127<128;omega,fun _=>by omega⟩
theorem jk (f:Fr) (h:f.data.length≤9223372036854775807) (hk:f.key.length=4):(aT f).length=size f:=by
 have hl:=ji h;unfold aT nU size;cases f.af with
 | true =>
   simp only [if_true,jB,jE,iP,fV,hk,hl];split
   ·omega
   ·split<;>omega
 | false =>
   simp only [UM,if_false,jB,jE,hl];split
   ·omega
   ·split<;>omega
theorem eF {f:Fr} (h:dF f=true):((0≤f.op∧f.op≤2)∨(8≤f.op∧f.op≤10∧f.aN=true∧f.data.length≤125))∧(f.af=true∨f.key=bn):=by
 unfold dF aQ at h;simp only [JG,Bool.or_eq_true,Ap] at h;obtain ⟨h1,h2⟩:=h;refine ⟨?_,h2⟩;rcases h1 with ⟨a,b⟩ | ⟨⟨⟨a,b⟩,c⟩,d⟩
 ·exact .inl ⟨a,b⟩
 ·exact .inr ⟨a,b,c,d⟩
theorem jC {f:Fr} (h:((0≤f.op∧f.op≤2)∨(8≤f.op∧f.op≤10∧f.aN=true∧f.data.length≤125))∧(f.af=true∨f.key=bn)):dF f=true:=by
 unfold dF aQ;simp only [JG,Bool.or_eq_true,Ap];obtain ⟨h1,h2⟩:=h;refine ⟨?_,h2⟩;rcases h1 with ⟨a,b⟩ | ⟨a,b,c,d⟩
 ·exact .inl ⟨a,b⟩
 ·exact .inr ⟨⟨⟨a,b⟩,c⟩,d⟩
theorem oK {f:Fr} (h:dF f=true):gG (kD f)=false∧((kD f % 16:Nat):Int)=f.op∧decide (128≤kD f)=f.aN∧kD f<256∧(8≤kD f % 16→f.data.length≤125):=by
 have hc:=(eF h).1;unfold kD gG;cases hf:f.aN with
 | true =>
   simp only [if_true];rw [hf] at hc;obtain ⟨k,hk⟩:∃ k:Nat,f.op=k:=⟨f.op.toNat,by omega⟩;rw [hk] at hc ⊢;rw [Int.toNat_natCast];refine ⟨?_,by omega,by simp,by omega,by omega⟩;simp only [Xk,JI];omega
 | false =>
   simp only [UM,if_false,Nat.add_zero];rw [hf] at hc;have Dd:0≤f.op∧f.op≤2:=by
    rcases hc with h | ⟨_,_,h,_⟩
    ·exact h
    ·cases h
   obtain ⟨k,hk⟩:∃ k:Nat,f.op=k:=⟨f.op.toNat,by omega⟩;rw [hk] at Dd ⊢;rw [Int.toNat_natCast];refine ⟨?_,by omega,by simp;omega,by omega,by omega⟩;simp only [Xk,JI];omega
theorem Of {n:Nat} (h:n≤9223372036854775807):iJ n=(iJ n).getD 0 0 :: (iJ n).drop 1:=by
 have hl:=ji h;cases hb:iJ n with
 | nil=>rw [hb] at hl;simp at hl;split at hl<;>(try split at hl)<;>omega
 | cons x xs=>rfl
theorem Rf {f:Fr} (hf:dF f=true) (hn:f.data.length≤9223372036854775807) (hk:f.key.length=4) (dY:List Nat) (ae:Int) :
 eX (aT f++dY) ae=if ae<(f.data.length:Int) then (dn,0,92) else (f,size f,0):=by
 have hz:=jk f hn hk;obtain ⟨b1,b2,b3,b4,b5⟩:=oK hf;obtain ⟨l1,l2⟩:=pN hn;have hp:=nN hn;have K6:=Of hn;have hlp:0<(iJ f.data.length).length:=by rw [K6];simp
 have un:=ji hn;have hm2:=(eF hf).2;rw [← hz];unfold aT nU at hz ⊢;by_cases hm:f.af=true
 ·rw [if_pos hm,if_pos hm] at hz ⊢
  have lp:bK ((((iJ f.data.length).getD 0 0+128) :: (iJ f.data.length).drop 1)++(f.key++(fC f.key 0 f.data++dY)))=(f.data.length,(iJ f.data.length).length,0):=by
   rw [DK,← U0,Nat.add_mod_right,Nat.mod_eq_of_lt l1,← DK,← K6,L6 hp]
  simp only [DK,Ae] at lp hz ⊢;have hd:(((iJ f.data.length).getD 0 0+128) :: ((iJ f.data.length).drop 1++(f.key++(fC f.key 0 f.data++dY)))).drop (iJ f.data.length).length=f.key++(fC f.key 0 f.data++dY):=by
   have e:(iJ f.data.length).length=((iJ f.data.length).drop 1).length+1:=by rw [iP];omega
   conv=>lhs;rw [e,WY]
   rw [List.drop_left]
  rw [eX,b1,if_neg (by simp),if_neg,lp,if_neg (show ¬ (0:Nat)=81 by decide),if_neg (show ¬ (0:Nat)=80 by decide)]
  ·dsimp only
   by_cases eD:ae<(f.data.length:Int)
   ·rw [if_pos eD,if_pos eD]
   ·rw [if_neg eD,if_neg eD,hd,rest,Dx,if_pos (by omega),if_neg (by rw [jB,jB,fV];omega)]
    have t1:(f.key++(fC f.key 0 f.data++dY)).take 4=f.key:=by rw [QB (by omega),nC (by omega)]
    have t2:(f.key++(fC f.key 0 f.data++dY)).drop 4=fC f.key 0 f.data++dY:=by rw [← hk,List.drop_left]
    have t3:(fC f.key 0 f.data++dY).take f.data.length=fC f.key 0 f.data:=by rw [QB (by rw [fV];omega),nC (by rw [fV];omega)]
    rw [t1,t2,t3,Bh,b2,b3];congr 1
    ·cases f;simp only at hm ⊢;rw [hm]
    ·congr 1
     simp only [jE,jB,fV,iP];omega
  ·intro ⟨_,h8,mK⟩
   rw [Dx] at mK;have:=l2 (b5 h8);have:=b5 h8;omega
 ·rw [if_neg hm,if_neg hm] at hz ⊢
  have lp:bK (iJ f.data.length++(f.data++dY))=(f.data.length,(iJ f.data.length).length,0):=L6 hp _;simp only [DK,Ae] at hz ⊢;rw [eX,b1,if_neg (by simp),if_neg,lp,if_neg (show ¬ (0:Nat)=81 by decide),if_neg (show ¬ (0:Nat)=80 by decide)]
  ·dsimp only
   by_cases eD:ae<(f.data.length:Int)
   ·rw [if_pos eD,if_pos eD]
   ·have De:(iJ f.data.length++(f.data++dY)).getD 0 0=(iJ f.data.length).getD 0 0:=by
     rw [iw,Ec hlp,← iw]
    rw [if_neg eD,if_neg eD,List.drop_left,rest,De,if_neg (by omega),if_neg (by rw [jB];omega),b2,b3];have t3:(f.data++dY).take f.data.length=f.data:=by rw [QB (aY _),nC (aY _)]
    rw [t3];have hkz:f.key=bn:=hm2.resolve_left hm;congr 1
    ·cases f;simp only at hm hkz ⊢;rw [hkz];simp at hm;rw [hm]
    ·congr 1
     simp only [jE,jB];omega
  ·intro ⟨_,h8,mK⟩
   rw [iw,Ec hlp,← iw,l2 (b5 h8)] at mK;have:=b5 h8;omega
theorem Xo (b:List Nat) (ae:Int) (h:(eX a ae).2.2≠90):eX (a++b) ae=eX a ae:=by
 cases a with
 | nil=>exact absurd rfl h
 | cons x xs =>
   rw [DK,eX,eX];rw [eX] at h;by_cases h1:gG x=true
   ·rw [if_pos h1,if_pos h1]
   rw [if_neg h1] at h ⊢;rw [if_neg h1];by_cases h2:0<xs.length∧8≤x % 16∧125<xs.getD 0 0 % 128
   ·rw [if_pos h2,if_pos]
    refine ⟨by rw [jB];omega,h2.2.1,?_⟩;rw [iw,Ec h2.1,← iw];exact h2.2.2
   rw [if_neg h2] at h ⊢;by_cases h80:(bK xs).2.2=80
   ·rw [if_neg (by omega),if_pos h80] at h;exact absurd rfl h
   have hm:=Q9 b h80;have hp:0<xs.length:=by
    cases xs with
    | nil=>exact absurd rfl h80
    | cons _ _=>simp
   have De:(xs++b).getD 0 0=xs.getD 0 0:=by rw [iw,Ec hp,← iw]
   rw [hm,De,if_neg (fun hh=>h2 ⟨hp,hh.2⟩)];by_cases K7:(bK xs).2.2=81
   ·rw [if_pos K7,if_pos K7]
   rw [if_neg K7,if_neg h80] at h ⊢;rw [if_neg K7,if_neg h80];by_cases eD:ae<((bK xs).1:Int)
   ·rw [if_pos eD,if_pos eD]
   rw [if_neg eD] at h ⊢;rw [if_neg eD];obtain ⟨n,hn⟩:=zX ((bK xs).1);obtain ⟨k,hk⟩:=zX ((bK xs).2.1);rw [hn,hk] at h ⊢;have mt:k≤xs.length:=by rw [← hk];exact yF xs
   rw [List.drop_append_of_le_length mt];unfold rest at h ⊢;by_cases hy:128≤xs.getD 0 0
   ·rw [if_pos hy] at h ⊢
    rw [if_pos hy];by_cases hr:(xs.drop k).length<4+n
    ·rw [if_pos hr] at h;exact absurd rfl h
    ·rw [if_neg hr,if_neg (by rw [jB];omega),QB (by omega),List.drop_append_of_le_length (by omega),QB (by rw [iP];omega)]
   ·rw [if_neg hy] at h ⊢
    rw [if_neg hy];by_cases hr:(xs.drop k).length<n
    ·rw [if_pos hr] at h;exact absurd rfl h
    ·rw [if_neg hr,if_neg (by rw [jB];omega),QB (by omega)]
theorem JP (x y n k:Nat) (r:List Nat):(rest x y n k r).2.2=0∨(rest x y n k r=(dn,0,90)):=by
 unfold rest
 repeat' split
 all_goals first | exact .inl rfl | exact .inr rfl
theorem L9 (a:List Nat) (ae:Int):(eX a ae).2.2=0∨(∃ e,eX a ae=(dn,0,e)∧(e=90∨e=91∨e=92)):=by
 cases a with
 | nil=>exact .inr ⟨90,rfl,by omega⟩
 | cons x xs =>
   rw [eX];split
   ·exact .inr ⟨91,rfl,by omega⟩
   split
   ·exact .inr ⟨91,rfl,by omega⟩
   split
   ·exact .inr ⟨91,rfl,by omega⟩
   split
   ·exact .inr ⟨90,rfl,by omega⟩
   split
   ·exact .inr ⟨92,rfl,by omega⟩
   rcases JP x (xs.getD 0 0) (bK xs).1 (bK xs).2.1 (xs.drop (bK xs).2.1) with h | h
   ·exact .inl h
   ·exact .inr ⟨90,h,by omega⟩
theorem JQ {ae:Int} {f:Fr} {n:Nat} (hs:∀ y∈a,y<256) (h:eX a ae=(f,n,0)) :
 dF f=true∧aT f=a.take n∧n≤a.length∧2≤n∧f.key.length=4∧(∀ y∈f.key,y<256)∧(∀ y∈f.data,y<256)∧(f.data.length:Int)≤ae:=by
 cases a with
 | nil=>injection h with _ e;injection e with _ e;cases e
 | cons x xs =>
   have hx:=hs x (rD ..);have M5:∀ y∈xs,y<256:=fun y hy=>hs y (uK _ hy)
   rw [eX] at h;by_cases h1:gG x=true
   ·rw [if_pos h1] at h;injection h with _ e;injection e with _ e;cases e
   rw [if_neg h1] at h;by_cases h2:0<xs.length∧8≤x % 16∧125<xs.getD 0 0 % 128
   ·rw [if_pos h2] at h;injection h with _ e;injection e with _ e;cases e
   rw [if_neg h2] at h;by_cases K7:(bK xs).2.2=81
   ·rw [if_pos K7] at h;injection h with _ e;injection e with _ e;cases e
   rw [if_neg K7] at h;by_cases h80:(bK xs).2.2=80
   ·rw [if_pos h80] at h;injection h with _ e;injection e with _ e;cases e
   rw [if_neg h80] at h;by_cases eD:ae<((bK xs).1:Int)
   ·rw [if_pos eD] at h;injection h with _ e;injection e with _ e;cases e
   rw [if_neg eD] at h;have ur:(bK xs).2.2=0:=by
    rcases jP xs with h0 | h0 | h0
    ·exact h0
    ·exact absurd h0 h80
    ·exact absurd h0 K7
   cases xs with
   | nil=>exact absurd rfl h80
   | cons y ys =>
     have hy:=M5 y (rD ..);have hys:∀ z∈ys,z<256:=fun z hz=>M5 z (uK _ hz)
     obtain ⟨N,hN⟩:=zX ((bK (y :: ys)).1);obtain ⟨k,hk⟩:=zX ((bK (y :: ys)).2.1);have hg:bK (y :: ys)=(N,k,0):=by rw [← hN,← hk,← ur]
     obtain ⟨c1,c2,c3⟩:=Oe hys hg;have ajm:N≤9223372036854775807:=by
      have:=vY N;rw [c1] at this;exact QE this.symm
     have hlb:iJ N=(y % 128 :: ys).take k:=by unfold iJ;rw [c1];rfl
     have un:(iJ N).length=k:=by rw [hlb,kQ,jE];omega
     rw [hN,hk,Dx] at h;rw [hN] at eD;have Fu:k≤(y :: ys).length:=by rw [jE];omega
     have cX:x / 16 % 8=0∧(x % 16≤2∨(8≤x % 16∧x % 16≤10))∧¬ (8≤x % 16∧x<128):=by
      have hb:gG x=false:=by simpa using h1
      unfold gG at hb;simp only [Xk,JI] at hb;omega
     have mK:8≤x % 16→N≤125:=fun h8=>by
      have hh:¬ 125<y % 128:=fun hq=>h2 ⟨by simp,h8,by rw [Dx];exact hq⟩
      rw [bK,if_pos (by omega)] at hg;injection hg with e _
      omega
     have gT:∀ (m:Bool) (ke d:List Nat),kD ⟨decide (128≤x),((x % 16:Nat):Int),m,ke,d⟩=x:=fun m ke d=>by
      unfold kD;simp only [Int.toNat_natCast];by_cases h128:128≤x
      ·rw [iG h128,if_pos rfl];omega
      ·rw [iQ h128,if_neg (by simp)];omega
     unfold rest at h;by_cases hmask:128≤y
     ·rw [if_pos hmask] at h
      by_cases hr:((y :: ys).drop k).length<4+N
      ·rw [if_pos hr] at h;injection h with _ e;injection e with _ e;cases e
      rw [if_neg hr] at h;injection h with e1 e2
      injection e2 with e2 _
      obtain ⟨r,pt⟩:=zX ((y :: ys).drop k);have AI:(y :: ys).take k++r=y :: ys:=by rw [← pt,Ee]
      have wv:r.length+k=ys.length+1:=by rw [← pt,iP,jE];omega
      have us:∀ z∈r,z<256:=fun z hz=>M5 z (by rw [← AI];exact WX _ hz)
      rw [pt] at e1 hr;have mt:(r.take 4).length=4:=by rw [kQ];omega
      have pS:(fC (r.take 4) 0 ((r.drop 4).take N)).length=N:=by rw [fV,kQ,iP];omega
      have ez:∀ z∈r.take 4,z<256:=fun z hz=>us z (Hf hz)
      have hds:∀ z∈fC (r.take 4) 0 ((r.drop 4).take N),z<256:=FB _ _ _ (fun z hz=>us z (Ef (Hf hz))) (fun i=>by
       by_cases hi:i<(r.take 4).length
       ·rw [iw,lD hi];exact ez _ (Hg hi)
       ·rw [iw,List.getElem?_eq_none (by omega)];decide)
      have hy2:iJ N=y % 128 :: ((y :: ys).take k).drop 1:=by
       rw [hlb];cases k with
       | zero=>omega
       | succ k=>rfl
      have eZ:y % 128+128=y:=by omega
      subst e1 e2;refine ⟨jC ⟨?_,.inl rfl⟩,?_,by rw [jE,jE];omega,by omega,mt,ez,hds,by show ((fC (r.take 4) 0 ((r.drop 4).take N)).length:Int)≤ae;rw [pS];omega⟩
      ·show ((0≤((x % 16:Nat):Int)∧((x % 16:Nat):Int)≤2)∨(8≤((x % 16:Nat):Int)∧((x % 16:Nat):Int)≤10∧decide (128≤x)=true∧(fC (r.take 4) 0 ((r.drop 4).take N)).length≤125))
       rw [pS,Ap];rcases cX.2.1 with h | h
       ·exact .inl (by omega)
       ·exact .inr ⟨by omega,by omega,by omega,mK h.1⟩
      ·unfold aT nU
       rw [if_pos rfl,if_pos rfl];simp only [pS,Bh];rw [gT,hy2,Dx,WY,Af,eZ];have e3:1+k+4+N=(k+(4+N))+1:=by omega
       rw [e3,yB]
       conv=>rhs;rw [← AI]
       have e4:((y :: ys).take k).length=k:=by rw [kQ];omega
       have e5:((y :: ys).take k++r).take (k+(4+N))=(y :: ys).take k++r.take (4+N):=by
        conv=>lhs;rw [show k+(4+N)=((y :: ys).take k).length+(4+N) by rw [e4]]
        rw [List.take_length_add_append]
       have e6:r.take (4+N)=r.take 4++(r.drop 4).take N:=by rw [List.take_add]
       rw [e5,e6];have e7:(y :: ys).take k=y :: ((y :: ys).take k).drop 1:=by
        cases k with
        | zero=>omega
        | succ k=>rfl
       conv=>rhs;rw [e7]
       simp only [DK,Ae]
     ·rw [if_neg hmask] at h
      by_cases hr:((y :: ys).drop k).length<N
      ·rw [if_pos hr] at h;injection h with _ e;injection e with _ e;cases e
      rw [if_neg hr] at h;injection h with e1 e2
      injection e2 with e2 _
      obtain ⟨r,pt⟩:=zX ((y :: ys).drop k);have AI:(y :: ys).take k++r=y :: ys:=by rw [← pt,Ee]
      have wv:r.length+k=ys.length+1:=by rw [← pt,iP,jE];omega
      have us:∀ z∈r,z<256:=fun z hz=>M5 z (by rw [← AI];exact WX _ hz)
      rw [pt] at e1 hr;have pS:(r.take N).length=N:=by rw [kQ];omega
      have eZ:y % 128=y:=by omega
      rw [eZ] at hlb;subst e1 e2;refine ⟨jC ⟨?_,.inr rfl⟩,?_,by rw [jE,jE];omega,by omega,rfl,fun z hz=>by simp [bn] at hz;omega,fun z hz=>us z (Hf hz),by show ((r.take N).length:Int)≤ae;rw [pS];omega⟩
      ·show ((0≤((x % 16:Nat):Int)∧((x % 16:Nat):Int)≤2)∨(8≤((x % 16:Nat):Int)∧((x % 16:Nat):Int)≤10∧decide (128≤x)=true∧(r.take N).length≤125))
       rw [pS,Ap];rcases cX.2.1 with h | h
       ·exact .inl (by omega)
       ·exact .inr ⟨by omega,by omega,by omega,mK h.1⟩
      ·unfold aT nU
       rw [if_neg (by simp),if_neg (by simp)];simp only [pS];rw [gT,hlb];have e3:1+k+N=(k+N)+1:=by omega
       rw [e3,yB]
       conv=>rhs;rw [← AI]
       have e4:((y :: ys).take k).length=k:=by rw [kQ];omega
       conv=>rhs;rw [show k+N=((y :: ys).take k).length+N by rw [e4],List.take_length_add_append]
       simp only [DK]
theorem Rh {f:Fr} (h:nI f=0):dF f=true∧f.data.length≤65536:=by
 unfold nI at h;by_cases h1:dF f=false
 ·rw [if_pos h1] at h;cases h
 ·rw [if_neg h1] at h
  by_cases h2:65536<f.data.length
  ·rw [if_pos h2] at h;cases h
  ·exact ⟨by simpa using h1,by omega⟩
theorem Bo {f:Fr} (h:dF f=true) (h2:f.data.length≤65536):nI f=0:=by
 unfold nI;rw [if_neg (by rw [h];simp),if_neg (by omega)]
end
end aC
namespace aG
open bg
section
variable {l s:List Nat} {e:Nat}
def jc (l:List Nat):Bool:=decide (dK s0 l=some s0)
def dS (n:Int):Bool:=(decide (1000≤n)&&decide (n≤1003))||((decide (1007≤n)&&decide (n≤1011))||(decide (3000≤n)&&decide (n≤4999)))
theorem yG (n:Int):dS n=true↔(1000≤n∧n≤1003)∨(1007≤n∧n≤1011)∨(3000≤n∧n≤4999):=by
 simp [dS]
theorem Hy (n:Int):dS n=false↔¬ ((1000≤n∧n≤1003)∨(1007≤n∧n≤1011)∨(3000≤n∧n≤4999)):=by
 rw [← yG];simp
theorem sV {n:Int} (h:dS n=true):1000≤n∧n≤4999:=by
 have:=(yG n).1 h;omega
def Hz (n:Nat):List Nat:=[n / 256,n % 256]
theorem Og {n:Nat} (h:n<65536):∀ x∈Hz n,x<256:=fun x hx=>by
 simp only [Hz,DN,pJ,or_false] at hx;rcases hx with rfl | rfl<;>omega
def eY (n:Int) (l:List Nat):List Nat×Nat :=
 if n=0∧l=[] then ([],0)
 else if dS n=false∨123<l.length then ([],110)
 else if jc l=false then ([],111)
 else (Hz n.toNat++l,0)
def iy:List Nat→Int×List Nat×Nat
 | []=>(1005,[],0)
 | [_]=>(0,[],110)
 | x :: y :: l=>if 123<l.length∨dS ((256*x+y:Nat):Int)=false then (0,[],110) else if jc l=false then (0,[],111) else (((256*x+y:Nat):Int),l,0)
theorem vZ (x y:Nat) (l:List Nat):iy (x :: y :: l)=if 123<l.length∨dS ((256*x+y:Nat):Int)=false then (0,[],110) else if jc l=false then (0,[],111) else (((256*x+y:Nat):Int),l,0):=rfl
def dI (e:Int):Int:=if e=0 then 1000 else if e=91∨e=100∨e=110∨e=120 then 1002 else if e=111∨e=122 then 1007 else if e=92∨e=121 then 1009 else 1011
def bI (n:Int):Int:=if n=1005 then 0 else if dS n=true then n else 1011
theorem Ri {n:Int} (h:eY n l=(s,0)):(n=0∧l=[]∧s=[])∨(dS n=true∧l.length≤123∧jc l=true∧s=Hz n.toNat++l):=by
 unfold eY at h;by_cases h1:n=0∧l=[]
 ·rw [if_pos h1] at h;injection h with h _;exact .inl ⟨h1.1,h1.2,h.symm⟩
 rw [if_neg h1] at h;by_cases h2:dS n=false∨123<l.length
 ·rw [if_pos h2] at h;injection h with _ h;cases h
 rw [if_neg h2] at h;by_cases h3:jc l=false
 ·rw [if_pos h3] at h;injection h with _ h;cases h
 rw [if_neg h3] at h;injection h with h _
 exact .inr ⟨by by_cases hv:dS n=true;exact hv;exact absurd (.inl (by simpa using hv)) h2,by omega,by simpa using h3,h.symm⟩
theorem wo {n:Int} (h1:dS n=true) (h2:l.length≤123) (h3:jc l=true):eY n l=(Hz n.toNat++l,0):=by
 have:=sV h1;unfold eY;rw [if_neg (by omega),if_neg (by rw [h1];intro h;rcases h with h | h;cases h;omega),if_neg (by rw [h3];decide)]
theorem U1 {n:Int} (h:eY n l=(s,e)) (he:e≠0):s=[]∧(e=110∨e=111):=by
 unfold eY at h;split at h
 ·injection h with _ h;exact absurd h.symm he
 split at h
 ·injection h with h h';exact ⟨h.symm,.inl h'.symm⟩
 split at h
 ·injection h with h h';exact ⟨h.symm,.inr h'.symm⟩
 ·injection h with _ h;exact absurd h.symm he
theorem sW {n:Int} (h:eY n l=(s,0)):s.length≤125∧((n=0∧s=[])∨(s.length=2+l.length∧s.drop 2=l)):=by
 rcases Ri h with ⟨rfl,rfl,rfl⟩ | ⟨h1,h2,_,rfl⟩
 ·exact ⟨by simp,.inl ⟨rfl,rfl⟩⟩
 ·refine ⟨by simp [Hz];omega,.inr ⟨by simp [Hz];omega,rfl⟩⟩
theorem je {n:Int} (hl:∀ y∈l,y<256) (h:eY n l=(s,e)):∀ y∈s,y<256:=by
 by_cases he:e=0
 ·subst he
  rcases Ri h with ⟨_,_,rfl⟩ | ⟨h1,_,_,rfl⟩
  ·intro y hy;cases hy
  ·intro y hy
   have:=sV h1;rcases sN.1 hy with hy | hy
   ·exact Og (by omega) y hy
   ·exact hl y hy
 ·rw [(U1 h he).1];intro y hy;cases hy
theorem JR (e:Int):dS (dI e)=true:=by
 unfold dI;split
 ·rfl
 split
 ·rfl
 split
 ·rfl
 split<;>rfl
theorem FC (n:Int):bI n=0∨dS (bI n)=true:=by
 unfold bI;split
 ·exact .inl rfl
 split
 ·rename_i h;exact .inr h
 ·exact .inr rfl
end
end aG
namespace aA
open aC (Fr dF aQ bn eF jC)
open aG (iy)
open bg (s0 dP dK jh Bf pK)
section
variable {ae:Int} {t:List Nat} {f:Fr}
structure Ev where
 op:Int
 ao:Int
 data:List Nat
deriving DecidableEq
structure Ms where
 bj:Nat
 aL:Bool
 cg:Bool
 op:Int
 aT:List Nat
deriving DecidableEq
def M0:Ms:=⟨0,false,false,0,[]⟩
def gG (e:Nat):Ms:=⟨e,false,false,0,[]⟩
def done:Ms:=⟨0,true,false,0,[]⟩
def wu (op:Int) (aN:Bool) (t:List Nat):Bool:=!(decide (op=1)&&(decide (dP s0 t<t.length)||(aN&&!aG.jc t)))
def dY (ae:Int) (aN:Bool) (op:Int) (t:List Nat):Ms×Option Ev :=
 if ae<(t.length:Int) then (gG 121,none)
 else if wu op aN t=false then (gG 122,none)
 else if aN=true then (M0,some ⟨op,0,t⟩) else (⟨0,false,true,op,t⟩,none)
def step (ae:Int) (st:Ms) (f:Fr):Ms×Option Ev :=
 if dF f=false then (gG 120,none)
 else if f.op=9∨f.op=10 then (st,some ⟨f.op,0,f.data⟩)
 else if f.op=8 then
  if (iy f.data).2.2=0 then (done,some ⟨8,(iy f.data).1,(iy f.data).2.1⟩) else (gG (iy f.data).2.2,none)
 else if decide (f.op=0)≠st.cg then (gG 120,none)
 else dY ae f.aN (if st.cg then st.op else f.op) (st.aT++f.data)
def take (ae:Int) (st:Ms) (f:Fr):Ms×Option Ev:=if st.bj≠0∨st.aL=true then (st,none) else step ae st f
def run (ae:Int) (st:Ms):List Fr→Ms×List Ev
 | []=>(st,[])
 | f :: l=>((run ae (take ae st f).1 l).1,(take ae st f).2.toList++(run ae (take ae st f).1 l).2)
theorem jv (ae:Int) (st:Ms) (f:Fr) (l:List Fr):run ae st (f :: l)=((run ae (take ae st f).1 l).1,(take ae st f).2.toList++(run ae (take ae st f).1 l).2):=rfl
theorem gI (ae:Int):∀ (a b:List Fr) (st:Ms),run ae st (a++b)=((run ae (run ae st a).1 b).1,(run ae st a).2++(run ae (run ae st a).1 b).2)
 | [],b,st=>by simp [run]
 | f :: a,b,st=>by rw [DK,jv,jv,gI ae a b,Ae]
theorem Ar (ae:Int) (st:Ms) (f:Fr):run ae st [f]=((take ae st f).1,(take ae st f).2.toList):=by simp [run]
structure vP (ae:Int) (st:Ms):Prop where
 bj:st.bj≠0→st=gG st.bj
 aL:st.aL=true→st=done
 idle:st.cg=false→st.aT=[]∧st.op=0
 op:st.cg=true→st.op=1∨st.op=2
 ae:(st.aT.length:Int)≤ae
 fO:∀ y∈st.aT,y<256
 right:st.op=1→dP s0 st.aT=st.aT.length
theorem JS (h:0≤ae):vP ae M0:=⟨fun h=>absurd rfl h,fun h=>(by cases h),fun _=>⟨rfl,rfl⟩,fun h=>(by cases h),h,fun _ hy=>(by cases hy),fun h=>(by cases h)⟩
theorem wC (h:0≤ae) (e:Nat):vP ae (gG e):=⟨fun _=>rfl,fun h=>(by cases h),fun _=>⟨rfl,rfl⟩,fun h=>(by cases h),h,fun _ hy=>(by cases hy),fun h=>(by cases h)⟩
theorem Rj (h:0≤ae):vP ae done:=⟨fun h=>absurd rfl h,fun _=>rfl,fun _=>⟨rfl,rfl⟩,fun h=>(by cases h),h,fun _ hy=>(by cases hy),fun h=>(by cases h)⟩
theorem Oh {op:Int} {aN:Bool} (h:wu op aN t=true) (h1:op=1):dP s0 t=t.length:=by
 unfold wu at h;rw [iG h1,JF,Bool.not_eq_true',Xk,JI] at h;have:=pK t s0;omega
theorem Rk (h:0≤ae) {aN:Bool} {op:Int} (ho:op=1∨op=2) (hs:∀ y∈t,y<256):vP ae (dY ae aN op t).1:=by
 unfold dY;split
 ·exact wC h _
 split
 ·exact wC h _
 split
 ·exact JS h
 ·rename_i h1 h2 _
  exact ⟨fun h=>absurd rfl h,fun h=>(by cases h),fun h=>(by cases h),fun _=>ho,by show ((t.length:Nat):Int)≤ae;omega,hs,fun h=>Oh (by simpa using h2) h⟩
theorem nV (h:0≤ae) {st:Ms} (hf:vP ae st) (hs:∀ y∈f.data,y<256):vP ae (take ae st f).1:=by
 unfold take;split
 ·exact hf
 unfold step;split
 ·exact wC h _
 rename_i ib
 split
 ·exact hf
 split
 ·split
  ·exact Rj h
  ·exact wC h _
 split
 ·exact wC h _
 rename_i h1 h2 h3
 refine Rk h ?_ (fun y hy=>?_)
 ·split
  ·rename_i hb;exact hf.op hb
  ·rename_i hb
   have hb':st.cg=false:=by simpa using hb
   rw [hb'] at h3;have h0:f.op≠0:=fun e=>h3 (by rw [e];simp)
   have:=(eF (f:=f) (by simpa using ib)).1;omega
 ·rcases sN.1 hy with hy | hy
  ·exact hf.fO y hy
  ·exact hs y hy
theorem wE (h:0≤ae):∀ (l:List Fr) {st:Ms},vP ae st→(∀ f∈l,∀ y∈f.data,y<256)→vP ae (run ae st l).1
 | [],_,hf,_=>hf
 | f :: l,st,hf,hs=>wE h l (nV h hf (hs f (by simp))) (fun g hg=>hs g (by simp [hg]))
theorem sZ (ae:Int) {st:Ms} (h:st.bj≠0∨st.aL=true) (f:Fr):take ae st f=(st,none):=if_pos h
theorem jw (ae:Int) {st:Ms} (h:st.bj≠0∨st.aL=true):∀ l,run ae st l=(st,[])
 | []=>rfl
 | f :: l=>by
   rw [jv,sZ ae h,jw ae h l];rfl
theorem oL (ae:Int) {st:Ms} (h1:st.bj=0) (h2:st.aL=false) (f:Fr):take ae st f=step ae st f:=if_neg (by rw [h1,h2];simp)
theorem wF {st:Ms} (h0:st.bj=0) (h:(step ae st f).2≠none):(step ae st f).1.bj=0:=by
 unfold step at h ⊢;by_cases a1:dF f=false
 ·rw [if_pos a1] at h;exact absurd rfl h
 rw [if_neg a1] at h ⊢;by_cases a2:f.op=9∨f.op=10
 ·rw [if_pos a2];exact h0
 rw [if_neg a2] at h ⊢;by_cases a3:f.op=8
 ·rw [if_pos a3] at h ⊢
  by_cases a4:(iy f.data).2.2=0
  ·rw [if_pos a4];rfl
  ·rw [if_neg a4] at h;exact absurd rfl h
 rw [if_neg a3] at h ⊢;by_cases a4:decide (f.op=0)≠st.cg
 ·rw [if_pos a4] at h;exact absurd rfl h
 rw [if_neg a4] at h ⊢;unfold dY at h ⊢;by_cases a5:ae<((st.aT++f.data).length:Int)
 ·rw [if_pos a5] at h;exact absurd rfl h
 rw [if_neg a5] at h ⊢;by_cases a6:wu (if st.cg then st.op else f.op) f.aN (st.aT++f.data)=false
 ·rw [if_pos a6] at h;exact absurd rfl h
 rw [if_neg a6] at h ⊢;by_cases a7:f.aN=true
 ·rw [if_pos a7];rfl
 ·rw [if_neg a7] at h;exact absurd rfl h
end
end aA
namespace cO
open aC (Fr dn dF aQ bn jC)
open aA
open bg (s0 dP)
section
variable {ae:Nat} {t:List Nat}
def FH:Nat→Nat→Int→List Nat→List Fr
 | 0,_,op,t=>[⟨true,op,false,bn,t⟩]
 | n+1,ae,op,t=>if t.length≤ae then [⟨true,op,false,bn,t⟩] else ⟨false,op,false,bn,t.take ae⟩ :: FH n ae 0 (t.drop ae)
def jr (ae:Nat) (op:Int) (t:List Nat):List Fr:=FH t.length ae op t
theorem Ej (hm:1≤ae):∀ (n k:Nat) (op:Int) (t:List Nat),t.length≤n→t.length≤k→FH n ae op t=FH k ae op t
 | 0,0,_,_,_,_=>rfl
 | 0,k+1,op,t,h,_=>by
   have:t=[]:=yA (by omega);subst this;simp [FH]
 | n+1,0,op,t,_,h=>by
   have:t=[]:=yA (by omega);subst this;simp [FH]
 | n+1,k+1,op,t,h1,h2=>by
   simp only [FH];by_cases h:t.length≤ae
   ·rw [if_pos h,if_pos h]
   ·rw [if_neg h,if_neg h,Ej hm n k 0 (t.drop ae) (by rw [iP];omega) (by rw [iP];omega)]
theorem jH {op:Int} (h:t.length≤ae):jr ae op t=[⟨true,op,false,bn,t⟩]:=by
 unfold jr;cases ht:t.length with
 | zero=>rfl
 | succ n=>simp only [FH];rw [if_pos h]
theorem mY (hm:1≤ae) {op:Int} (h:¬ t.length≤ae):jr ae op t=⟨false,op,false,bn,t.take ae⟩ :: jr ae 0 (t.drop ae):=by
 unfold jr
 match hl:t.length with
 | 0=>omega
 | n+1 =>
   simp only [FH];rw [if_neg h,Ej hm n (t.drop ae).length 0 (t.drop ae) (by rw [iP];omega) (aY _)]
theorem FI (ae:Nat) (hm:1≤ae) (op:Int) (t:List Nat):0<(jr ae op t).length:=by
 by_cases h:t.length≤ae
 ·rw [jH h];exact Nat.one_pos
 ·rw [mY hm h];simp
def FK (size ae:Nat):Nat:=if size=0 then 1 else (size+ae-1) / ae
theorem U2 {size:Nat} (hm:1≤ae) (h:size≤ae):FK size ae=1:=by
 unfold FK;by_cases h0:size=0
 ·rw [if_pos h0]
 ·rw [if_neg h0]
  refine Nat.div_eq_of_lt_le ?_ ?_<;>omega
theorem Rl {size:Nat} (hm:1≤ae) (h:¬ size≤ae):FK size ae=FK (size-ae) ae+1:=by
 unfold FK;rw [if_neg (by omega),if_neg (by omega)];have e:size+ae-1=size-ae+ae-1+ae:=by omega
 rw [e,Nat.add_div_right _ (by omega)]
theorem uT (hm:1≤ae):∀ (n:Nat) (op:Int) (t:List Nat),t.length≤n→(jr ae op t).length=FK t.length ae
 | n,op,t,hn=>by
   by_cases h:t.length≤ae
   ·rw [jH h,U2 hm h];rfl
   ·match n,hn with
    | 0,hn=>omega
    | n+1,hn =>
      rw [mY hm h,jE,uT hm n 0 (t.drop ae) (by rw [iP];omega),iP,Rl hm h]
theorem uU {size:Nat} (hm:1≤ae):1≤FK size ae∧size≤FK size ae*ae∧(FK size ae=1∨(FK size ae-1)*ae<size)∧FK size ae≤size+1:=by
 unfold FK;by_cases h:size=0
 ·rw [if_pos h];omega
 ·rw [if_neg h]
  have h1:=Nat.div_add_mod (size+ae-1) ae;have h2:=Nat.mod_lt (size+ae-1) (show 0<ae by omega);generalize (size+ae-1) / ae=q at *;have hc:ae*q=q*ae:=Nat.mul_comm _ _;have hq:1≤q:=by
   rcases Nat.eq_zero_or_pos q with h0 | h0
   ·subst h0;simp at h1;omega
   ·exact h0
  have hs:(q-1)*ae=q*ae-ae:=by rw [Nat.sub_mul,Nat.one_mul]
  have hqm:q≤q*ae:=Nat.le_mul_of_pos_right q hm;refine ⟨hq,by omega,.inr (by omega),?_⟩;have:q-1≤(q-1)*ae:=Nat.le_mul_of_pos_right (q-1) hm;omega
theorem Mc (hm:1≤ae):∀ (i:Nat) (op:Int) (t:List Nat),i<(jr ae op t).length →
 (jr ae op t).getD i dn=⟨decide (i+1=(jr ae op t).length),if i=0 then op else 0,false,bn,(t.drop (i*ae)).take ae⟩
 | i,op,t,hi=>by
   by_cases h:t.length≤ae
   ·rw [jH h] at hi ⊢
    obtain rfl:i=0:=by simpa using hi
    simp [nC h]
   ·rw [mY hm h] at hi ⊢
    have hp:=FI ae hm 0 (t.drop ae)
    match i,hi with
    | 0,_ =>
      rw [Dx,if_pos rfl,Nat.zero_mul,Af,iQ (by rw [jE];omega)]
    | i+1,hi =>
      have lB:i<(jr ae 0 (t.drop ae)).length:=by simpa using hi
      have hg:=Mc hm i 0 (t.drop ae) lB;rw [List.getD_cons_succ,hg];simp only [jE,QN,Nat.add_right_cancel_iff,ite_self,Nat.add_eq_zero_iff,Nat.one_ne_zero,and_false,if_false];congr 3;rw [Nat.succ_mul];omega
end
end cO
namespace Go.Proofs.YtlahonjmfecikaaGreatDoor
open Go.RowKit
section
variable {b k i fuel p:Nat} {l bs:List Nat} {a:Act} {w w':World} {v:Value} {d:Option Tmp} {ai:Array Bool}
structure Sl (p:Prop):Prop where
 ah:p
def v8 (n:Nat):Value:=.int .u8 (n:Int)
def dZ (l:List Nat):List Value:=l.map v8
@[simp] theorem Bq (l:List Nat):(dZ l).length=l.length:=by simp [dZ]
theorem jl (l:List Nat) (i:Nat) (h:i<l.length):(dZ l)[i]? = some (.int .u8 ((l.getD i 0:Nat):Int)):=by
 simp [dZ,v8,lD h]
theorem oM (l:List Nat):∀ v∈dZ l,v.oneCell'=true:=by
 intro v hv;simp [dZ,v8] at hv;obtain ⟨n,_,rfl⟩:=hv;rfl
theorem qB (a b:List Nat):dZ (a++b)=dZ a++dZ b:=by simp [dZ]
def aU (b:Nat) (l:List Nat):Prop:=∀ x∈l,x<b
theorem aU.append {m:List Nat} (h:aU b l) (k:aU b m):aU b (l++m):=fun x hx=>by
 rcases sN.1 hx with hx | hx
 ·exact h x hx
 ·exact k x hx
theorem aU.take (h:aU b l) (n:Nat):aU b (l.take n):=fun x hx=>h x (Hf hx)
theorem aU.drop (h:aU b l) (n:Nat):aU b (l.drop n):=fun x hx=>h x (Ef hx)
theorem aU.getD (h:aU b l) (hb:0<b) (i:Nat):l.getD i 0<b:=by
 by_cases hi:i<l.length
 ·simpa [List.getD,lD hi] using h _ (Hg hi)
 ·simpa [List.getD,List.getElem?_eq_none (Nat.le_of_not_lt hi)] using hb
theorem aI (w:World) (o:Obj) (k:Nat) (h:k=w.heap.size):(w.alloc o).heap[k]? = some o:=by
 subst h;show (w.heap.push o)[w.heap.size]? = _;simp
theorem aP (w:World) (o:Obj):(w.alloc o).heap.size=w.heap.size+1:=by show (w.heap.push o).size=_;simp
theorem bF {a b:Bool} (h:a=b):Ending.returned (.bool a)=.returned (.bool b):=by rw [h]
theorem oN {k:IntKind} {a b:Int} (h:a=b):Ending.returned (.int k a)=.returned (.int k b):=by rw [h]
theorem gJ (w:World) (o:Obj) (k:Nat) (h:k<w.heap.size):(w.alloc o).heap[k]? = w.heap[k]?:=Below.heap_alloc w o k h
def bytes (s:ByteArray):List Nat:=s.data.toList.map (·.toNat)
theorem au (s:ByteArray):(bytes s).length=s.size:=by unfold bytes;rw [List.length_map,Array.length_toList];rfl
theorem aJ (s:ByteArray):aU 256 (bytes s):=fun x hx=>by
 simp only [bytes,List.mem_map] at hx;obtain ⟨b,_,rfl⟩:=hx;exact b.toNat_lt
theorem iK (a b:ByteArray):bytes (a++b)=bytes a++bytes b:=by simp [bytes]
theorem dL (s:ByteArray) (i:Nat) (hi:i<s.size):(bytes s).getD i 0=(s.data[i]'hi).toNat:=by
 have lB:i<s.data.size:=hi;simp only [bytes,List.getD,List.getElem?_map,Array.getElem?_toList,Array.getElem?_eq_getElem lB];rfl
theorem kW {a b:ByteArray} (h:bytes a=bytes b):a=b:=by
 unfold bytes at h;have h2:a.data.toList=b.data.toList:=by
  have:=(List.map_inj_right (fun x y (e:UInt8.toNat x=UInt8.toNat y)=>UInt8.toNat_inj.1 e)).1 h;exact this
 cases a;cases b
 simp at h2;simp [h2]
theorem bC (s:ByteArray) (i j:Nat):bytes (s.extract i j)=((bytes s).take j).drop i:=by
 unfold bytes;rw [ByteArray.data_extract,Array.toList_extract,List.extract_eq_take_drop,← List.map_take,← List.map_drop];congr 1;rw [List.drop_take]
theorem wG (x:ByteArray):bytes x=x.toList.map (·.toNat):=by rw [ByteArray.toList_eq];rfl
theorem DU {a b:List UInt8} (h:a.map (·.toNat)=b.map (·.toNat)):a=b:=(List.map_inj_right (fun x y (e:UInt8.toNat x=UInt8.toNat y)=>UInt8.toNat_inj.1 e)).1 h
theorem nO (a:ByteArray) (l:List UInt8):(a.toList==l)=decide (bytes a=l.map (·.toNat)):=by
 rw [QL,wG];simp only [beq_iff_eq,Ap];exact ⟨fun h=>by rw [h],DU⟩
theorem JU (a b:ByteArray):(a.toList==b.toList)=decide (bytes a=bytes b):=by rw [nO,← wG]
def aF (l:List Nat):ByteArray:=strOfNums (l.map fun (n:Nat)=>(n:Int))
theorem cZ (l:List Nat):(aF l).size=l.length:=by unfold aF;rw [strOfNums_size];simp
theorem dm (l:List Nat) (h:aU 256 l):bytes (aF l)=l:=by
 unfold bytes aF;rw [strOfNums_data,List.map_map,List.map_map]
 conv=>rhs;rw [← List.map_id l]
 refine List.map_congr_left (fun x hx=>?_);have:=h x hx;simp only [Function.comp_def,Int.toNat_natCast,id];exact UInt8.toNat_ofNat_of_lt' this
theorem bT (s:ByteArray):aF (bytes s)=s:=kW (dm _ (aJ s))
def bJ (w:World) (v:Value) (bs:List Nat):Prop :=
 ∃ (a:Option Addr) (cap sb so:Nat),v=.slice a bs.length cap∧bs.length≤cap∧(0<bs.length→a=some ⟨sb,so,none⟩) ∧
   ∀ i,i<bs.length→w.cell? ⟨sb,so+i,none⟩=some (.int .u8 ((bs.getD i 0:Nat):Int))
theorem lJ (s:ByteArray) (W:World):∃ cap w',(convert 9 49 (.string s)).run prog W=.ok (.slice (some ⟨W.heap.size,0,none⟩) s.size cap) w' ∧
 Sl (bJ w' (.slice (some ⟨W.heap.size,0,none⟩) s.size cap) (bytes s))∧Sl (Below W.heap.size W w'):=by
 refine ⟨_,_,run_bytes_of_string (P:=prog) W 9 49 5 s underlying9 underlying49 underlying5,⟨?_⟩,⟨((Below.refl _ _).drew).alloc (aY _) _⟩⟩;refine ⟨some ⟨W.heap.size,0,none⟩,_,W.heap.size,0,by rw [au],by rw [au];exact grownCap_ge _ _ _ _,fun _=>rfl,fun i hi=>?_⟩;rw [au] at hi;rw [vT];have h:=World.cell?_alloc_mark W.drew (bytesRow s (grownCap W s.size 0 5)) 5 ((bytesRow s (grownCap W s.size 0 5)).size,(bytesRow s (grownCap W s.size 0 5)).size+1) i;rw [show W.drew.heap.size=W.heap.size from rfl] at h;rw [h,bytesRow_at s _ i hi,dL s i hi]
theorem jI (h:Below w.heap.size w w') (r:Option Nat):w.grownBy w' r:=⟨h.os,h.tape,h.output,h.size,fun k hk _=>h.block k hk⟩
theorem pO {base:Nat} {e:TypeId} {size:Nat} {n:Nat} {xs:List Value} (h:w.ownsRow base e size v n xs) (hb:Below w.heap.size w w'):w'.ownsRow base e size v n xs :=
 h.kept (jI hb none) (by cases h2:v.ownBlock with | none=>exact .inl rfl | some k=>exact .inr (fun e=>by cases e))
theorem iV (w:World) (r:Option Nat):w.grownBy w r:=⟨rfl,rfl,rfl,aY _,fun _ _ _=>rfl⟩
theorem dO {a b c:World} {r:Option Nat} (h:a.grownBy b r) (k:b.grownBy c r):a.grownBy c r :=
 ⟨k.os.trans h.os,k.tape.trans h.tape,k.output.trans h.output,jd h.size k.size,fun i hi hr=>(k.block i (NQ hi h.size) hr).trans (h.block i hi hr)⟩
theorem aH (w:World) (b i:Nat) (v:Value):w.grownBy (w.setCell ⟨b,i,none⟩ v) (some b) :=
 ⟨rfl,rfl,rfl,by simp [World.setCell],fun k _ hr=>heap_setCell_other _ _ _ _ (fun e=>hr (by rw [e]))⟩
theorem jJ (b:Nat):∀ (vs:List Value) (o:Nat) (w:World),w.grownBy (w.setCells b o vs) (some b)
 | [],_,w=>iV w _
 | v :: r,o,w=>by rw [World.setCells];exact dO (aH w b o v) (jJ b r (o+1) _)
def splice (l:List Nat) (i:Nat) (c:List Nat):List Nat:=l.take i++c++l.drop (i+c.length)
theorem dB (l c:List Nat) (i:Nat) (h:i+c.length≤l.length):(splice l i c).length=l.length:=by
 simp only [splice,jB,kQ,iP];omega
theorem uV (l c:List Nat) (i k:Nat) (h:i+c.length≤l.length):(splice l i c).getD k 0=if i≤k∧k<i+c.length then c.getD (k-i) 0 else l.getD k 0:=by
 unfold splice;have hl:(l.take i).length=i:=by rw [kQ];omega
 simp only [iw];by_cases h1:k<i
 ·rw [if_neg (by omega),Ae,Ec (by omega),List.getElem?_take,if_pos h1]
 ·by_cases h2:k<i+c.length
  ·rw [if_pos ⟨by omega,h2⟩,Ae,QC (by omega),Ec (by omega),hl]
  ·rw [if_neg (by omega),QC (by rw [jB];omega),LW,jB,hl]
   congr 2;omega
theorem pP {a b:List Nat} (hl:a.length=b.length) (h:∀ i,i<a.length→a.getD i 0=b.getD i 0):a=b:=by
 apply List.ext_getElem hl;intro i h1 h2;have:=h i h1;simpa [iw,lD h1,lD h2] using this
theorem lK {a b:List Nat} (h:i<a.length):(a++b).getD i 0=a.getD i 0:=by
 simp only [iw];rw [Ec h]
theorem kR {a b:List Nat} (h:a.length≤i):(a++b).getD i 0=b.getD (i-a.length) 0:=by
 simp only [iw];rw [QC h]
section
variable {P:Program} {md:Region.Mode} {aR:Array Oper} {Q:Exit→Act→World→Prop} {S:World→Prop}
def pR (aR:Array Oper) (i:Nat) (d:Option Tmp) (op:Op) (g:Option (Nat×Bool)):Prop:=(aR[i]?).map (fun o=>(o.dst,o.op,o.guard))=some (d,op,g)
theorem uX {op:Op} {g:Option (Nat×Bool)} (h:pR aR i d op g):∃ o,aR[i]? = some o∧o.dst=d∧o.op=op∧o.guard=g:=by
 unfold pR at h;cases ho:aR[i]? with
 | none=>rw [ho] at h;cases h
 | some o =>
   rw [ho] at h;simp only [Dy,Option.some.injEq,Prod.mk.injEq] at h;exact ⟨o,rfl,h.1,h.2.1,h.2.2⟩
def jc (aR:Array Oper) (a:Act):Option (Nat×Bool)→Bool
 | none=>true
 | some (j,want)=>yielded aR a.tmps j==some want
theorem fJ {o:Oper} {g:Option (Nat×Bool)} (hg:o.guard=g) (h:jc aR a g=true):Region.wanted o (yielded aR a.tmps)=true:=by
 unfold Region.wanted;rw [hg];cases g with
 | none=>rfl
 | some p=>exact h
theorem Rn {op:Op} {g:Option (Nat×Bool)} (i:Nat) (v:Value) (hi:pR aR i d op g) (hw:jc aR a g=true)
 (hs:Region.noSelect aR=true) (hf:Region.free md aR ai i=true) (hr:(Region.ready md aR ai).contains i=true)
 (hy:∀ o:Oper,o.op=op→∀ w,S w→(execOp a.eval o).run P w=.ok (.value v) w) (hS:S w)
 (h:wpAnyH P md aR (NoPanic Q) S fuel (ai.setIfInBounds i true) (a.put d v) w):wpAnyH P md aR (NoPanic Q) S (fuel+1) ai a w:=by
 obtain ⟨o,ho,hd,cY,hg⟩:=uX hi;refine wpAnyH_take ho hs hf hr (fun _ _ _ h=>h) (Or.inl ⟨fJ hg hw,hy o cY⟩) hS ?_;rw [hd];exact h
theorem wH {S':World→Prop} (hs:∀ W,S' W→S W):∀ (fuel:Nat) (ai:Array Bool) (a:Act) (w:World),wpAnyH P md aR Q S' fuel ai a w→wpAnyH P md aR Q S fuel ai a w
 | 0,_,_,_,h=>h
 | fuel+1,ai,_,_,h=>⟨h.1,fun i hi=>wpOp_mono (fun a w k=>⟨hs _ k.1,wH hs fuel (ai.setIfInBounds i true) a w k.2⟩) (h.2 i hi)⟩
theorem mZ {op:Op} {g:Option (Nat×Bool)} (i:Nat) (hi:pR aR i d op g) (hw:jc aR a g=false)
 (hs:Region.noSelect aR=true) (hf:Region.free md aR ai i=true) (hr:(Region.ready md aR ai).contains i=true) (hS:S w)
 (h:wpAnyH P md aR (NoPanic Q) S fuel (ai.setIfInBounds i true) (a.put d undef) w):wpAnyH P md aR (NoPanic Q) S (fuel+1) ai a w:=by
 obtain ⟨o,ho,hd,cY,hg⟩:=uX hi;have hwf:Region.wanted o (yielded aR a.tmps)=false:=by
  unfold Region.wanted;rw [hg];cases g with
  | none=>cases hw
  | some p=>exact hw
 refine wpAnyH_take ho hs hf hr (fun _ _ _ h=>h) (Or.inr ⟨hwf,rfl⟩) hS ?_;rw [hd];exact h
theorem Ro {op:Op} {g:Option (Nat×Bool)} (i:Nat) (f:FuncId) (args:Array Value) (hi:pR aR i d op g) (hw:jc aR a g=true)
 (hr:Region.ready md aR ai=[i]) (hy:∀ o:Oper,o.op=op→(execOp a.eval o).run P w=.ok (.enter f args) w)
 (h:Calls P f args w fun e w'=>∃ v,e=.returned v∧S w'∧wpAnyH P md aR Q S fuel (ai.setIfInBounds i true) (a.put d v) w'):wpAnyH P md aR Q S (fuel+1) ai a w:=by
 obtain ⟨o,ho,hd,cY,hg⟩:=uX hi;refine wpAnyH_all hr (by simp) (fun k hk=>?_);rw [uF] at hk;subst hk;refine wpOp_step ho (fun K hK=>?_);rw [if_pos (fJ hg hw)];unfold Oper.wp;rw [hy o cY,Oper.upon_enter];refine h.mono ?_;rintro e w' ⟨v,rfl,hS,h'⟩;rw [hd];exact hK _ _ ⟨hS,h'⟩
end
theorem JV (l c:List Nat) (i:Nat):Go.splice (dZ l) i (dZ c)=dZ (splice l i c):=by
 simp [Go.splice,splice,dZ]
theorem bZ (w:World) (g:Nat) (cs:Array Value):w.grownBy (w.setRow g cs) (some g) :=
 ⟨rfl,rfl,rfl,by simp [World.setRow],fun k _ hr=>setRow_other w g k cs (fun e=>hr (by rw [e]))⟩
section
variable {P:Program} {w:World} {aR:Array Oper} {rest:List Oper} {o:Oper} {a:Act} {Q:Exit→Act→World→Prop}
theorem fU (fS:o.guard=none) (d s:Operand) (dT sT:TypeId)
 (ho:o.op=.call {callee:=.builtin .copy,args:=#[d,s],argTypes:=#[dT,sT]}) (elem:TypeId) (hu:P.underlying dT=some (.slice elem)) (gh:(P.info? elem).map (·.size)=some 1)
 (dp sp:Option Addr) (Fw M6 Fx M7:Nat) (hd:a.eval d=.slice dp Fw M6) (hs:a.eval s=.slice sp Fx M7)
 (g off k:Nat) (fI cs:List Nat) (t:TypeId) (hg:w.heap[g]? = some (.cells (dZ fI).toArray t (0,0))) (hk:k=cs.length) (hn:cs.length=min Fx Fw)
 (lE:0<cs.length→dp=some ⟨g,off,none⟩∧∃ sb so,sp=some ⟨sb,so,none⟩∧∀ j,j<cs.length→w.cell? ⟨sb,so+j,none⟩=some (.int .u8 ((cs.getD j 0:Nat):Int)))
 (km:off+cs.length≤fI.length)
 (h:∀ w',Sl (w'.heap[g]? = some (.cells (dZ (splice fI off cs)).toArray t (0,0)))→Sl (w.grownBy w' (some g))→wpList P aR Q rest (a.put o.dst (goInt k)) w') :
 wpList P aR Q (o :: rest) a w:=by
 subst hk;by_cases h0:cs.length=0
 ·obtain rfl:cs=[]:=yA h0
  refine wpList_copy_nothing fS d s dT sT ho elem hu gh dp sp Fw M6 Fx M7 hd hs (by simpa using hn.symm) ?_;exact h w ⟨by simpa [splice] using hg⟩ ⟨iV _ _⟩
 ·obtain ⟨rfl,sb,so,rfl,j8⟩:=lE (by omega)
  have hl:(dZ cs).length=cs.length:=Bq _;refine wpList_copy_own fS d s dT sT ho elem hu gh g off Fw M6 _ Fx M7 hd hs (dZ fI).toArray t hg (dZ cs) (by rw [hl,hn]) (fun j v hv=>?_) (by simpa using km) (oM cs) ?_
  ·have hj:j<cs.length:=by have:=(LV.1 hv).1;rwa [hl] at this
   rw [jl _ _ hj] at hv;injection hv with hv
   subst hv;rw [Addr.add_mid];exact j8 j hj
  ·rw [hl]
   refine h _ ⟨?_⟩ ⟨bZ _ _ _⟩;have e:=JV fI cs off;unfold Go.splice at e;rw [hl] at e;have e2:=setRow_heap w g (dZ fI).toArray ((dZ fI).toArray.toList.take off++(dZ cs++(dZ fI).toArray.toList.drop (off+cs.length))).toArray t _ hg;rw [e2];simp only [e]
end
def zs (n:Nat):List Nat:=List.replicate n 0
@[simp] theorem Em (n:Nat):(zs n).length=n:=by simp [zs]
theorem Rq (n:Nat):aU 256 (zs n):=fun x hx=>by simp only [zs,List.mem_replicate] at hx;omega
theorem info5:(prog.info? 5).map (fun i=>(i.zero,i.size,i.bytes))=some (some (.int .u8 0),1,1):=by kernel_rfl
theorem size5:(prog.info? 5).map (·.size)=some 1:=by kernel_rfl
theorem Md (n:Nat):madeCells (Value.int .u8 0).cells (n*1)=(dZ (zs n)).toArray:=by
 apply Array.ext_getElem?;intro i;by_cases h:i<n<;>simp [madeCells,Value.cells,dZ,v8,zs,Nat.mod_one,h]
theorem oO (X:Int) (n:Nat) (hX:X=(n:Int)) (hn:n≤1000000) (w:World) :
 (Instr.makeSlice 49 (.int .i64 X) (.int .i64 X)).run prog w=.ok (.slice (some ⟨w.heap.size,0,none⟩) n n) (w.alloc (.cells (dZ (zs n)).toArray 5)):=by
 subst hX;have h5:=info5;cases hi:prog.info? 5 with
 | none=>rw [hi] at h5;cases h5
 | some i =>
   rw [hi] at h5;simp only [Dy,Option.some.injEq,Prod.mk.injEq] at h5;obtain ⟨hz,h1,h2⟩:=h5;have:=run_make (P:=prog) w 49 5 i (.int .u8 0) underlying49 hi hz .i64 .i64 (n:Int) (n:Int) (by omega) (by omega) (by rw [h2];omega) (by omega);rw [h1] at this;rw [show ((n:Int).toNat)=n from by omega,Md] at this;exact this
def kS (w:World) (b:Nat) (v:Value) (bs:List Nat):Prop :=
 ∃ (a:Option Addr) (cap sb so:Nat),v=.slice a bs.length cap∧bs.length≤cap∧(0<bs.length→a=some ⟨sb,so,none⟩)∧(0<bs.length→sb≠b) ∧
   ∀ i,i<bs.length→w.cell? ⟨sb,so+i,none⟩=some (.int .u8 ((bs.getD i 0:Nat):Int))
structure mO (w w':World) (b p:Nat):Prop where
 os:w'.os=w.os
 tape:w'.tape=w.tape
 output:w'.output=w.output
 size:w.heap.size≤w'.heap.size
 block:∀ k,k<w.heap.size→k≠b→k≠p→w'.heap[k]? = w.heap[k]?
theorem mO.trans {u v:World} (h:mO u v b p) (k:mO v w b p):mO u w b p :=
 ⟨k.os.trans h.os,k.tape.trans h.tape,k.output.trans h.output,jd h.size k.size,fun i hi h1 h2=>(k.block i (NQ hi h.size) h1 h2).trans (h.block i hi h1 h2)⟩
theorem mO.left (h:w.grownBy w' (some b)):mO w w' b p:=⟨h.os,h.tape,h.output,h.size,fun k hk h1 _=>h.block k hk (fun e=>h1 (by injection e))⟩
theorem mO.right (h:w.grownBy w' (some p)):mO w w' b p:=⟨h.os,h.tape,h.output,h.size,fun k hk _ h1=>h.block k hk (fun e=>h1 (by injection e))⟩
theorem mO.wI (h:Below w.heap.size w w'):mO w w' b p:=⟨h.os,h.tape,h.output,h.size,fun k hk _ _=>h.block k hk⟩
theorem mO.below {w0:World} (h:mO w w' b p) (hb:Below w0.heap.size w0 w) (h1:w0.heap.size≤b) (h2:w0.heap.size≤p):Below w0.heap.size w0 w' :=
 ⟨h.os.trans hb.os,h.tape.trans hb.tape,h.output.trans hb.output,jd hb.size h.size,fun k hk=>(h.block k (NQ hk hb.size) (by omega) (by omega)).trans (hb.block k hk)⟩
def fA (w:World) (g:Nat) (bs:List Nat):Prop:=w.heap[g]? = some (.cells (dZ bs).toArray 5 (0,0))
theorem fA.below {g:Nat} (h:fA w g bs) (k:Below w.heap.size w w'):fA w' g bs:=by
 unfold fA at *;rw [k.block _ (zl h)];exact h
theorem fA.lt {g:Nat} (h:fA w g bs):g<w.heap.size:=(zl h)
theorem fA.src {g:Nat} (h:fA w g bs):bJ w (.slice (some ⟨g,0,none⟩) bs.length bs.length) bs :=
 ⟨_,_,g,0,rfl,aY _,fun _=>rfl,fun i hi=>by rw [vT,cell_of_row _ _ _ _ _ _ h,Ed];exact jl bs i hi⟩
theorem fA.JW {g:Nat} (h:fA w g bs) (hk:bs.length=k):(convert 49 9 (.slice (some ⟨g,0,none⟩) k k)).run prog w=.ok (.string (aF bs)) w:=by
 subst hk;refine run_convert_bytes_arg _ 49 5 underlying49 underlying5 g 0 bs.length bs.length (bs.map fun (n:Nat)=>(n:Int)) (by simp) (fun i hi=>?_) 9 underlying9;have lB:i<bs.length:=by simpa using hi
 rw [vT,cell_of_row _ _ _ _ _ _ h,Ed,jl bs i lB];simp [List.getD,lD lB]
theorem bJ.off (h:bJ w v bs) (hb:w.heap.size≤b):kS w b v bs:=by
 obtain ⟨a,cap,sb,so,h0,h1,h3,h5⟩:=h;refine ⟨a,cap,sb,so,h0,h1,h3,fun hp=>?_,h5⟩;have:=block_lt_of_cell (h5 0 hp);intro e;simp only at this;omega
theorem bJ.Yx {g n c:Nat} (h:bJ w (.slice (some ⟨g,0,none⟩) n c) bs) (hb:b<g):kS w b (.slice (some ⟨g,0,none⟩) n c) bs:=by
 obtain ⟨a,cap,sb,so,h0,h1,h3,h5⟩:=h;refine ⟨a,cap,sb,so,h0,h1,h3,fun hp=>?_,h5⟩;have e:=h3 hp;injection h0 with h0
 rw [e] at h0;injection h0 with h0
 injection h0 with h0
 omega
theorem fA.strs {g:Nat} (hk:bs.length=k) (W:World) (h:fA W g bs):(convert 49 9 (.slice (some ⟨g,0,none⟩) k k)).run prog W=.ok (.string (aF bs)) W:=h.JW hk
end
section
variable {d:Option Tmp} {fuel:Nat} {ai:Array Bool} {a:Act} {w:World}
section
variable {P:Program} {md:Region.Mode} {aR:Array Oper} {Q:Exit→Act→World→Prop} {S:World→Prop}
def nX (aR:Array Oper) (i:Nat) (d:Option Tmp) (op:Op) (g:Option (Nat×Bool)) (t:TypeId):Prop:=(aR[i]?).map (fun o=>(o.dst,o.op,o.guard,o.type))=some (d,op,g,t)
theorem nY {i:Nat} {op:Op} {g:Option (Nat×Bool)} {t:TypeId} (h:nX aR i d op g t):∃ o,aR[i]? = some o∧o.dst=d∧o.op=op∧o.guard=g∧o.type=t:=by
 unfold nX at h;cases ho:aR[i]? with
 | none=>rw [ho] at h;cases h
 | some o =>
   rw [ho] at h;simp only [Dy,Option.some.injEq,Prod.mk.injEq] at h;exact ⟨o,rfl,h.1,h.2.1,h.2.2.1,h.2.2.2⟩
theorem Ru {op:Op} {g:Option (Nat×Bool)} {t:TypeId} (i:Nat) (v:Value) (w':World) (hi:nX aR i d op g t) (hw:jc aR a g=true)
 (hr:Region.ready md aR ai=[i]) (hy:∀ o:Oper,o.op=op→o.type=t→(execOp a.eval o).run P w=.ok (.value v) w') (hS:S w')
 (h:wpAnyH P md aR Q S fuel (ai.setIfInBounds i true) (a.put d v) w'):wpAnyH P md aR Q S (fuel+1) ai a w:=by
 obtain ⟨o,ho,hd,cY,hg,ht⟩:=nY hi;refine wpAnyH_all hr (by simp) (fun k hk=>?_);rw [uF] at hk;subst hk;refine wpOp_step ho (fun K hK=>?_);rw [if_pos (fJ hg hw)];unfold Oper.wp;rw [hy o cY ht,Oper.upon_value,hd];exact hK _ _ ⟨hS,h⟩
theorem Oi {op:Op} {g:Option (Nat×Bool)} {t:TypeId} (i:Nat) (w':World) (hi:nX aR i d op g t) (hw:jc aR a g=true)
 (hr:Region.ready md aR ai=[i]) (hy:∀ o:Oper,o.op=op→o.type=t→(execOp a.eval o).run P w=.ok .skip w') (hS:S w')
 (h:wpAnyH P md aR Q S fuel (ai.setIfInBounds i true) (a.put d undef) w'):wpAnyH P md aR Q S (fuel+1) ai a w:=by
 obtain ⟨o,ho,hd,cY,hg,ht⟩:=nY hi;refine wpAnyH_all hr (by simp) (fun k hk=>?_);rw [uF] at hk;subst hk;refine wpOp_step ho (fun K hK=>?_);rw [if_pos (fJ hg hw)];unfold Oper.wp;rw [hy o cY ht,Oper.upon_skip,hd];exact hK _ _ ⟨hS,h⟩
theorem U3 {di dj:Option Tmp} {pT p8:Op} {gi gj:Option (Nat×Bool)} {ti tj:TypeId} (i j:Nat) (vi:Value) (wi:World) (vj:Value) (wj:World)
 (hi:nX aR i di pT gi ti) (hj:nX aR j dj p8 gj tj) (hwi:jc aR a gi=true) (hwj:jc aR a gj=true) (hr:Region.ready md aR ai=[i,j])
 (yi:∀ o:Oper,o.op=pT→o.type=ti→(execOp a.eval o).run P w=.ok (.value vi) wi) (yj:∀ o:Oper,o.op=p8→o.type=tj→(execOp a.eval o).run P w=.ok (.value vj) wj) (hSi:S wi) (hSj:S wj)
 (h1:wpAnyH P md aR Q S fuel (ai.setIfInBounds i true) (a.put di vi) wi) (h2:wpAnyH P md aR Q S fuel (ai.setIfInBounds j true) (a.put dj vj) wj):wpAnyH P md aR Q S (fuel+1) ai a w:=by
 obtain ⟨o,ho,hd,cY,hg,ht⟩:=nY hi;obtain ⟨o',tR,Dg,AJ,ww,mL⟩:=nY hj;refine wpAnyH_all hr (by simp) (fun k hk=>?_);rcases DN.1 hk with rfl | hk
 ·refine wpOp_step ho (fun K hK=>?_)
  rw [if_pos (fJ hg hwi)];unfold Oper.wp;rw [yi o cY ht,Oper.upon_value,hd];exact hK _ _ ⟨hSi,h1⟩
 ·rw [uF] at hk
  subst hk;refine wpOp_step tR (fun K hK=>?_);rw [if_pos (fJ ww hwj)];unfold Oper.wp;rw [yj o' AJ mL,Oper.upon_value,Dg];exact hK _ _ ⟨hSj,h2⟩
end
end
def zS:List Value→Nat→Value→List Value
 | [],_,_=>[]
 | _ :: l,0,v=>v :: l
 | x :: l,i+1,v=>x :: zS l i v
theorem WZ:∀ (l:List Value) (i:Nat) (v:Value),zS l i v=l.set i v
 | [],_,_=>rfl
 | _ :: _,0,_=>rfl
 | x :: l,i+1,v=>congrArg (x :: ·) (WZ l i v)
theorem zA (l:List Value) (e:List Deferred) (d:Nat) (v:Value):(⟨l.toArray,e⟩:Act).put (some d) v=⟨(zS l d v).toArray,e⟩:=by
 simp only [Act.put,List.setIfInBounds_toArray,WZ]
theorem zB (a:Act) (v:Value):a.put none v=a:=rfl
theorem zY (w:World) (c:Array Value) (t:TypeId):∃ V,w.alloc (.cells c t)=V∧Below w.heap.size w V∧V.heap[w.heap.size]? = some (.cells c t (0,0)):=⟨_,rfl,(Below.refl _ _).alloc (Nat.le_refl _) _,aI _ _ _ rfl⟩
abbrev zZ:Array Value:=#[.bool false,.int .i64 0,.bool false,.int .u8 0,.int .u8 0,.int .u8 0,.int .u8 0,.string {data:=#[]}]
abbrev zV (f:Bool) (o:Int) (m:Bool) (a b c d:Nat) (s:ByteArray):Array Value:=#[.bool f,.int .i64 o,.bool m,.int .u8 (a:Int),.int .u8 (b:Int),.int .u8 (c:Int),.int .u8 (d:Int),.string s]
section
variable {P:Program} {md:Region.Mode} {aR:Array Oper} {Q:Exit→Act→World→Prop} {S:World→Prop} {fuel:Nat} {ai:Array Bool} {a:Act} {w:World}
theorem zT (i:Nat) (d:Option Tmp) (op:Op) (v:Value) (hS:S w) (h:wpAnyH P md aR (NoPanic Q) S fuel (ai.setIfInBounds i true) (a.put d v) w) (g:Option (Nat×Bool):=none) (hi:pR aR i d op g:=by exact rfl)
 (hk:(jc aR a g&&(Region.noSelect aR&&(Region.free md aR ai i&&(Region.ready md aR ai).contains i)))=true:=by kernel_rfl)
 (hy:∀ o:Oper,o.op=op→∀ w,S w→(execOp a.eval o).run P w=.ok (.value v) w:=by intro o' ho W hS;simp only [execOp,ho];go_simp;try rfl):wpAnyH P md aR (NoPanic Q) S (fuel+1) ai a w:=by
 simp only [Bool.and_eq_true] at hk;exact Rn i v hi hk.1 hk.2.1 hk.2.2.1 hk.2.2.2 hy hS h
theorem zC (i:Nat) (d:Option Tmp) (op:Op) (f:FuncId) (args:Array Value) (h:Calls P f args w fun e w'=>∃ v,e=.returned v∧S w'∧wpAnyH P md aR Q S fuel (ai.setIfInBounds i true) (a.put d v) w') (g:Option (Nat×Bool):=none) (hi:pR aR i d op g:=by exact rfl) (hw:jc aR a g=true:=by kernel_rfl) (hr:Region.ready md aR ai=[i]:=by kernel_rfl)
 (hy:∀ o:Oper,o.op=op→(execOp a.eval o).run P w=.ok (.enter f args) w:=by intro o' ho;simp only [execOp,ho];go_simp;try rfl):wpAnyH P md aR Q S (fuel+1) ai a w:=Ro i f args hi hw hr hy h
theorem zR (i:Nat) (d:Option Tmp) (op:Op) (t:TypeId) (v:Value) (w':World) (hS:S w') (h:wpAnyH P md aR Q S fuel (ai.setIfInBounds i true) (a.put d v) w') (g:Option (Nat×Bool):=none) (hi:nX aR i d op g t:=by exact rfl) (hw:jc aR a g=true:=by kernel_rfl) (hr:Region.ready md aR ai=[i]:=by kernel_rfl)
 (hy:∀ o:Oper,o.op=op→o.type=t→(execOp a.eval o).run P w=.ok (.value v) w'):wpAnyH P md aR Q S (fuel+1) ai a w:=Ru i v w' hi hw hr hy hS h
theorem zW (i:Nat) (d:Option Tmp) (op:Op) (t:TypeId) (w':World) (hS:S w') (h:wpAnyH P md aR Q S fuel (ai.setIfInBounds i true) (a.put d undef) w') (g:Option (Nat×Bool):=none) (hi:nX aR i d op g t:=by exact rfl) (hw:jc aR a g=true:=by kernel_rfl) (hr:Region.ready md aR ai=[i]:=by kernel_rfl)
 (hy:∀ o:Oper,o.op=op→o.type=t→(execOp a.eval o).run P w=.ok .skip w'):wpAnyH P md aR Q S (fuel+1) ai a w:=Oi i w' hi hw hr hy hS h
theorem zG {id:Nat} (hm:P.follows .mixedOrders=true) (h:∀ R,Below w.heap.size w R→wpAnyH P .any aR (NoPanic Q) S aR.size (Array.replicate aR.size false) a R):(Code.region id aR true).wp P Q a w :=
 wp_region_noPanic (wp_region_held hm (h w.drew (Below.refl _ _).drew))
theorem zE (hr:Region.ready md aR ai=[]) (h:Q .normal a w):wpAnyH P md aR (NoPanic Q) S fuel ai a w:=wpAnyH_done hr (NoPanic.normal h) _
end
theorem UR:type_of% @run_loadVar_row:=@run_loadVar_row
theorem Xp:type_of% @Oper.upon_value:=@Oper.upon_value
theorem US:type_of% @World.ownsRow_nil:=@World.ownsRow_nil
theorem DD:type_of% @Addr.add_mid:=@Addr.add_mid
theorem FM:type_of% @DataW.trod_int:=@DataW.trod_int
theorem FP:type_of% @IntKind.wrap_u64:=@IntKind.wrap_u64
theorem Ag:type_of% @IntWalk.i64_in:=@IntWalk.i64_in
theorem Ah:type_of% @wp_region_held:=@wp_region_held
theorem rE:type_of% @Sem.run_bind:=@Sem.run_bind
theorem zk:type_of% @block_lt_of_cell:=@block_lt_of_cell
theorem DV:type_of% @World.cell?_of_block:=@World.cell?_of_block
theorem qC:type_of% @setRow_other:=@setRow_other
theorem uY:type_of% @wpList_load_row:=@wpList_load_row
theorem Ai:type_of% @wp_region_noPanic:=@wp_region_noPanic
theorem kT:type_of% @frozen_of_row:=@frozen_of_row
theorem pI:type_of% @heap_setCell_other:=@heap_setCell_other
theorem jg:type_of% @cell_of_row:=@cell_of_row
theorem lZ:type_of% @IntKind.wrap_i64:=@IntKind.wrap_i64
theorem lF:type_of% @heap_setCell_same:=@heap_setCell_same
theorem gY:type_of% @setRow_heap:=@setRow_heap
theorem gX:type_of% @bodyPost_ret:=@bodyPost_ret
theorem dW:type_of% @Below.refl:=@Below.refl
theorem fG:type_of% @wpList_store_row:=@wpList_store_row
section
variable {w w':World} {bs key:List Nat} {v:Value} {base:Nat}
theorem U4 (ws:List Nat) (k x:Nat):(dZ ws).toArray.setIfInBounds k (.int .u8 (x:Int))=(dZ (ws.set k x)).toArray:=by
 simp [dZ,v8,List.map_set]
theorem fA.set {g:Nat} (h:fA w g bs) (i x:Nat):fA (w.setCell ⟨g,i,none⟩ (.int .u8 (x:Int))) g (bs.set i x):=by
 unfold fA;rw [lF _ _ _ _ _ _ h,U4]
theorem fA.cell {g:Nat} (h:fA w g bs) (i:Nat) (hi:i<bs.length):w.cell? ⟨g,i,none⟩=some (.int .u8 ((bs.getD i 0:Nat):Int)):=by
 rw [jg _ _ _ _ _ _ h,Ed];exact jl bs i hi
theorem fA.fF {g:Nat} (h:fA w g bs) (i:Nat):w.frozen? ⟨g,i,none⟩=false:=kT _ _ _ _ _ h
theorem gu (w:World) (bs:List Nat):fA (w.alloc (.cells (dZ bs).toArray 5)) w.heap.size bs:=aI _ _ _ rfl
theorem bJ.below (h:bJ w v bs) {B:Nat} (hB:w.heap.size≤B) (k:Below B w w'):bJ w' v bs:=by
 obtain ⟨a,cap,sb,so,h0,h1,h3,h5⟩:=h;refine ⟨a,cap,sb,so,h0,h1,h3,fun i hi=>?_⟩;have bz:=zk (h5 i hi);rw [k.cell (p:=⟨sb,so+i,none⟩) (NQ bz hB)];exact h5 i hi
theorem bJ.one {sb so n cap:Nat} (h:∀ i,i<n→w.cell? ⟨sb,so+i,none⟩=some (.int .u8 ((bs.getD i 0:Nat):Int))) (k:Nat) (hk:k+1≤n) (hn:bs.length=n) (hc:k≤cap):bJ w (.slice (some ⟨sb,so+1,none⟩) k cap) ((bs.drop 1).take k):=by
 have hl:((bs.drop 1).take k).length=k:=by rw [kQ,iP];omega
 refine ⟨_,cap,sb,so+1,by rw [hl],by rw [hl];exact hc,fun _=>rfl,fun i hi=>?_⟩;rw [hl] at hi;rw [UO,h (1+i) (by omega)];simp only [iw];rw [NP hi,LW]
section
variable {P:Program} {md:Region.Mode} {aR:Array Oper} {Q:Exit→Act→World→Prop} {S:World→Prop}
theorem JX {fuel:Nat} {ai:Array Bool} {a:Act} {di dj:Option Tmp} {pT p8:Op} {ti tj:TypeId} (i j:Nat) (vi:Value) (wi:World) (f:FuncId) (args:Array Value)
 (hi:nX aR i di pT none ti) (hj:nX aR j dj p8 none tj) (hr:Region.ready md aR ai=[i,j])
 (yi:∀ o:Oper,o.op=pT→o.type=ti→(execOp a.eval o).run P w=.ok (.value vi) wi) (yj:∀ o:Oper,o.op=p8→o.type=tj→(execOp a.eval o).run P w=.ok (.enter f args) w) (hS:S wi)
 (h1:wpAnyH P md aR Q S fuel (ai.setIfInBounds i true) (a.put di vi) wi)
 (h2:Calls P f args w fun e w'=>∃ v,e=.returned v∧S w'∧wpAnyH P md aR Q S fuel (ai.setIfInBounds j true) (a.put dj v) w'):wpAnyH P md aR Q S (fuel+1) ai a w:=by
 obtain ⟨o,ho,hd,cY,hg,ht⟩:=nY hi;obtain ⟨o',tR,Dg,AJ,ww,mL⟩:=nY hj;refine wpAnyH_all hr (by simp) (fun k hk=>?_);rcases DN.1 hk with rfl | hk
 ·refine wpOp_step ho (fun K hK=>?_)
  rw [if_pos (fJ hg rfl)];unfold Oper.wp;rw [yi o cY ht,Xp,hd];exact hK _ _ ⟨hS,h1⟩
 ·rw [uF] at hk
  subst hk;refine wpOp_step tR (fun K hK=>?_);rw [if_pos (fJ ww rfl)];unfold Oper.wp;rw [yj o' AJ mL,Oper.upon_enter];refine h2.mono ?_;rintro e w' ⟨v,rfl,Yy,h'⟩;rw [Dg];exact hK _ _ ⟨Yy,h'⟩
end
theorem U5 {g:Nat} (h:fA w g bs) (base:Nat) (hb:base≤g) (hl:bs.length≤1000000):w.ownsRow base 5 1 (.slice (some ⟨g,0,none⟩) bs.length bs.length) bs.length (dZ bs) :=
 ⟨by simp,.inr ⟨g,bs.length,(dZ bs).toArray,rfl,hb,h,aY _,by unfold maxLen;omega,by simp,nC (by simp)⟩⟩
theorem tq (h:w.ownsRow base 5 1 v bs.length (dZ bs)) (hp:0<bs.length):∃ g cap,v=.slice (some ⟨g,0,none⟩) bs.length cap∧base≤g∧bJ w v bs:=by
 rcases h.2 with ⟨_,h0⟩ | ⟨g,cap,fI,rfl,hb,hg,hn,_,hs,ht⟩
 ·omega
 ·refine ⟨g,cap,rfl,hb,_,cap,g,0,rfl,hn,fun _=>rfl,fun i hi=>?_⟩
  rw [vT,jg _ _ _ _ _ _ hg];have h1:=jl bs i hi;rw [← ht,NP (by omega),Array.getElem?_toList] at h1;exact h1
theorem rF:∃ i,prog.info? 5=some i∧i.zero=some (.int .u8 0)∧i.size=1∧i.bytes=1:=by
 have h5:=info5;cases hi:prog.info? 5 with
 | none=>rw [hi] at h5;cases h5
 | some i =>
   rw [hi] at h5;simp only [Dy,Option.some.injEq,Prod.mk.injEq] at h5;exact ⟨i,rfl,h5.1,h5.2.1,h5.2.2⟩
theorem En {Z:World} {g1 g2:Nat} {m l:List Nat} (ty:TypeId) (h1:fA Z g1 m) (cM:base≤g1) (h2:fA Z g2 l) (hl:m.length+l.length≤1000000) (eE:base≤Z.heap.size) :
 ∃ v1 w1,(Builtin.append_ #[49,49] ty #[.slice (some ⟨g1,0,none⟩) m.length m.length,.slice (some ⟨g2,0,none⟩) l.length l.length]).run prog Z=.ok v1 w1 ∧
   w1.ownsRow base 5 1 v1 (m++l).length (dZ (m++l))∧Z.grownBy w1 (some g1):=by
 obtain ⟨i0,kn,ic,eI,dz⟩:=rF;obtain ⟨v',w',gd,ef,nc,_⟩:=run_append_own (P:=prog) Z base 49 ty 5 i0 _ 1 1 underlying49 kn ic eI dz rfl (by decide) _ m.length (dZ m) (U5 h1 base cM (by omega)) ⟨g2,0,none⟩ l.length l.length (dZ l) (by simp) (fun j u hu=>by
  have hj:j<l.length:=by have:=(LV.1 hu).1;simpa using this
  rw [DD,vT,h2.cell j hj,← hu,jl l j hj]) (oM l) (by unfold maxLen;omega) (by omega) eE
 refine ⟨v',w',gd,?_,nc⟩;rw [jB,qB];exact ef
theorem Eo (l:List Nat) (h:aU 256 l):dZ l=(l.map UInt8.ofNat).map Extern.Stop.cell:=by
 simp only [dZ,List.map_map];refine List.map_congr_left (fun x hx=>?_);have hx':=h x hx;simp only [v8,Function.comp_def,Extern.Stop.cell];congr 1;rw [UInt8.toNat_ofNat_of_lt' hx'];rfl
theorem Oj {a b:List Nat} (ha:aU 256 a) (hb:aU 256 b):(a.map UInt8.ofNat=b.map UInt8.ofNat)↔a=b:=by
 refine ⟨fun h=>?_,fun h=>by rw [h]⟩;have h2:=lG (List.map UInt8.toNat) h;have key:∀ l:List Nat,aU 256 l→(l.map UInt8.ofNat).map UInt8.toNat=l:=fun l hl=>by
  rw [List.map_map]
  conv=>rhs;rw [← List.map_id l]
  exact List.map_congr_left fun x hx=>UInt8.toNat_ofNat_of_lt' (hl x hx)
 rwa [key a ha,key b hb] at h2
theorem U6 (a b:List Nat) (ha:a.length=4) (hb:b.length=4) (sa:aU 256 a) (sb:aU 256 b) (W:World) :
 (Op.equalIn 10000 59 (.agg (dZ a).toArray) (.agg (dZ b).toArray)).run prog W=.ok (decide (a=b)) W:=by
 rw [Eo a sa,Eo b sb,run_equalIn_bytes W 9998 59 5 4 underlying59 underlying5 (fun w=>by kernel_rfl) _ _ (by simp [ha]) (by simp [hb])];congr 1;rw [QL];simp only [beq_iff_eq,Ap];exact Oj sa sb
theorem bJ.conv {b o n cap:Nat} (h:bJ w (.slice (some ⟨b,o,none⟩) n cap) bs):(convert 49 9 (.slice (some ⟨b,o,none⟩) n cap)).run prog w=.ok (.string (aF bs)) w:=by
 obtain ⟨a,c,sb,so,he,hc,ha,bL⟩:=h;injection he with h1 h2 h3
 subst h2 h3;refine run_convert_bytes_arg w 49 5 underlying49 underlying5 b o bs.length cap (bs.map fun (n:Nat)=>(n:Int)) (by simp) (fun i hi=>?_) 9 underlying9;have lB:i<bs.length:=by simpa using hi
 have h4:=ha (by omega);rw [h4] at h1;injection h1 with h1
 injection h1 with h5 h6
 subst h5 h6;rw [bL i lB];simp [List.getD,lD lB]
theorem tu (x:Nat) (h:x<256):bytes (aF [x])=[x]:=dm _ (fun y hy=>by simp at hy;omega)
theorem Bv (x:Nat) (l:List Nat) (hx:x<256) (h:aU 256 l):aF [x]++aF l=aF (x :: l):=by
 refine kW ?_;rw [iK,tu x hx,dm l h,dm]
 ·rfl
 ·intro y hy
  rcases DN.1 hy with rfl | hy
  ·exact hx
  ·exact h y hy
theorem Me {W:World} {g j y:Nat} (h:W.heap[g]? = some (.cells (dZ key).toArray 59 (0,0))) (hj:j<4) (hl:key.length=4) (hy:key.getD j 0=y):W.cell? ⟨g,j,none⟩=some (.int .u8 (y:Int)):=by
 rw [jg _ _ _ _ _ _ h,Ed,jl key j (by omega),hy]
theorem Ry (h:key.length=4):(prog.info? 59).map (·.size)=some (dZ key).toArray.size:=by
 have:(prog.info? 59).map (·.size)=some 4:=by kernel_rfl
 simpa [h] using this
theorem U7 {g n:Nat} (h:bJ w (.slice (some ⟨g,0,none⟩) bs.length bs.length) bs) (hn:bs.length=n):bJ w (.slice (some ⟨g,0,none⟩) n n) bs:=by subst hn;exact h
theorem ay {g:Nat} {o:Obj} (h:w.heap[g]? = some o) (k:Below w.heap.size w w'):w'.heap[g]? = some o:=by
 rw [k.block _ (zl h)];exact h
end
def Ij (W:World) (v:Value) (l:List ByteArray):Prop :=
 ∃ (a:Option Addr) (cap sb so:Nat),v=.slice a l.length cap∧l.length≤cap∧(0<l.length→a=some ⟨sb,so,none⟩)∧∀ i,i<l.length→W.cell? ⟨sb,so+i,none⟩=some (.string (l.getD i ByteArray.empty))
theorem Ij.below {w w':World} {v:Value} {l:List ByteArray} (h:Ij w v l) (hb:Below w.heap.size w w'):Ij w' v l:=by
 obtain ⟨a,cap,sb,so,h1,h2,h3,h4⟩:=h;exact ⟨a,cap,sb,so,h1,h2,h3,fun i hi=>by
  have:=h4 i hi;rw [hb.cell (p:=⟨sb,so+i,none⟩) (zk this)];exact this⟩
end Go.Proofs.YtlahonjmfecikaaGreatDoor
namespace Go.Proofs.YtlahonjmfecikaaGreatDoor.jF
open Go.RowKit aO
section
variable {w:World}
theorem MC (x y i:Nat) (hx:x % 2 ^ i=0) (hy:y<2 ^ i) (hb:x+y<18446744073709551616):bits .or .u64 (x:Int) (y:Int)=((x+y:Nat):Int):=by
 rw [u64_or_nat x y (by omega) (by omega),nat_join i x y hx hy]
theorem JY (N s:Nat) (w:World) (hs:s≤8) :
 Calls prog 163 #[.int .u64 N,.int .i64 s] w fun e w'=>e=.returned (.slice (some ⟨w.heap.size,0,none⟩) s s)∧Sl (fA w' w.heap.size (be N s))∧Sl (Below w.heap.size w w'):=by
 obtain ⟨g,hg⟩:=zX w.heap.size;have sq:=oO s s rfl (by omega) w;rw [hg] at sq ⊢;obtain ⟨w1,bA⟩:=zX (w.alloc (.cells (dZ (zs s)).toArray 5));have gp:Sl (fA w1 g (Bl N s 0)):=⟨by rw [N5,← bA,← hg];exact gu w _⟩;have bi:Sl (Below g w w1):=⟨by rw [← bA,← hg];exact (dW _ _).alloc (aY _) _⟩;rw [bA] at sq;clear bA hg;go_enter func163,ntmps163;go_wp2;go_loopw [10] (fun i wr=>∃ k:Nat,k≤s∧i=.int .i64 k∧Sl (fA wr g (Bl N s k))∧Sl (Below g w wr)) (fun i _=>s-(intOf i).toNat)
 case atStart=>exact ⟨0,ku _,rfl,gp,bi⟩
 case round =>
  obtain ⟨k,hk,rfl,HR,HB⟩:=hrel;by_cases bz:k<s
  ·have cw:=HR.ah.cell k (by rw [Hu _ _ _ hk];exact bz)
   have fw:=HR.ah.fF k;have k0:(0:Int)≤(k:Int):=by omega
   have k1:(k:Int)<(s:Int):=by omega
   go_wp2;rw [show (N:Int) / 2 ^ (8*(s-1-k)) % 256=((N / 2 ^ (8*(s-1-k)) % 256:Nat):Int) by simp];exact ⟨⟨k+1,by omega,by go_num,⟨by rw [← N6 N s k bz];exact HR.ah.set k _⟩,⟨HB.ah.setCell (p:=⟨g,k,none⟩) (by have:=HB.ah.size;have:=HR.ah.lt;first | omega | exact aY _) _⟩⟩,by simp [intOf];omega⟩
  ·have eg:((k:Int)<(s:Int))=False:=dR (by omega)
   obtain rfl:k=s:=by omega
   rw [QZ] at HR;go_wp2;go_ret;exact ⟨rfl,HR,HB⟩
theorem uZ (v:Value) (bs:List Nat) (w:World) (hv:bJ w v bs) (bB:aU 256 bs) (hl:bs.length≤8) :
 Calls prog 178 #[v] w fun e w'=>e=.returned (.int .u64 ((val bs:Nat):Int))∧w=w':=by
 obtain ⟨a,cap,sb,so,rfl,db,ha,hc⟩:=hv;obtain ⟨n,hn⟩:=zX bs.length;have HN:=Sl.mk hn;rw [hn] at db ha hl ⊢;have HC:Sl (∀ i,i<n→w.cell? ⟨sb,so+i,none⟩=some (.int .u8 ((bs.getD i 0:Nat):Int))):=⟨by rw [← hn];exact hc⟩;have mN:=Sl.mk bB;clear hc hn bB;go_enter func178,ntmps178;go_wp2;go_loopw [3,7] (fun u i wr=>∃ k:Nat,k≤n∧u=.int .u64 ((val (bs.take k):Nat):Int)∧i=.int .i64 k∧w=wr) (fun _ i _=>n-(intOf i).toNat)
 case atStart=>exact ⟨0,ku _,rfl,rfl,rfl⟩
 case round =>
  obtain ⟨k,hk,rfl,rfl,rfl⟩:=hrel;by_cases bz:k<n
  ·have cw:=HC.ah k bz
   obtain rfl:=ha (by omega);have hs:=HN.ah;have HS:Sl (val (bs.take (k+1))=256*val (bs.take k)+bs.getD k 0):=⟨Bj bs k (by omega)⟩;have AK:=Bi (bs.take k) (mN.ah.take k);rw [kQ,LX (by omega)] at AK;have hp:256 ^ k≤256 ^ 7:=Nat.pow_le_pow_right (by omega) (by omega);have ie:bs.getD k 0<256:=mN.ah.getD (by omega) k;obtain ⟨c,M8⟩:=zX (bs.getD k 0);obtain ⟨m,hm⟩:=zX (val (bs.take k));rw [hm] at AK;rw [M8] at cw ie;rw [M8,hm] at HS;have hm2:m<72057594037927936:=by omega
   clear AK hp hs;have k0:(0:Int)≤(k:Int):=by omega
   have k1:(k:Int)<(n:Int):=by omega
   rw [hm];clear hm M8;go_wp2;refine ⟨⟨k+1,by omega,?_,by go_num,trivial⟩,by simp [intOf];omega⟩;rw [show (m:Int)*256=((m*256:Nat):Int) by simp,MC (m*256) c 8 (by omega) ie (by omega),HS.ah,Nat.mul_comm]
  ·have eg:((k:Int)<(n:Int))=False:=dR (by omega)
   obtain rfl:k=n:=by omega
   have hv:bs.take k=bs:=nC (by rw [HN.ah];exact aY _);rw [hv];go_wp2;go_ret;exact ⟨rfl,rfl⟩
open Go.RowKit aO
structure Row where
 first:Nat
 j9:Nat
 ek:Nat
 ae:Nat
def Rz:Row:=⟨126,2,126,65535⟩
def RD:Row:=⟨127,8,65536,9223372036854775807⟩
def Row.cells (r:Row):List Value:=[.int .u8 r.first,.int .i64 r.j9,.int .u64 r.ek,.int .u64 r.ae]
def nZ:List Value:=Rz.cells++RD.cells
structure bD (w:World):Prop where
 t:w.rangeAt 1 0 nZ
theorem bD.RE (h:bD w):w.cell? ⟨1,0,none⟩=some (.int .u8 ((126:Nat):Int)):=h.t 0 _ rfl
theorem bD.size (h:bD w):2≤w.heap.size:=by
 have h1:1<w.heap.size:=zk h.RE;omega
theorem bD.below {w':World} {B:Nat} (h:bD w) (hb:Below B w w') (hB:2≤B):bD w' :=
 ⟨fun j v hv=>by rw [hb.cell (p:=⟨1,0+j,none⟩) (show 1<B by omega)];exact h.t j v hv⟩
theorem JZ (W:World):(Instr.index 215 (.agg nZ.toArray) (.int .i64 0)).run prog W=.ok (.agg Rz.cells.toArray) W:=by show _=_;kernel_rfl
theorem J3 (W:World):(Instr.index 215 (.agg nZ.toArray) (.int .i64 1)).run prog W=.ok (.agg RD.cells.toArray) W:=by show _=_;kernel_rfl
def FQ (r:Nat×Nat×Nat):Value:=.tuple #[.int .u64 ((r.1:Nat):Int),.int .i64 ((r.2.1:Nat):Int),.int .i64 ((r.2.2:Nat):Int)]
theorem RG (M:Nat) (h:M≤64):IntKind.u64.wrap (IntKind.u64.wrap (2 ^ M)-1)=((2 ^ M-1:Nat):Int):=by
 have hp:0<2 ^ M:=Nat.two_pow_pos M;have e:((2:Int) ^ M)=((2 ^ M:Nat):Int):=by simp
 rw [FP,FP,e];by_cases h64:M=64
 ·subst h64;decide
 ·have:2 ^ M≤2 ^ 63:=Nat.pow_le_pow_right (by omega) (by omega)
  omega
theorem Xq (B:Nat) (t:List Nat) (hB:B≤8) (hl:t.length≤B) (hs:aU 256 t):∃ L H:Nat,L=val t*2 ^ (8*(B-t.length))∧H=L+2 ^ (8*(B-t.length))-1 ∧
 IntKind.u64.wrap ((val t:Int)*2 ^ (8*(B-t.length)))=(L:Int)∧bits .or .u64 (L:Int) (IntKind.u64.wrap (IntKind.u64.wrap (2 ^ (8*(B-t.length)))-1))=(H:Int)∧H<18446744073709551616:=by
 have h1:=JO hB hl hs;obtain ⟨M,hM⟩:=zX (8*(B-t.length));rw [hM] at h1 ⊢;have hp:0<2 ^ M:=Nat.two_pow_pos M;refine ⟨_,_,rfl,rfl,?_,?_,by omega⟩
 ·rw [FP,show (val t:Int)*2 ^ M=((val t*2 ^ M:Nat):Int) by simp]
  omega
 ·rw [RG M (by omega),MC _ _ M (by rw [Nat.mul_mod_left]) (by omega) (by omega)]
  congr 1;omega
theorem RH (f B ek ae:Nat) (v:Value) (bs:List Nat) (w:World) (hB:B≤8) (hB0:0<B) (hv:bJ w v bs) (bB:aU 256 bs) (hl:0<bs.length) (hm:bs.length≤1000000) :
 Calls prog 169 #[.agg #[.int .u8 f,.int .i64 B,.int .u64 ek,.int .u64 ae],v] w fun e w'=>e=.returned (FQ (uH B ek ae ((bs.drop 1).take B)))∧Sl (Below w.heap.size w w'):=by
 obtain ⟨a,cap,sb,so,rfl,db,ha,hc⟩:=hv;obtain rfl:=ha hl;obtain ⟨n,hn⟩:=zX bs.length;have HN:=Sl.mk hn;rw [hn] at db hl hm ⊢;have HC:Sl (∀ i,i<n→w.cell? ⟨sb,so+i,none⟩=some (.int .u8 ((bs.getD i 0:Nat):Int))):=⟨by rw [← hn];exact hc⟩;obtain ⟨t,ht⟩:=zX ((bs.drop 1).take B);rw [ht];have eQ:aU 256 t:=by rw [← ht];exact (bB.drop 1).take B
 have bz:t.length=min B (n-1):=by rw [← ht,kQ,iP,hn]
 obtain ⟨L,H,hL,hH,f1,f2,ajs⟩:=Xq B t hB (by omega) eQ;have fo:Sl (uH B ek ae t=if H<ek∨ae<L then (0,0,81) else if t.length<B then (0,0,80) else (L,1+B,0)):=⟨by unfold uH;rw [← hL,← hH]⟩;have HT:=Sl.mk ht;have gN:=Sl.mk eQ;have hI:=Sl.mk bz;have hLH:L≤H:=by have:0<2 ^ (8*(B-t.length)):=Nat.two_pow_pos _;omega
 clear hc hn bB ha ht hL hH eQ bz;obtain ⟨g,hg⟩:=zX w.heap.size;have HG:=Sl.mk hg;obtain ⟨w1,bA⟩:=zX (w.alloc (.cells #[.int .u8 f,.int .i64 B,.int .u64 ek,.int .u64 ae] 214));have hh:w1.heap[g]? = some (.cells #[.int .u8 f,.int .i64 B,.int .u64 ek,.int .u64 ae] 214 (0,0)):=by rw [← bA,← hg];exact aI _ _ _ rfl
 have c1:w1.cell? ⟨g,1,none⟩=some (.int .i64 (B:Int)):=by rw [jg _ _ _ _ _ _ hh];rfl
 have c2:w1.cell? ⟨g,2,none⟩=some (.int .u64 (ek:Int)):=by rw [jg _ _ _ _ _ _ hh];rfl
 have c3:w1.cell? ⟨g,3,none⟩=some (.int .u64 (ae:Int)):=by rw [jg _ _ _ _ _ _ hh];rfl
 have bi:Sl (Below g w w1):=⟨by rw [← bA,← hg];exact (dW _ _).alloc (aY _) _⟩;clear hh;rw [hg];have HW1:=Sl.mk bA;go_enter func169,ntmps169;by_cases cV:n≤1+B
 ·by_cases h1:1<n
  ·obtain ⟨k,rfl⟩:∃ k,n=k+1:=⟨n-1,by omega⟩
   have hk:t.length=k:=by have:=hI.ah;omega
   rw [hk] at fo f1 f2;obtain ⟨m,hm'⟩:=zX (B-k);have e1:(B:Int)-(k:Int)=(m:Int):=by omega
   obtain ⟨M,hM⟩:=zX (8*m);have e2:8*(m:Int)=(M:Int):=by omega
   have ajt:M≤64:=by omega
   rw [hm',hM] at f1 f2;have j8:bJ w1 (.slice (some ⟨sb,so+1,none⟩) k k) t:=by
    have:=(bJ.one (cap:=k) HC.ah k (aY _) HN.ah (aY _)).below (by rw [HG.ah];exact aY _) bi.ah;rw [← HT.ah];rwa [nC (l:=bs.drop 1) (i:=k) (by rw [iP];have:=HN.ah;omega),← nC (l:=bs.drop 1) (i:=B) (by rw [iP];have:=HN.ah;omega)] at this
   have AN:=uZ (.slice (some ⟨sb,so+1,none⟩) k k) t w1 j8 gN.ah (by omega);have HM:=Sl.mk hM;have HM':=Sl.mk hm';clear j8 hm' hM hk;go_wp2_with fail
   refine AN.mono ?_;rintro e w2 ⟨rfl,rfl⟩;by_cases eZ:H<ek
   ·have ew:=Sl.mk (fo.ah.trans (if_pos (Or.inl eZ)))
    clear fo;go_wp2;go_ret3
    exact ⟨by rw [ew.ah];rfl,bi⟩
   ·by_cases hhigh:ae<L
    ·have ew:=Sl.mk (fo.ah.trans (if_pos (Or.inr hhigh)))
     clear fo;go_wp2;go_ret3
     exact ⟨by rw [ew.ah];rfl,bi⟩
    ·have gp:=Sl.mk (fo.ah.trans (if_neg (fun h=>h.elim eZ hhigh)))
     clear fo;by_cases hmore:k<B
     ·have ew:=Sl.mk (gp.ah.trans (if_pos hmore))
      have hM0:0<M:=by have:=HM.ah;have:=HM'.ah;omega
      clear gp;go_wp2;go_ret3
      exact ⟨by rw [ew.ah];rfl,bi⟩
     ·have ew:=Sl.mk (gp.ah.trans (if_neg hmore))
      have hM0:¬ 0<M:=by have:=HM.ah;have:=HM'.ah;omega
      have hkB:k=B:=by omega
      clear gp;go_wp2;go_ret3
      exact ⟨by rw [ew.ah];simp [FQ];omega,bi⟩
  ·obtain rfl:n=1:=by omega
   have g1:(1:Int)≤1+(B:Int):=by omega
   have hk:t.length=0:=by have:=hI.ah;omega
   rw [hk,Nat.sub_zero] at f1 f2;rw [hk] at fo;have ht0:t=[]:=yA hk;have j8:bJ w1 (.slice (some ⟨sb,so,none⟩) 0 0) t:=by
    rw [ht0];exact ⟨_,_,sb,so,rfl,aY _,fun _=>rfl,fun i hi=>absurd hi (Fz _)⟩
   have AN:=uZ (.slice (some ⟨sb,so,none⟩) 0 0) t w1 j8 gN.ah (by omega);clear j8 hk ht0;go_wp2_with fail
   refine AN.mono ?_;rintro e w2 ⟨rfl,rfl⟩;by_cases eZ:H<ek
   ·have ew:=Sl.mk (fo.ah.trans (if_pos (Or.inl eZ)))
    clear fo;go_wp2;go_ret3
    exact ⟨by rw [ew.ah];rfl,bi⟩
   ·by_cases hhigh:ae<L
    ·have ew:=Sl.mk (fo.ah.trans (if_pos (Or.inr hhigh)))
     clear fo;go_wp2;go_ret3
     exact ⟨by rw [ew.ah];rfl,bi⟩
    ·have gp:=Sl.mk (fo.ah.trans (if_neg (fun h=>h.elim eZ hhigh)))
     clear fo;have ew:=Sl.mk (gp.ah.trans (if_pos hB0));clear gp;go_wp2;go_ret3
     exact ⟨by rw [ew.ah];rfl,bi⟩
 ·have h2:1+B<n:=by omega
  have g1:((n:Int)≤1+(B:Int))=False:=dR (by omega);have g2:(1+(B:Int)<(n:Int)):=by omega
  have hk:t.length=B:=by have:=hI.ah;omega
  rw [hk,Nat.sub_self,Nat.mul_zero] at f1 f2;rw [hk] at fo;have f3:IntKind.u64.wrap ((val t:Nat):Int)=(L:Int):=by rw [← f1];simp
  have f4:bits .or .u64 (L:Int) 0=(H:Int):=by rw [← f2];rfl
  have j8:bJ w1 (.slice (some ⟨sb,so+1,none⟩) B B) t:=by
   have:=(bJ.one (cap:=B) HC.ah B (by omega) HN.ah (aY _)).below (by rw [HG.ah];exact aY _) bi.ah;rwa [HT.ah] at this
  have AN:=uZ (.slice (some ⟨sb,so+1,none⟩) B B) t w1 j8 gN.ah (by omega);clear j8 hk f1 f2;go_wp2_with fail
  refine AN.mono ?_;rintro e w2 ⟨rfl,rfl⟩;by_cases eZ:H<ek
  ·have ew:=Sl.mk (fo.ah.trans (if_pos (Or.inl eZ)))
   clear fo;go_wp2;go_ret3
   exact ⟨by rw [ew.ah];rfl,bi⟩
  ·by_cases hhigh:ae<L
   ·have ew:=Sl.mk (fo.ah.trans (if_pos (Or.inr hhigh)))
    clear fo;go_wp2;go_ret3
    exact ⟨by rw [ew.ah];rfl,bi⟩
   ·have gp:=Sl.mk (fo.ah.trans (if_neg (fun h=>h.elim eZ hhigh)))
    clear fo;have ew:=Sl.mk (gp.ah.trans (if_neg (JK _)));clear gp;go_wp2;go_ret3
    exact ⟨by rw [ew.ah];simp [FQ],bi⟩
theorem vg (c:Nat) (h:c<256):bits .andNot .u8 (c:Int) 128=((c % 128:Nat):Int):=by
 have:∀ c:Fin 256,bits BinOp.andNot IntKind.u8 (c.val:Int) 128=((c.val % 128:Nat):Int):=by decide +kernel
 exact this ⟨c,h⟩
def row (k:Nat):Row:=if k=0 then Rz else RD
theorem tC (k:Nat) (hk:k<2) (W:World):(Instr.index 215 (.agg nZ.toArray) (.int .i64 (k:Int))).run prog W=.ok (.agg (row k).cells.toArray) W:=by
 match k,hk with
 | 0,_=>exact JZ W
 | 1,_=>exact J3 W
theorem U8 (k:Nat) (hk:k<2) (x:Nat) (xs:List Nat) (hs:aU 256 xs) (h:x % 128=(row k).first):bK (x :: xs)=uH (row k).j9 (row k).ek (row k).ae (xs.take (row k).j9):=by
 match k,hk with
 | 0,_=>exact JM x xs h hs
 | 1,_=>exact QY x xs h hs
theorem RI (k:Nat):(row k).j9≤8∧0<(row k).j9∧(row k).first<256:=by
 unfold row;split<;>exact ⟨by decide,by decide,by decide⟩
def Ol (f k:Nat):Prop:=∀ j,j<k→f≠(row j).first
theorem yH {f:Nat} (h:Ol f 2) (hf:f<128):f<126:=by
 have h0:=h 0 (by decide);have h1:=h 1 (by decide);simp [row,Rz,RD] at h0 h1;omega
theorem U9 {v:Value} (h:bJ w v []):∃ a cap,v=.slice a 0 cap:=by
 obtain ⟨a,cap,_,_,rfl,_⟩:=h;exact ⟨a,cap,rfl⟩
theorem wJ (v:Value) (bs:List Nat) (w:World) (hg:bD w) (hv:bJ w v bs) (bB:aU 256 bs) (hm:bs.length≤1000000) :
 Calls prog 159 #[v] w fun e w'=>e=.returned (FQ (bK bs))∧Sl (Below w.heap.size w w'):=by
 have M9:Sl ((prog.info? 215).map (·.size)=some nZ.length):=⟨by kernel_rfl⟩;have HG:=Sl.mk hg;have oA:Sl (Below w.heap.size w w):=⟨dW _ _⟩;clear hg;cases bs with
 | nil =>
   obtain ⟨a,cap,rfl⟩:=U9 hv;clear hv;go_enter func159,ntmps159;go_wp2;go_ret3
   exact ⟨rfl,oA⟩
 | cons x xs =>
   have dv:x<256:=bB x (rD ..);have AR:Sl (aU 256 xs):=⟨fun y hy=>bB y (uK _ hy)⟩;have mN:=Sl.mk bB;have HV:=Sl.mk hv;have K8:=fun f B le mo hB hB0 W hW=>RH f B le mo v (x :: xs) W hB hB0 hW bB (by simp) hm
   obtain ⟨a,cap,sb,so,rfl,db,ha,hc⟩:=hv;obtain rfl:=ha (by simp);have c0:w.cell? ⟨sb,so,none⟩=some (.int .u8 (x:Int)):=by have:=hc 0 (by simp);simpa using this
   obtain ⟨n,hn⟩:=zX xs.length;have bt:(x :: xs).length=n+1:=by rw [jE,hn]
   rw [bt] at db hm K8 HV ⊢;have f0:=vg x dv;obtain ⟨fb,il⟩:=zX (x % 128);have Nd:fb<128:=by omega
   rw [il] at f0;have ko:=Sl.mk il;clear hc ha hn bt bB il;go_enter func159,ntmps159;go_wp2_with (first | (refine wpList_load_mid rfl 215 (.global 1) rfl 1 0 rfl nZ (.array 2 214) HG.ah.t underlying215 rfl M9.ah ?_))
   go_loopw [16] (fun i wr=>∃ k:Nat,k≤2∧i=.int .i64 k∧Sl (Ol fb k)∧Sl (Below w.heap.size w wr)) (fun i _=>2-(intOf i).toNat)
   case atStart=>exact ⟨0,ku _,rfl,⟨fun j hj=>absurd hj (Fz _)⟩,oA⟩
   case round =>
    obtain ⟨k,hk,rfl,HP,HB⟩:=hrel;by_cases bz:k<2
    ·have mR:=tC k bz
     obtain ⟨mu,eA,K9⟩:=RI k;have rR:=Sl.mk (U8 k bz x xs AR.ah);have ut:Sl (fb≠(row k).first→Ol fb (k+1)):=⟨fun eW j hj=>by
      by_cases e:j=k
      ·subst e;exact eW
      ·exact HP.ah j (by omega)⟩
     rw [ko.ah] at rR;obtain ⟨r,hr⟩:∃ r,r=row k:=⟨_,rfl⟩;rw [← hr] at mR mu eA K9 rR ut;clear hr;obtain ⟨f,B,le,mo⟩:=r;simp only [Row.cells] at mR;simp only at mu eA K9 rR ut;obtain ⟨g,fW⟩:=zX wr.heap.size;have zt:=HB.ah.size;rw [fW] at zt;have AS:=Sl.mk zt;by_cases he:fb=f
     ·have HE:=Sl.mk (rR.ah he)
      have bv:Sl (Below w.heap.size w (wr.alloc (.cells #[.int .u8 f,.int .i64 B,.int .u64 le,.int .u64 mo] 214))):=⟨HB.ah.alloc (by rw [fW];exact zt) _⟩;have Yz:=K8 f B le mo mu eA _ (HV.ah.below (aY _) bv.ah);clear rR ut zt;have Fy:(fb:Int)=(f:Int):=by omega
      go_wp2_with fail
      refine Yz.mono ?_;rintro e w4 ⟨rfl,br⟩;have ch:Sl (Below w.heap.size w w4):=⟨bv.ah.trans (br.ah.mono bv.ah.size)⟩;simp only [FQ,WY,Af];go_wp2;go_ret3
      exact ⟨by rw [HE.ah];rfl,ch⟩
     ·have zv:=Sl.mk (ut.ah he)
      clear rR ut zt;have Fy:((fb:Int)=(f:Int))=False:=dR (by omega);go_wp2;exact ⟨⟨k+1,by omega,by go_num,zv,⟨HB.ah.alloc (by rw [fW];exact AS.ah) _⟩⟩,by simp [intOf];omega⟩
    ·have eg:((k:Int)<2)=False:=dR (by omega)
     obtain rfl:k=2:=by omega
     have HE:=Sl.mk (L8 x xs (by rw [ko.ah];exact yH HP.ah Nd));rw [ko.ah] at HE;go_wp2;go_ret3
     exact ⟨by rw [HE.ah];rfl,HB⟩
open Go.RowKit aO
theorem RJ (n:Int):bits .and .i64 n 3=n % 4:=by
 have h3:(BitVec.ofInt 64 3).toNat=2 ^ 2-1:=by decide
 have key:(BitVec.ofInt 64 n &&& BitVec.ofInt 64 3).toNat=(n % ((2 ^ 64:Nat):Int)).toNat % 2 ^ 2:=by
  rw [BitVec.toNat_and,BitVec.toNat_ofInt,h3,Nat.and_two_pow_sub_one_eq_mod]
 show IntKind.i64.wrap ((BitVec.ofInt 64 n &&& BitVec.ofInt 64 3).toNat:Nat)=n % 4
 rw [key,lZ];omega
def kX (fx:Int):Nat:=(fx % 4).toNat
theorem H6 (fx:Int):kX fx<4:=by unfold kX;omega
theorem Om (key:List Nat) (fx:Int) (v:Value) (bs:List Nat) (w:World) (hk:key.length=4) (ez:aU 256 key) (hv:bJ w v bs) (bB:aU 256 bs) (hm:bs.length≤100000) :
 Calls prog 170 #[.agg (dZ key).toArray,.int .i64 fx,v] w fun e w'=>∃ g,e=.returned (.slice (some ⟨g,0,none⟩) bs.length bs.length)∧Sl (w.heap.size≤g)∧Sl (fA w' g (fC key (kX fx) bs))∧Sl (Below w.heap.size w w'):=by
 have f0:bits .and .i64 fx 3=((kX fx:Nat):Int):=by rw [RJ];unfold kX;omega
 have hK4:=H6 fx;obtain ⟨K,hK⟩:=zX (kX fx);rw [hK] at f0 hK4 ⊢;clear hK;obtain ⟨a,cap,sb,so,rfl,db,ha,hc⟩:=hv;obtain ⟨n,hn⟩:=zX bs.length;have HN:=Sl.mk hn;rw [hn] at db ha hc hm ⊢;have mN:=Sl.mk bB;have HKL:=Sl.mk hk;have im:=Sl.mk ez;obtain ⟨g,hg⟩:=zX w.heap.size;obtain ⟨w1,bA⟩:=zX (w.alloc (.cells (dZ key).toArray 59));have kp:w1.heap.size=g+1:=by rw [← bA,aP,hg]
 have xt:w1.heap[g]? = some (.cells (dZ key).toArray 59 (0,0)):=by rw [← bA,← hg];exact aI _ _ _ rfl
 have sq:=oO n n rfl (by omega) w1;rw [kp] at sq;obtain ⟨w2,cE⟩:=zX (w1.alloc (.cells (dZ (zs n)).toArray 5));have bi:Sl (Below g w w2):=⟨by rw [← cE,← bA,← hg];exact ((dW _ _).alloc (aY _) _).alloc (by rw [aP];omega) _⟩;have gp:Sl (fA w2 (g+1) (uS key K bs 0)):=⟨by rw [N8,HN.ah,← kp,← cE];exact gu w1 _⟩;have HKR:Sl (w2.heap[g]? = some (.cells (dZ key).toArray 59 (0,0))):=⟨by rw [← cE,gJ _ _ _ (by rw [kp];omega)];exact xt⟩;have HC:Sl (∀ i,i<n→w2.cell? ⟨sb,so+i,none⟩=some (.int .u8 ((bs.getD i 0:Nat):Int))∧sb<g):=⟨fun i hi=>by
  have bz:=zk (hc i hi);rw [hg] at bz;exact ⟨by rw [bi.ah.cell (p:=⟨sb,so+i,none⟩) bz];exact hc i hi,bz⟩⟩
 rw [cE] at sq;clear cE hc hn bB hk ez kp xt;rw [hg];go_enter func170,ntmps170;go_wp2;go_loopw [17] (fun i wr=>∃ k:Nat,k≤n∧i=.int .i64 k∧Sl (fA wr (g+1) (uS key K bs k))∧Sl (Below g w wr)∧Sl (wr.heap[g]? = some (.cells (dZ key).toArray 59 (0,0)))∧Sl (∀ i,i<n→wr.cell? ⟨sb,so+i,none⟩=some (.int .u8 ((bs.getD i 0:Nat):Int))∧sb<g)) (fun i _=>n-(intOf i).toNat)
 case atStart=>exact ⟨0,ku _,rfl,gp,bi,HKR,HC⟩
 case round =>
  obtain ⟨k,hk,rfl,HR,HB,HK,HS⟩:=hrel;by_cases bz:k<n
  ·have cw:=HR.ah.cell k (by rw [Hw _ _ _ _ (by rw [HN.ah];exact hk),HN.ah];exact bz)
   have fw:=HR.ah.fF k;have cs:=(HS.ah k bz).1;obtain rfl:=ha (by omega);have k0:(0:Int)≤(k:Int):=by omega
   have k1:(k:Int)<(n:Int):=by omega
   obtain ⟨j,hj⟩:=zX ((K+k) % 4);have YA:j<4:=by omega
   have q1:((K:Int)+(k:Int)) % 4=(j:Int):=by omega
   have q2:((K:Int)+(k:Int)).tmod 4=(j:Int):=by rw [Fq (by omega)];omega
   have q3:IntKind.i64.wrap ((K:Int)+(k:Int))=(K:Int)+(k:Int):=by rw [lZ];omega
   have ck:wr.cell? ⟨g,j,none⟩=some (.int .u8 ((key.getD j 0:Nat):Int)):=by rw [jg _ _ _ _ _ _ HK.ah,Ed];exact jl key j (by rw [HKL.ah];exact YA)
   have hx:=u8_xor_nat (bs.getD k 0) (key.getD j 0) (mN.ah.getD (by omega) k) (im.ah.getD (by omega) j);have gN:Sl ((uS key K bs k).set k (bs.getD k 0 ^^^ key.getD j 0)=uS key K bs (k+1)):=⟨by rw [← hj];exact N9 key K bs k (by rw [HN.ah];exact bz)⟩;have eW:g≠g+1:=by omega
   have adU:sb≠g+1:=by have:=(HS.ah k bz).2;omega
   have lL:=Sl.mk adU;obtain ⟨x,uu⟩:=zX (bs.getD k 0);obtain ⟨y,wA⟩:=zX (key.getD j 0);rw [uu] at cs hx gN;rw [wA] at ck hx gN;obtain ⟨z,zw⟩:=zX (x ^^^ y);rw [zw] at hx gN;clear uu wA zw hj;go_wp2;go_region
   have UV:Sl (fA (wr.setCell ⟨g+1,k,none⟩ (.int .u8 (z:Int))).drew (g+1) (uS key K bs (k+1))):=⟨by rw [← gN.ah];exact HR.ah.set k z⟩;have bv:Sl (Below g w (wr.setCell ⟨g+1,k,none⟩ (.int .u8 (z:Int))).drew):=⟨(HB.ah.setCell (p:=⟨g+1,k,none⟩) (Nat.le_succ _) _).drew⟩;have Nf:Sl ((wr.setCell ⟨g+1,k,none⟩ (.int .u8 (z:Int))).drew.heap[g]? = some (.cells (dZ key).toArray 59 (0,0))):=⟨by
    show (wr.setCell ⟨g+1,k,none⟩ (.int .u8 (z:Int))).heap[g]? = _
    rw [pI _ _ _ _ eW];exact HK.ah⟩
   have da:Sl (∀ i,i<n→(wr.setCell ⟨g+1,k,none⟩ (.int .u8 (z:Int))).drew.cell? ⟨sb,so+i,none⟩=some (.int .u8 ((bs.getD i 0:Nat):Int))∧sb<g):=⟨fun i hi=>by
    refine ⟨?_,(HS.ah i hi).2⟩
    show (wr.setCell ⟨g+1,k,none⟩ (.int .u8 (z:Int))).cell? ⟨sb,so+i,none⟩=_
    rw [World.cell?_setCell_other (h:=fun e=>lL.ah (by injection e with e1;exact e1.symm))];exact (HS.ah i hi).1⟩
   clear cw fw cs ck hx;generalize (wr.setCell ⟨g+1,k,none⟩ (.int .u8 (z:Int))).drew=w3 at *;go_wp2;exact ⟨⟨k+1,by omega,by go_num,UV,bv,Nf,da⟩,by simp [intOf];omega⟩
  ·have eg:((k:Int)<(n:Int))=False:=dR (by omega)
   obtain rfl:k=n:=by omega
   have HT:Sl (uS key K bs k=fC key K bs):=⟨by rw [← HN.ah];exact Q4 key K bs⟩;have ew:Sl (fA wr (g+1) (fC key K bs)):=⟨by rw [← HT.ah];exact HR.ah⟩;go_wp2;go_ret;exact ⟨_,rfl,⟨by omega⟩,ew,HB⟩
end
section
variable {P:Program} {md:Region.Mode} {aR:Array Oper} {Q:Exit→Act→World→Prop} {S:World→Prop}
end
inductive Xr (w:World) (o:Option (List Nat)):Ending→World→Prop where
 | yes (s:List Nat) (g cap:Nat) (w':World) (h:o=some s) (hs:Sl (bJ w' (.slice (some ⟨g,0,none⟩) s.length cap) s)) (hg:Sl (w.heap.size≤g)) (hb:Sl (Below w.heap.size w w')) :
    Xr w o (.returned (.tuple #[.slice (some ⟨g,0,none⟩) s.length cap,.int .i64 0])) w'
 | no (w':World) (h:o=none) (hb:Sl (Below w.heap.size w w')):Xr w o (.returned (.tuple #[.slice none 0 0,.int .i64 81])) w'
theorem Va (k:Nat) (hk:k<2) (n:Nat) (h0:¬ n<126) (hp:∀ j,j<k→¬ n≤(row j).ae) (h:n≤(row k).ae):eP n=some ((row k).first :: be n (row k).j9):=by
 unfold eP
 match k,hk with
 | 0,_ =>
   have h1:n≤65535:=h;rw [if_neg (by omega),if_neg h0,if_pos h1];rfl
 | 1,_ =>
   have h1:n≤9223372036854775807:=h;have h2:¬ n≤65535:=hp 0 (by decide);rw [if_neg (by omega),if_neg h0,if_neg h2];rfl
theorem nT (n:Nat) (hp:∀ j,j<2→¬ n≤(row j).ae):eP n=none:=by
 have h2:¬ n≤9223372036854775807:=hp 1 (by decide);unfold eP;rw [if_pos (by omega)]
theorem FU (n:Nat) (w:World) (hg:bD w):Calls prog 171 #[.int .u64 n] w (Xr w (eP n)):=by
 have M9:Sl ((prog.info? 215).map (·.size)=some nZ.length):=⟨by kernel_rfl⟩;have HG:=Sl.mk hg;have oA:Sl (Below w.heap.size w w):=⟨dW _ _⟩;have c2:w.cell? ⟨1,2,none⟩=some (.int .u64 126):=hg.t 2 _ rfl;clear hg;obtain ⟨o,ho⟩:=zX (eP n);rw [ho];have HO:=Sl.mk ho;clear ho;go_enter func171,ntmps171;by_cases h0:n<126
 ·have f1:IntKind.u8.wrap (n:Int)=(n:Int):=by rw [IntKind.wrap_u8'];omega
  have HP:Sl (o=some [n]):=⟨by rw [← HO.ah];unfold eP;rw [if_neg (by omega),if_pos h0]⟩;have YB:(n:Int)<126:=by omega
  go_wp2;go_ret2;refine .yes [n] w.heap.size 1 _ HP.ah ⟨?_⟩ ⟨aY _⟩ ⟨(dW _ _).alloc (aY _) _⟩;exact fA.src (gu w [n])
 ·have YB:((n:Int)<126)=False:=dR (by omega)
  have H0:=Sl.mk h0;clear h0;go_wp2_with (first | (refine wpList_load_mid rfl 215 (.global 1) rfl 1 0 rfl nZ (.array 2 214) HG.ah.t underlying215 rfl M9.ah ?_))
  go_loopw [15] (fun i wr=>∃ k:Nat,k≤2∧i=.int .i64 k∧Sl (∀ j,j<k→¬ n≤(row j).ae)∧Sl (Below w.heap.size w wr)) (fun i _=>2-(intOf i).toNat)
  case atStart=>exact ⟨0,ku _,rfl,⟨fun j hj=>absurd hj (Fz _)⟩,oA⟩
  case round =>
   obtain ⟨k,hk,rfl,HP,HB⟩:=hrel;by_cases bz:k<2
   ·have mR:=tC k bz
    obtain ⟨mu,eA,K9⟩:=RI k;have rR:=Sl.mk (Va k bz n H0.ah HP.ah);have ut:Sl (¬ n≤(row k).ae→∀ j,j<k+1→¬ n≤(row j).ae):=⟨fun eW j hj=>by
     by_cases e:j=k
     ·subst e;exact eW
     ·exact HP.ah j (by omega)⟩
    obtain ⟨r,hr⟩:∃ r,r=row k:=⟨_,rfl⟩;rw [← hr] at mR mu eA K9 rR ut;clear hr;obtain ⟨f,B,le,mo⟩:=r;simp only [Row.cells] at mR;simp only at mu eA K9 rR ut;obtain ⟨g,fW⟩:=zX wr.heap.size;have zt:=HB.ah.size;rw [fW] at zt;have AS:=Sl.mk zt;by_cases he:n≤mo
    ·have HE:=Sl.mk (rR.ah he)
     have Fy:(n:Int)≤(mo:Int):=by omega
     clear rR ut zt;go_wp2;obtain ⟨R,hR⟩:=zX ((wr.alloc (.cells #[.int .u8 (f:Int),.int .i64 (B:Int),.int .u64 (le:Int),.int .u64 (mo:Int)] 214)).drew);have al:Below w.heap.size w R∧R.heap[g]? = some (.cells #[.int .u8 (f:Int),.int .i64 (B:Int),.int .u64 (le:Int),.int .u64 (mo:Int)] 214 (0,0)):=⟨by rw [← hR];exact (HB.ah.alloc (by rw [fW];exact AS.ah) _).drew,by rw [← hR,← fW];exact aI _ _ _ rfl⟩;refine Ai ?_;refine Ah (S:=fun V=>Below w.heap.size w V∧V.heap[g]? = some (.cells #[.int .u8 (f:Int),.int .i64 (B:Int),.int .u64 (le:Int),.int .u64 (mo:Int)] 214 (0,0))) (by kernel_rfl) ?_;change wpAnyH _ _ _ _ _ _ _ _ (wr.alloc (.cells #[.int .u8 (f:Int),.int .i64 (B:Int),.int .u64 (le:Int),.int .u64 (mo:Int)] 214)).drew;rw [hR];clear hR;refine zT 0 (some 22) (.fieldAddr 214 (.tmp 5) 0) _ al ?_;simp only [zA,zB,zS];refine zT 1 (some 23) (.load 5 (.tmp 22)) _ al ?_ (hy:=fun o' ho W hS=>by have cF:=jg _ _ 0 _ _ _ hS.2;have cB:=jg _ _ 1 _ _ _ hS.2;simp only [Ed,List.getElem?_cons_zero,List.getElem?_cons_succ] at cF cB;simp only [execOp,ho];go_simp;try rfl);simp only [zA,zB,zS];refine zT 3 (some 25) (.move (.tmp 0)) _ al ?_;simp only [zA,zB,zS];refine zT 4 (some 26) (.fieldAddr 214 (.tmp 5) 1) _ al ?_;simp only [zA,zB,zS];refine zT 5 (some 27) (.load 3 (.tmp 26)) _ al ?_ (hy:=fun o' ho W hS=>by have cF:=jg _ _ 0 _ _ _ hS.2;have cB:=jg _ _ 1 _ _ _ hS.2;simp only [Ed,List.getElem?_cons_zero,List.getElem?_cons_succ] at cF cB;simp only [execOp,ho];go_simp;try rfl);simp only [zA,zB,zS];obtain ⟨A,hA⟩:=zX (R.alloc (.cells #[.int .u8 (f:Int)] 5));have FF:Sl (fA A R.heap.size [f]):=⟨by rw [← hA];exact gu R [f]⟩;have BA:Sl (Below R.heap.size R A):=⟨by rw [← hA];exact (dW _ _).alloc (aY _) _⟩;have uv:∀ V V':World,(Below w.heap.size w V∧V.heap[g]? = some (.cells #[.int .u8 (f:Int),.int .i64 (B:Int),.int .u64 (le:Int),.int .u64 (mo:Int)] 214 (0,0)))→Below V.heap.size V V'→(Below w.heap.size w V'∧V'.heap[g]? = some (.cells #[.int .u8 (f:Int),.int .i64 (B:Int),.int .u64 (le:Int),.int .u64 (mo:Int)] 214 (0,0))):=fun V V' h hb=>⟨h.1.trans (hb.mono h.1.size),by rw [hb.block _ (zl h.2)];exact h.2⟩
     have ga:=uv _ _ al BA.ah;refine JX (di:=some 24) (pT:=.buildSlice 49 1 #[(0,.tmp 23)]) (dj:=some 28) (p8:=.call {callee:=.value (.func 163),args:=#[.tmp 25,.tmp 27],argTypes:=#[162,3]}) (ti:=49) (tj:=49) 2 6 (.slice (some ⟨R.heap.size,0,none⟩) 1 1) A 163 #[.int .u64 (n:Int),.int .i64 (B:Int)] rfl rfl (by kernel_rfl) ?y2 ?y6 ga ?first ?second;case y2=>intro o' ho ht;simp only [execOp,ho];go_simp;first | done | rw [hA] | rfl
     case y6=>intro o' ho ht;simp only [execOp,ho];go_simp;try rfl
     case first =>
      simp only [zA,zB,zS];refine zC 6 (some 28) (.call {callee:=.value (.func 163),args:=#[.tmp 25,.tmp 27],argTypes:=#[162,3]}) 163 #[.int .u64 (n:Int),.int .i64 (B:Int)] ?_;refine (JY n B A mu).mono ?_;rintro e X ⟨rfl,FG,cq⟩;have ns:=uv _ _ ga cq.ah;refine ⟨_,rfl,ns,?_⟩;simp only [zA,zB,zS];have AT:w.heap.size≤R.heap.size:=al.1.size;have h1:fA X R.heap.size [f]:=FF.ah.below cq.ah;have h2:fA X A.heap.size (be n B):=FG.ah;have Dm:g<R.heap.size:=(zl al.2);obtain ⟨v1,X5,YC,ho6,YD⟩:=En (base:=w.heap.size) 49 h1 AT h2 (by simp [bW];omega) ns.1.size;rw [bW] at YC;have gb:Below w.heap.size w X5:=ns.1.grown YD ns.1.size (fun k hk=>by injection hk with hk;rw [← hk];exact AT);have cC:Below w.heap.size w X5∧X5.heap[g]? = some (.cells #[.int .u8 (f:Int),.int .i64 (B:Int),.int .u64 (le:Int),.int .u64 (mo:Int)] 214 (0,0)):=⟨gb,by rw [YD.block _ (zl ns.2) (fun e=>by injection e with e;have h9:=(zl al.2);omega)];exact ns.2⟩;obtain ⟨gv,cv,hv,hgv,hsv⟩:=tq ho6 (by simp);subst hv;refine zR 7 (some 29) (.call {callee:=.builtin .append,args:=#[.tmp 24,.tmp 28],argTypes:=#[49,49]}) 49 (.slice (some ⟨gv,0,none⟩) ([f]++be n B).length cv) X5 cC ?_ (hy:=fun o' ho ht=>by simp only [execOp,ho,ht,resolve,invoke,builtin,rE,Sem.run_pure,Result.andThen_ok,UW,JJ,NT];refine (lG (fun r=>Result.andThen r _) YC).trans ?_;rfl);simp only [zA,zB,zS];refine zT 8 (some 2) (.assign (.tmp 29)) _ cC ?_;simp only [zA,zB,zS];refine zT 9 (some 3) (.assign (.const (.int .i64 0))) _ cC ?_;simp only [zA,zB,zS];refine zE (by kernel_rfl) ?_;go_wp2;go_ret2;exact .yes _ gv cv _ (HO.ah.symm.trans HE.ah) ⟨hsv⟩ ⟨hgv⟩ ⟨gb⟩
     case second =>
      refine (JY n B R mu).mono ?_;rintro e X ⟨rfl,FG,cq⟩;have ns:=uv _ _ al cq.ah;refine ⟨_,rfl,ns,?_⟩;simp only [zA,zB,zS];obtain ⟨Y,hY⟩:=zX (X.alloc (.cells #[.int .u8 (f:Int)] 5));have BY:Sl (Below X.heap.size X Y):=⟨by rw [← hY];exact (dW _ _).alloc (aY _) _⟩;have jp:=uv _ _ ns BY.ah;have h1:fA Y X.heap.size [f]:=by rw [← hY];exact gu X [f]
      have h2:fA Y R.heap.size (be n B):=FG.ah.below BY.ah;have AT:w.heap.size≤X.heap.size:=ns.1.size;have Dm:g<X.heap.size:=(zl ns.2);refine zR 2 (some 24) (.buildSlice 49 1 #[(0,.tmp 23)]) 49 (.slice (some ⟨X.heap.size,0,none⟩) 1 1) Y jp ?_ (hy:=fun o' ho ht=>by simp only [execOp,ho];go_simp;first | done | rw [hY] | rfl);simp only [zA,zB,zS];obtain ⟨v1,X5,YC,ho6,YD⟩:=En (base:=w.heap.size) 49 h1 AT h2 (by simp [bW];omega) jp.1.size;rw [bW] at YC;have gb:Below w.heap.size w X5:=jp.1.grown YD jp.1.size (fun k hk=>by injection hk with hk;rw [← hk];exact AT);have cC:Below w.heap.size w X5∧X5.heap[g]? = some (.cells #[.int .u8 (f:Int),.int .i64 (B:Int),.int .u64 (le:Int),.int .u64 (mo:Int)] 214 (0,0)):=⟨gb,by rw [YD.block _ (zl jp.2) (fun e=>by injection e with e;omega)];exact jp.2⟩;obtain ⟨gv,cv,hv,hgv,hsv⟩:=tq ho6 (by simp);subst hv;refine zR 7 (some 29) (.call {callee:=.builtin .append,args:=#[.tmp 24,.tmp 28],argTypes:=#[49,49]}) 49 (.slice (some ⟨gv,0,none⟩) ([f]++be n B).length cv) X5 cC ?_ (hy:=fun o' ho ht=>by simp only [execOp,ho,ht,resolve,invoke,builtin,rE,Sem.run_pure,Result.andThen_ok,UW,JJ,NT];refine (lG (fun r=>Result.andThen r _) YC).trans ?_;rfl);simp only [zA,zB,zS];refine zT 8 (some 2) (.assign (.tmp 29)) _ cC ?_;simp only [zA,zB,zS];refine zT 9 (some 3) (.assign (.const (.int .i64 0))) _ cC ?_;simp only [zA,zB,zS];refine zE (by kernel_rfl) ?_;go_wp2;go_ret2;exact .yes _ gv cv _ (HO.ah.symm.trans HE.ah) ⟨hsv⟩ ⟨hgv⟩ ⟨gb⟩
    ·have zv:=Sl.mk (ut.ah he)
     clear rR ut zt;have Fy:((n:Int)≤(mo:Int))=False:=dR (by omega);go_wp2;exact ⟨⟨k+1,by omega,by go_num,zv,⟨HB.ah.alloc (by rw [fW];exact AS.ah) _⟩⟩,by simp [intOf];omega⟩
   ·have eg:((k:Int)<2)=False:=dR (by omega)
    obtain rfl:k=2:=by omega
    have HN:=Sl.mk (HO.ah.symm.trans (nT n HP.ah));go_wp2;go_ret2;exact .no _ HN.ah HB
theorem Vb (n:Nat) (w:World) (hn:n<4294967296):Calls prog 146 #[.int .u32 n] w fun e w'=>e=.returned (.agg (dZ (be n 4)).toArray)∧Sl (Below w.heap.size w w'):=by
 have f1:IntKind.u64.wrap (n:Int)=(n:Int):=by rw [FP];omega
 obtain ⟨g,hg⟩:=zX w.heap.size;go_enter func146,ntmps146;go_upto_region 2 with fail
 obtain ⟨R,hR⟩:=zX (((w.alloc (.cells (dZ (zs 4)).toArray 59)).alloc (.cells (dZ (zs 4)).toArray 59)).drew);have H0:R.heap[g]? = some (.cells (dZ (zs 4)).toArray 59 (0,0)):=by rw [← hR];show ((w.alloc (.cells (dZ (zs 4)).toArray 59)).alloc (.cells (dZ (zs 4)).toArray 59)).heap[g]? = _;rw [gJ _ _ _ (by rw [aP];omega)];exact aI _ _ _ hg.symm
 have al:Below g w R∧R.heap[g+1]? = some (.cells (dZ (zs 4)).toArray 59 (0,0))∧R.heap[g]? = some (.cells (dZ (zs 4)).toArray 59 (0,0)):=⟨by rw [← hR];exact (((dW _ _).alloc (by omega) _).alloc (by rw [aP];omega) _).drew,by rw [← hR];exact aI _ _ _ (by rw [aP,hg]),H0⟩;clear H0;refine Ai ?_;refine Ah (S:=fun V=>Below g w V) (by kernel_rfl) ?_;change wpAnyH _ _ _ _ _ _ _ _ ((w.alloc (.cells (dZ (zs 4)).toArray 59)).alloc (.cells (dZ (zs 4)).toArray 59)).drew;rw [hR];clear hR;refine zT 0 (some 4) (.slice 59 (.tmp 3) none none none) _ al.1 ?_;simp only [zA,zB,zS];refine zT 1 (some 5) (.move (.tmp 0)) _ al.1 ?_;simp only [zA,zB,zS];refine zT 2 (some 6) (.convert 26 162 (.tmp 5)) _ al.1 ?_;simp only [zA,zB,zS];refine zC 3 (some 7) (.call {callee:=.value (.func 163),args:=#[.tmp 6,.const (.int .i64 4)],argTypes:=#[162,3]}) 163 #[.int .u64 (n:Int),.int .i64 4] ?_;refine (JY n 4 R (by omega)).mono ?_;rintro e X ⟨rfl,FG,cq⟩;have hgR:g+1<R.heap.size:=(zl al.2.1);have hX0:X.heap[g]? = some (.cells (dZ (zs 4)).toArray 59 (0,0)):=by rw [cq.ah.block _ (by omega)];exact al.2.2
 have hX1:X.heap[g+1]? = some (.cells (dZ (zs 4)).toArray 59 (0,0)):=by rw [cq.ah.block _ hgR];exact al.2.1
 have hBX:Below g w X:=al.1.trans (cq.ah.mono (by have:=al.1.size;omega));refine ⟨_,rfl,hBX,?_⟩;simp only [zA,zB,zS];have gd:=run_copy_row (P:=prog) X 49 49 3 5 (g+1) 0 4 4 ⟨R.heap.size,0,none⟩ 4 4 (dZ (zs 4)).toArray 59 (dZ (be n 4)) underlying49 size5 hX1 (by simp [bW]) (fun j u hu=>by
  have hj:j<(be n 4).length:=by have:=(LV.1 hu).1;simpa using this
  rw [DD,vT,FG.ah.cell j hj,← hu,jl _ j hj]) (by simp [bW]) (oM _)
 rw [show ((dZ (zs 4)).toArray.toList.take 0++dZ (be n 4)++(dZ (zs 4)).toArray.toList.drop (0+(dZ (be n 4)).length))=dZ (be n 4) by simp [bW],show (dZ (be n 4)).length=4 by simp [bW]] at gd;obtain ⟨Y,hY⟩:=zX (X.setRow (g+1) (dZ (be n 4)).toArray);have hY1:Sl (Y.heap[g+1]? = some (.cells (dZ (be n 4)).toArray 59 (0,0))):=⟨by rw [← hY];exact gY _ _ _ _ _ _ hX1⟩;have hY0:Sl (Y.heap[g]? = some (.cells (dZ (zs 4)).toArray 59 (0,0))):=⟨by rw [← hY,qC _ _ _ _ (by omega)];exact hX0⟩;have hBY:Sl (Below g w Y):=⟨by rw [← hY];exact below_setRow hBX (by omega) _⟩;rw [hY] at gd;clear hY;refine zR 4 (some 8) (.call {callee:=.builtin .copy,args:=#[.tmp 4,.tmp 7],argTypes:=#[49,49]}) 3 (.int .i64 4) Y hBY.ah ?_ (hy:=fun o' ho ht=>by simp only [execOp,ho,ht,resolve,invoke,builtin,rE,Sem.run_pure,Result.andThen_ok,UW,JJ,NT];refine (lG (fun r=>Result.andThen r _) gd).trans ?_;rfl);simp only [zA,zB,zS];refine zE (by kernel_rfl) ?_;have HI:Sl ((prog.info? 59).map (·.size)=some (dZ (be n 4)).toArray.size):=⟨by
  have:(prog.info? 59).map (·.size)=some 4:=by kernel_rfl
  simpa [bW] using this⟩
 have HO:Sl ((dZ (zs 4)).toArray.size=(dZ (be n 4)).toArray.size):=⟨by simp [bW]⟩;go_wp2_with (first
  | (refine uY rfl 59 (.tmp 3) rfl (g+1) rfl 59 _ (0,0) (.array 4 5) hY1.ah underlying59 rfl HI.ah ?_)
  | (refine fG rfl 59 (.tmp 2) (.tmp 9) rfl g _ rfl rfl 59 _ hY0.ah HI.ah HO.ah (all_oneCell_toArray (oM _)) ?_))
 refine gX (v:=.agg (dZ (be n 4)).toArray) ?_ rfl ⟨rfl,⟨below_setRow (by rw [hg];exact hBY.ah) (by omega) _⟩⟩;exact results_cell_row Tryz.results146 _ _ g 59 _ (0,0) (.array 4 5) rfl (gY _ _ _ _ _ _ hY0.ah) underlying59 rfl HI.ah
theorem wo (n:Nat) (s:List Nat) (w:World) (hg:bD w) (h:eP n=some s) :
 Calls prog 171 #[.int .u64 n] w fun e w'=>∃ g cap,e=.returned (.tuple #[.slice (some ⟨g,0,none⟩) s.length cap,.int .i64 0])∧Sl (bJ w' (.slice (some ⟨g,0,none⟩) s.length cap) s)∧Sl (Below w.heap.size w w') :=
 (FU n w hg).mono fun _ _ hr=>by
  cases hr with
  | yes s' g cap w' h' hs hg hb =>
    rw [h] at h';injection h' with h'
    subst h';exact ⟨g,cap,rfl,hs,hb⟩
  | no w' h' hb=>rw [h] at h';cases h'
theorem qE (v:Value) (bs:List Nat) (n k e:Nat) (w:World) (hg:bD w) (hv:bJ w v bs) (bB:aU 256 bs) (hm:bs.length≤1000000) (h:bK bs=(n,k,e)) :
 Calls prog 159 #[v] w fun x w'=>x=.returned (.tuple #[.int .u64 (n:Int),.int .i64 (k:Int),.int .i64 (e:Int)])∧Sl (Below w.heap.size w w') :=
 (wJ v bs w hg hv bB hm).mono fun _ _ ⟨hx,hb⟩=>⟨by rw [hx,h];rfl,hb⟩
theorem Xt (n:Nat) (l:List Nat) (w:World) (hn:n<4294967296) (h:be n 4=l):Calls prog 146 #[.int .u32 n] w fun e w'=>e=.returned (.agg (dZ l).toArray)∧Sl (Below w.heap.size w w') :=
 (Vb n w hn).mono fun _ _ ⟨hx,hb⟩=>⟨by rw [hx,h],hb⟩
section
variable {x S k:Nat} {xs:List Nat}
theorem og (s:ByteArray) (x:Nat) (xs:List Nat) (h:bytes s=x :: xs) (k:Nat) (hk:k+1<s.size):(s[k+1]'hk).toNat=xs.getD k 0:=by
 have:=dL s (k+1) hk;rw [h,List.getD_cons_succ] at this;rw [this];rfl
structure GI (x:Nat) (xs:List Nat) (S k:Nat):Prop where
 len:k≤xs.length
 high:S=8→0<k→xs.getD 0 0<128
 zero:S=8→6≤k→val (xs.take 6)≠0
 Hz:S=2→2≤k→¬ val (xs.take 2)<126
 Vc:(S=2∧x % 128=126)∨(S=8∧x % 128=127)
theorem GI.aN (h:GI x xs S S):bK (x :: xs)=(val (xs.take S),1+S,0):=by
 rcases h.Vc with ⟨rfl,hx⟩ | ⟨rfl,hx⟩
 ·have:=h.len
  rw [bK,if_neg (by omega),if_pos hx,if_neg (by omega),if_neg (h.Hz rfl (by omega))]
 ·exact Ob x xs hx h.len (h.high rfl (by omega)) (h.zero rfl (by omega))
theorem GI.dY (h:GI x xs S k) (hk:k<S) (hl:xs.length=k):bK (x :: xs)=(0,0,80):=by
 rcases h.Vc with ⟨rfl,hx⟩ | ⟨rfl,hx⟩
 ·rw [bK,if_neg (by omega),if_pos hx,if_pos (by omega)]
 ·exact UZ x xs hx (by omega) (fun h1=>h.high rfl (by omega)) (fun h1=>h.zero rfl (by omega))
theorem GI.YE (h:GI x xs 8 0) (hl:0<xs.length) (hc:128≤xs.getD 0 0):bK (x :: xs)=(0,0,81):=by
 rcases h.Vc with ⟨h8,_⟩ | ⟨_,hx⟩
 ·omega
 ·exact Q8 x xs hx hl hc
theorem GI.six (h:GI x xs 8 5) (hl:5<xs.length) (hc:val (xs.take 6)=0):bK (x :: xs)=(0,0,81):=by
 rcases h.Vc with ⟨h8,_⟩ | ⟨_,hx⟩
 ·omega
 ·exact Oa x xs hx hl hc
theorem GI.one (h:GI x xs 2 1) (hl:1<xs.length) (hc:val (xs.take 2)<126):bK (x :: xs)=(0,0,81):=by
 rcases h.Vc with ⟨_,hx⟩ | ⟨h8,_⟩
 ·rw [bK,if_neg (by omega),if_pos hx,if_neg (by omega),if_pos hc]
 ·omega
theorem GI.next (h:GI x xs S k) (hl:k<xs.length) (h1:S=8→k=0→xs.getD 0 0<128) (h2:S=8→k=5→val (xs.take 6)≠0) (h3:S=2→k=1→¬ val (xs.take 2)<126):GI x xs S (k+1) :=
 ⟨hl,fun e _=>by
  by_cases hk:k=0
  ·exact h1 e hk
  ·exact h.high e (by omega),fun e _=>by
  by_cases hk:k=5
  ·exact h2 e hk
  ·exact h.zero e (by omega),fun e _=>by
  by_cases hk:k=1
  ·exact h3 e hk
  ·exact h.Hz e (by omega),h.Vc⟩
theorem Vd (s:ByteArray) (x:Nat) (xs:List Nat) (hb:bytes s=x :: xs) (il:x % 128=127) (w:World) (hs:s.size≤100000):Calls prog 125 #[.string s] w fun e w'=>e=.returned (FQ (bK (x :: xs)))∧w=w':=by
 have bB:=aJ s;have bt:=au s;rw [hb] at bB bt;obtain ⟨n,hn⟩:=zX xs.length;have gh:s.size=n+1:=by rw [← bt,jE,hn]
 have h0:0<s.size:=by omega
 have hx:(s[0]'h0).toNat=x:=by
  have:=dL s 0 h0;rw [hb,Dx] at this;rw [this];rfl
 have dv:x<256:=bB x (rD ..);have AR:Sl (aU 256 xs):=⟨fun y hy=>bB y (uK _ hy)⟩;have HB:=Sl.mk hb;have HN:=Sl.mk hn;have bS:=Sl.mk gh;have FJ:(x:Int) % 128=127:=by omega
 have ko:=Sl.mk il;clear hb bt bB hn il gh;go_enter func125,ntmps125;have HX:Sl (x % 128=127):=ko;go_wp2;go_loopw [7,8,9] (fun u z i wr=>∃ (k v:Nat) (zb:Bool),k≤8∧u=.int .u64 (v:Int)∧z=.bool zb∧i=.int .i64 k∧w=wr∧Sl (val (xs.take k)=v)∧Sl (zb=decide (v=0))∧Sl (GI x xs 8 k)) (fun _ _ i _=>8-(intOf i).toNat)
 case atStart=>exact ⟨0,0,true,ku _,rfl,rfl,rfl,rfl,⟨rfl⟩,⟨rfl⟩,⟨⟨ku _,fun _ h=>absurd h (by decide),fun _ h=>absurd h (by decide),fun _ h=>absurd h (by decide),.inr ⟨rfl,HX.ah⟩⟩⟩⟩
 case round =>
  obtain ⟨k,v,zb,hk,rfl,rfl,rfl,rfl,HV,HZ,HG⟩:=hrel;by_cases bz:k<8
  ·by_cases hmore:k<n
   ·have hi:k+1<s.size:=by have:=bS.ah;omega
    have M8:=og s x xs HB.ah k hi;have YF:Sl (xs.getD k 0<256):=⟨AR.ah.getD (by omega) k⟩;obtain ⟨c,hc⟩:=zX (xs.getD k 0);have HC:=Sl.mk hc;rw [hc] at M8 YF;have ie:=YF.ah;have adY:v<72057594037927936:=by
     have h1:=Bi (xs.take k) (AR.ah.take k);rw [HV.ah,kQ,LX (by rw [HN.ah];omega)] at h1;have h2:256 ^ k≤256 ^ 7:=Nat.pow_le_pow_right (by omega) (by omega);omega
    have nd:Sl (val (xs.take (k+1))=256*v+c):=⟨by rw [Bj _ _ (by rw [HN.ah];exact hmore),HV.ah,HC.ah]⟩;have eg:((k:Int)+1≥(s.size:Int))=False:=dR (by have:=bS.ah;omega);have kn:(0:Int)≤(k:Int)+1:=by omega
    have hi1:(k:Int)+1<(s.size:Int):=by omega
    clear hc;by_cases ux:k=0
    ·subst ux
     by_cases zz:128≤c
     ·have HR:=Sl.mk (GI.YE HG.ah (by rw [HN.ah];exact hmore) (by rw [HC.ah];exact zz))
      have hq:((c:Int)≥128)=True:=eq_true (by omega);go_wp2;go_ret3
      exact ⟨by rw [HR.ah];rfl,rfl⟩
     ·have hq:((c:Int)≥128)=False:=dR (by omega)
      have eR:Sl (GI x xs 8 1):=⟨HG.ah.next (by rw [HN.ah];exact hmore) (fun _ _=>by rw [HC.ah];omega) (fun _ h=>absurd h (by decide)) (fun h=>absurd h (by decide))⟩;by_cases pu:v=0
      ·have hz:zb=true:=by rw [HZ.ah,iG pu]
       subst hz;by_cases sr:c=0
       ·have wD:((c:Int)==0)=true:=by simp;omega
        go_wp2;exact ⟨⟨1,256*v+c,true,by omega,by go_num,rfl,by go_num,trivial,nd,⟨by rw [iG (by omega)]⟩,eR⟩,by simp [intOf]<;>omega⟩
       ·have wD:((c:Int)==0)=false:=by simp;omega
        go_wp2;exact ⟨⟨1,256*v+c,false,by omega,by go_num,rfl,by go_num,trivial,nd,⟨by rw [iQ (by omega)]⟩,eR⟩,by simp [intOf]<;>omega⟩
      ·have hz:zb=false:=by rw [HZ.ah,iQ pu]
       subst hz;go_wp2;exact ⟨⟨1,256*v+c,false,by omega,by go_num,rfl,by go_num,trivial,nd,⟨by rw [iQ (by omega)]⟩,eR⟩,by simp [intOf]<;>omega⟩
    ·by_cases hk5:k=5
     ·subst hk5
      by_cases hz6:256*v+c=0
      ·have HR:=Sl.mk (GI.six HG.ah (by rw [HN.ah];exact hmore) (by rw [nd.ah];exact hz6))
       have sr:((c:Int)==0)=true:=by simp;omega
       have hz:zb=true:=by rw [HZ.ah,iG (by omega)]
       subst hz;go_wp2;go_ret3
       exact ⟨by rw [HR.ah];rfl,rfl⟩
      ·have eR:Sl (GI x xs 8 6):=⟨HG.ah.next (by rw [HN.ah];exact hmore) (fun _ h=>absurd h (by decide)) (fun _ _=>by rw [nd.ah];exact hz6) (fun h=>absurd h (by decide))⟩
       by_cases pu:v=0
       ·have hz:zb=true:=by rw [HZ.ah,iG pu]
        subst hz;by_cases sr:c=0
        ·omega
        ·have wD:((c:Int)==0)=false:=by simp;omega
         go_wp2;exact ⟨⟨6,256*v+c,false,by omega,by go_num,rfl,by go_num,trivial,nd,⟨by rw [iQ (by omega)]⟩,eR⟩,by simp [intOf]<;>omega⟩
       ·have hz:zb=false:=by rw [HZ.ah,iQ pu]
        subst hz;go_wp2;exact ⟨⟨6,256*v+c,false,by omega,by go_num,rfl,by go_num,trivial,nd,⟨by rw [iQ (by omega)]⟩,eR⟩,by simp [intOf]<;>omega⟩
     ·have eR:Sl (GI x xs 8 (k+1)):=⟨HG.ah.next (by rw [HN.ah];exact hmore) (fun _ h=>absurd h ux) (fun _ h=>absurd h hk5) (fun h=>absurd h (by decide))⟩
      have ajz:((k:Int)==0)=false:=by simp;omega
      have ajA:((k:Int)==5)=false:=by simp;omega
      by_cases pu:v=0
      ·have hz:zb=true:=by rw [HZ.ah,iG pu]
       subst hz;by_cases sr:c=0
       ·have wD:((c:Int)==0)=true:=by simp;omega
        go_wp2;exact ⟨⟨k+1,256*v+c,true,by omega,by go_num,rfl,by go_num,trivial,nd,⟨by rw [iG (by omega)]⟩,eR⟩,by simp [intOf]<;>omega⟩
       ·have wD:((c:Int)==0)=false:=by simp;omega
        go_wp2;exact ⟨⟨k+1,256*v+c,false,by omega,by go_num,rfl,by go_num,trivial,nd,⟨by rw [iQ (by omega)]⟩,eR⟩,by simp [intOf]<;>omega⟩
      ·have hz:zb=false:=by rw [HZ.ah,iQ pu]
       subst hz;go_wp2;exact ⟨⟨k+1,256*v+c,false,by omega,by go_num,rfl,by go_num,trivial,nd,⟨by rw [iQ (by omega)]⟩,eR⟩,by simp [intOf]<;>omega⟩
   ·obtain rfl:k=n:=by have:=HG.ah.len;rw [HN.ah] at this;omega
    have eg:((k:Int)+1≥(s.size:Int))=True:=eq_true (by have:=bS.ah;omega);have HR:=Sl.mk (HG.ah.dY bz HN.ah);go_wp2;go_ret3
    exact ⟨by rw [HR.ah];rfl,rfl⟩
  ·obtain rfl:k=8:=by omega
   have HR:=Sl.mk HG.ah.aN;rw [HV.ah] at HR;go_wp2;go_ret3
   exact ⟨by rw [HR.ah];rfl,rfl⟩
theorem Ve (s:ByteArray) (x:Nat) (xs:List Nat) (hb:bytes s=x :: xs) (il:x % 128=126) (w:World) (hs:s.size≤100000):Calls prog 125 #[.string s] w fun e w'=>e=.returned (FQ (bK (x :: xs)))∧w=w':=by
 have bB:=aJ s;have bt:=au s;rw [hb] at bB bt;obtain ⟨n,hn⟩:=zX xs.length;have gh:s.size=n+1:=by rw [← bt,jE,hn]
 have h0:0<s.size:=by omega
 have hx:(s[0]'h0).toNat=x:=by
  have:=dL s 0 h0;rw [hb,Dx] at this;rw [this];rfl
 have dv:x<256:=bB x (rD ..);have AR:Sl (aU 256 xs):=⟨fun y hy=>bB y (uK _ hy)⟩;have HB:=Sl.mk hb;have HN:=Sl.mk hn;have bS:=Sl.mk gh;have FJ:(x:Int) % 128=126:=by omega
 have ko:=Sl.mk il;clear hb bt bB hn il gh;go_enter func125,ntmps125;have HX:Sl (x % 128=126):=ko;go_wp2;go_loopw [7,8,9] (fun u z i wr=>∃ (k v:Nat) (zb:Bool),k≤2∧u=.int .u64 (v:Int)∧z=.bool zb∧i=.int .i64 k∧w=wr∧Sl (val (xs.take k)=v)∧Sl (zb=decide (v=0))∧Sl (GI x xs 2 k)) (fun _ _ i _=>2-(intOf i).toNat)
 case atStart=>exact ⟨0,0,true,ku _,rfl,rfl,rfl,rfl,⟨rfl⟩,⟨rfl⟩,⟨⟨ku _,fun _ h=>absurd h (by decide),fun _ h=>absurd h (by decide),fun _ h=>absurd h (by decide),.inl ⟨rfl,HX.ah⟩⟩⟩⟩
 case round =>
  obtain ⟨k,v,zb,hk,rfl,rfl,rfl,rfl,HV,HZ,HG⟩:=hrel;by_cases bz:k<2
  ·by_cases hmore:k<n
   ·have hi:k+1<s.size:=by have:=bS.ah;omega
    have M8:=og s x xs HB.ah k hi;have YF:Sl (xs.getD k 0<256):=⟨AR.ah.getD (by omega) k⟩;obtain ⟨c,hc⟩:=zX (xs.getD k 0);have HC:=Sl.mk hc;rw [hc] at M8 YF;have ie:=YF.ah;have adY:v<72057594037927936:=by
     have h1:=Bi (xs.take k) (AR.ah.take k);rw [HV.ah,kQ,LX (by rw [HN.ah];omega)] at h1;have h2:256 ^ k≤256 ^ 7:=Nat.pow_le_pow_right (by omega) (by omega);omega
    have nd:Sl (val (xs.take (k+1))=256*v+c):=⟨by rw [Bj _ _ (by rw [HN.ah];exact hmore),HV.ah,HC.ah]⟩;have eg:((k:Int)+1≥(s.size:Int))=False:=dR (by have:=bS.ah;omega);have kn:(0:Int)≤(k:Int)+1:=by omega
    have hi1:(k:Int)+1<(s.size:Int):=by omega
    clear hc;by_cases ux:k=0
    ·subst ux
     have eR:Sl (GI x xs 2 1):=⟨HG.ah.next (by rw [HN.ah];exact hmore) (fun h=>absurd h (by decide)) (fun h=>absurd h (by decide)) (fun _ h=>absurd h (by decide))⟩;by_cases pu:v=0
     ·have hz:zb=true:=by rw [HZ.ah,iG pu]
      subst hz;by_cases sr:c=0
      ·have wD:((c:Int)==0)=true:=by simp;omega
       go_wp2;exact ⟨⟨1,256*v+c,true,by omega,by go_num,rfl,by go_num,trivial,nd,⟨by rw [iG (by omega)]⟩,eR⟩,by simp [intOf]<;>omega⟩
      ·have wD:((c:Int)==0)=false:=by simp;omega
       go_wp2;exact ⟨⟨1,256*v+c,false,by omega,by go_num,rfl,by go_num,trivial,nd,⟨by rw [iQ (by omega)]⟩,eR⟩,by simp [intOf]<;>omega⟩
     ·have hz:zb=false:=by rw [HZ.ah,iQ pu]
      subst hz;go_wp2;exact ⟨⟨1,256*v+c,false,by omega,by go_num,rfl,by go_num,trivial,nd,⟨by rw [iQ (by omega)]⟩,eR⟩,by simp [intOf]<;>omega⟩
    ·obtain dC:k=1:=by omega
     subst dC;by_cases eZ:256*v+c<126
     ·have HR:=Sl.mk (GI.one HG.ah (by rw [HN.ah];exact hmore) (by rw [nd.ah];exact eZ))
      have hq:(256*(v:Int)+(c:Int)<126)=True:=eq_true (by omega);have hcz:((c:Int)==0)=decide (c=0):=by rw [QL];simp
      go_wp2;all_goals (go_ret3;exact ⟨by rw [HR.ah];rfl,rfl⟩)
     ·have hq:(256*(v:Int)+(c:Int)<126)=False:=dR (by omega)
      have eR:Sl (GI x xs 2 2):=⟨HG.ah.next (by rw [HN.ah];exact hmore) (fun h=>absurd h (by decide)) (fun h=>absurd h (by decide)) (fun _ _=>by rw [nd.ah];exact eZ)⟩;by_cases pu:v=0
      ·have hz:zb=true:=by rw [HZ.ah,iG pu]
       subst hz;by_cases sr:c=0
       ·omega
       ·have wD:((c:Int)==0)=false:=by simp;omega
        go_wp2;exact ⟨⟨2,256*v+c,false,by omega,by go_num,rfl,by go_num,trivial,nd,⟨by rw [iQ (by omega)]⟩,eR⟩,by simp [intOf]<;>omega⟩
      ·have hz:zb=false:=by rw [HZ.ah,iQ pu]
       subst hz;go_wp2;exact ⟨⟨2,256*v+c,false,by omega,by go_num,rfl,by go_num,trivial,nd,⟨by rw [iQ (by omega)]⟩,eR⟩,by simp [intOf]<;>omega⟩
   ·obtain rfl:k=n:=by have:=HG.ah.len;rw [HN.ah] at this;omega
    have eg:((k:Int)+1≥(s.size:Int))=True:=eq_true (by have:=bS.ah;omega);have HR:=Sl.mk (HG.ah.dY bz HN.ah);go_wp2;go_ret3
    exact ⟨by rw [HR.ah];rfl,rfl⟩
  ·obtain rfl:k=2:=by omega
   have HR:=Sl.mk HG.ah.aN;rw [HV.ah] at HR;go_wp2;go_ret3
   exact ⟨by rw [HR.ah];rfl,rfl⟩
theorem l9 (s:ByteArray) (w:World) (hs:s.size≤100000):Calls prog 125 #[.string s] w fun e w'=>e=.returned (FQ (bK (bytes s)))∧w=w':=by
 have bB:=aJ s;have bt:=au s;cases hb:bytes s with
 | nil =>
   rw [hb] at bt;have h0:s.size=0:=by simpa using bt.symm
   clear bt bB;go_enter func125,ntmps125;go_wp2;go_ret3
   exact ⟨rfl,rfl⟩
 | cons x xs =>
   by_cases YG:x % 128<126
   ·rw [hb] at bB bt
    have HR:=Sl.mk (L8 x xs YG);have h0:0<s.size:=by rw [← bt,jE];omega
    have hx:(s[0]'h0).toNat=x:=by
     have:=dL s 0 h0;rw [hb,Dx] at this;rw [this];rfl
    have dv:x<256:=bB x (rD ..);obtain ⟨fb,il⟩:=zX (x % 128);rw [il] at YG HR;have FJ:(x:Int) % 128=(fb:Int):=by omega
    clear hb bt bB il;go_enter func125,ntmps125;go_wp2;go_ret3
    exact ⟨by rw [HR.ah];rfl,rfl⟩
   ·by_cases h127:x % 128=127
    ·exact Vd s x xs hb h127 w hs
    ·exact Ve s x xs hb (by omega) w hs
end
section
variable {m i:Nat} {s:ByteArray} {fx r:Int}
def DG (n size:Nat) (m i:Nat) (s:ByteArray):Prop:=be n size=be m (size-i)++bytes s
theorem DG.next {n size:Nat} (h:DG n size m i s) (hi:i<size):DG n size (m / 256) (i+1) (aF [m % 256]++s):=by
 unfold DG at *;rw [h,show size-i=(size-(i+1))+1 by omega,be,iK,tu _ (Nat.mod_lt _ (by decide)),Ae]
theorem DG.size {n size:Nat} (h:DG n size m i s) (hi:i≤size):s.size=i:=by
 unfold DG at h;have h2:=lG List.length h;rw [bW,jB,bW,au] at h2;omega
theorem DG.aN {n size:Nat} (h:DG n size m size s):s=aF (be n size):=by
 unfold DG at h;rw [Nat.sub_self] at h;rw [h];exact (bT s).symm
theorem Bz (n size:Nat) (w:World) (hn:n<18446744073709551616) (hk:size≤8):Calls prog 158 #[.int .u64 n,.int .i64 size] w fun e w'=>e=.returned (.string (aF (be n size)))∧Sl (Below w.heap.size w w'):=by
 have HN:=Sl.mk hn;have H0:Sl (DG n size n 0 ByteArray.empty):=⟨by unfold DG;simp [bytes]⟩;have oA:Sl (Below w.heap.size w w):=⟨dW _ _⟩;clear hn;go_enter func158,ntmps158;go_wp2;go_loopw [0,5,6] (fun u t i wr=>∃ (k m:Nat) (s:ByteArray),k≤size∧u=.int .u64 (m:Int)∧t=.string s∧i=.int .i64 k∧Sl (m<18446744073709551616)∧Sl (DG n size m k s)∧Sl (Below w.heap.size w wr)) (fun _ _ i _=>size-(intOf i).toNat)
 case atStart=>exact ⟨0,n,ByteArray.empty,ku _,rfl,rfl,rfl,HN,H0,oA⟩
 case round =>
  obtain ⟨k,m,s,ez,rfl,rfl,rfl,HM,HD,HB⟩:=hrel;by_cases bz:k<size
  ·obtain ⟨c,hc⟩:=zX (m % 256)
   obtain ⟨q,hq⟩:=zX (m / 256);have Do:=HD.ah.next bz;rw [hc,hq] at Do;have F0:=Sl.mk Do;clear Do;have bS:Sl ((aF [c]).size+s.size=1+k):=⟨by rw [cZ,HD.ah.size ez];rfl⟩;have e1:(m:Int) % 256=(c:Int):=by omega
   have e2:(m:Int) / 256=(q:Int):=by omega
   have e3:IntKind.u8.wrap (c:Int)=(c:Int):=by rw [IntKind.wrap_u8'];omega
   have e4:IntKind.u64.wrap (q:Int)=(q:Int):=by rw [FP];have:=HM.ah;omega
   have HQ:Sl (q<18446744073709551616):=⟨by have:=HM.ah;omega⟩;have p9:Sl (Below w.heap.size w (wr.alloc (.cells #[.int .u8 (c:Int)] 5))):=⟨HB.ah.alloc HB.ah.size _⟩;have eQ:=(gu wr [c]).JW (k:=1) rfl;have e0:(dZ [c]).toArray=#[.int .u8 (c:Int)]:=rfl;rw [e0] at eQ;clear hc hq;go_wp2
   ·have:=bS.ah;omega
   exact ⟨⟨k+1,q,_,by omega,by go_num,rfl,by go_num,HQ,F0,p9⟩,by simp [intOf];omega⟩
  ·have eg:((k:Int)<(size:Int))=False:=dR (by omega)
   obtain rfl:k=size:=by omega
   have HE:=Sl.mk HD.ah.aN;go_wp2;go_ret;exact ⟨by rw [← HE.ah];rfl,HB⟩
theorem Vf (n:Nat) (h:n<126):eP n=some [n]:=by unfold eP;rw [if_neg (by omega),if_pos h]
theorem Vg (n:Nat) (h:¬ n<126) (h2:n≤65535):eP n=some (126 :: be n 2):=by unfold eP;rw [if_neg (by omega),if_neg h,if_pos h2]
theorem RP (n:Nat) (h2:¬ n≤65535) (h3:n≤9223372036854775807):eP n=some (127 :: be n 8):=by unfold eP;rw [if_neg (by omega),if_neg (by omega),if_neg h2]
theorem J4 (n:Nat) (s:List Nat) (w:World) (hs:eP n=some s) (h:n≤9223372036854775807):Calls prog 134 #[.int .u64 n] w fun e w'=>e=.returned (.tuple #[.string (aF s),.bool true])∧Sl (Below w.heap.size w w'):=by
 have hq:((n:Int)>9223372036854775807)=False:=dR (by omega);have oA:Sl (Below w.heap.size w w):=⟨dW _ _⟩;by_cases h1:n<126
 ·obtain rfl:s=[n]:=QF (hs.symm.trans (Vf n h1))
  have e3:IntKind.u8.wrap (n:Int)=(n:Int):=by rw [IntKind.wrap_u8'];omega
  have eQ:=(gu w [n]).JW (k:=1) rfl;have e0:(dZ [n]).toArray=#[.int .u8 (n:Int)]:=rfl;rw [e0] at eQ;have p9:Sl (Below w.heap.size w (w.alloc (.cells #[.int .u8 (n:Int)] 5))):=⟨oA.ah.alloc oA.ah.size _⟩;clear h hs;go_enter func134,ntmps134;go_wp2;go_ret2;exact ⟨rfl,p9⟩
 ·have nf:((n:Int)<126)=False:=dR (by omega)
  by_cases h2:n≤65535
  ·obtain rfl:s=126 :: be n 2:=QF (hs.symm.trans (Vg n h1 h2))
   have HC:=Bz n 2 w (by omega) (by omega);have HE:=Sl.mk (Bv 126 (be n 2) (by decide) (vW n 2));have HZ:Sl ((aF (be n 2)).size=2):=⟨by rw [cZ,bW]⟩;have mw:((n:Int)≤65535)=True:=eq_true (by omega);clear h hs h1;go_enter func134,ntmps134;go_wp2_with fail
   refine HC.mono ?_;rintro e w1 ⟨rfl,bi⟩;generalize aF (be n 2)=t at *;go_wp2
   ·have:=HZ.ah;omega
   go_ret2;exact ⟨by rw [← HE.ah];rfl,bi⟩
  ·obtain rfl:s=127 :: be n 8:=QF (hs.symm.trans (RP n h2 h))
   have HC:=Bz n 8 w (by omega) (by omega);have HE:=Sl.mk (Bv 127 (be n 8) (by decide) (vW n 8));have HZ:Sl ((aF (be n 8)).size=8):=⟨by rw [cZ,bW]⟩;have mw:((n:Int)≤65535)=False:=dR (by omega);clear h hs h1;go_enter func134,ntmps134;go_wp2_with fail
   refine HC.mono ?_;rintro e w1 ⟨rfl,bi⟩;generalize aF (be n 8)=t at *;go_wp2
   ·have:=HZ.ah;omega
   go_ret2;exact ⟨by rw [← HE.ah];rfl,bi⟩
open Go.RowKit aO
theorem On (h:fx.tmod 4=r) (h0:¬ r<0):((kX fx:Nat):Int)=r:=by
 subst h;unfold kX;by_cases hp:0≤fx
 ·rw [Fq hp];omega
 ·obtain ⟨m,rfl⟩:∃ m,fx = -m:=⟨-fx,by omega⟩
  rw [Int.neg_tmod,Fq (by omega)] at h0 ⊢;omega
theorem Ep (h:fx.tmod 4=r) (h0:r<0):((kX fx:Nat):Int)=r+4∧-4<r:=by
 subst h;unfold kX;by_cases hp:0≤fx
 ·rw [Fq hp] at h0;omega
 ·obtain ⟨m,rfl⟩:∃ m,fx = -m:=⟨-fx,by omega⟩
  rw [Int.neg_tmod,Fq (by omega)] at h0 ⊢;omega
theorem lM (key:List Nat) (fx:Int) (s:ByteArray) (w:World) (hk:key.length=4) (ez:aU 256 key) (hs:s.size≤100000) :
 Calls prog 126 #[.agg (dZ key).toArray,.int .i64 fx,.string s] w fun e w'=>e=.returned (.string (aF (fC key (kX fx) (bytes s))))∧Sl (Below w.heap.size w w'):=by
 have HKL:=Sl.mk hk;have im:=Sl.mk ez;obtain ⟨r,hr⟩:=zX (fx.tmod 4);have HW1:Sl (Below w.heap.size w (w.alloc (.cells (dZ key).toArray 59))∧(w.alloc (.cells (dZ key).toArray 59)).heap[w.heap.size]? = some (.cells (dZ key).toArray 59 (0,0))):=⟨(dW _ _).alloc (aY _) _,aI _ _ _ rfl⟩;have hK4:=H6 fx;clear hk ez;by_cases hneg:r<0
 ·have pt:=(Ep hr hneg).1
  have Vi:=(Ep hr hneg).2;obtain ⟨K,hK⟩:=zX (kX fx);rw [hK] at pt hK4 ⊢;clear hK;have ajB:r+4=(K:Int):=pt.symm;clear pt;go_enter func126,ntmps126;go_wp2;go_loopw [8,9] (fun t i wr=>∃ (k:Nat) (o:ByteArray),k≤s.size∧i=.int .i64 k∧t=.string o∧Sl (bytes o=fC key K ((bytes s).take k))∧Sl (Below w.heap.size w wr∧wr.heap[w.heap.size]? = some (.cells (dZ key).toArray 59 (0,0)))) (fun _ i _=>s.size-(intOf i).toNat)
  case atStart=>exact ⟨0,ByteArray.empty,ku _,rfl,rfl,⟨rfl⟩,HW1⟩
  case round =>
   obtain ⟨k,o,hk,rfl,rfl,HO,HW⟩:=hrel;by_cases bz:k<s.size
   ·have hx:(s[k]'bz).toNat=(bytes s).getD k 0:=by rw [dL s k bz];rfl
    obtain ⟨x,uu⟩:=zX ((bytes s).getD k 0);have dv:Sl (x<256):=⟨by rw [← uu];exact (aJ s).getD (by omega) k⟩;obtain ⟨j,hj⟩:=zX ((K+k) % 4);have YA:j<4:=by omega
    have q1:((K:Int)+(k:Int)) % 4=(j:Int):=by omega
    have q2:((K:Int)+(k:Int)).tmod 4=(j:Int):=by rw [Fq (by omega)];omega
    have q3:IntKind.i64.wrap ((K:Int)+(k:Int))=(K:Int)+(k:Int):=by rw [lZ];omega
    obtain ⟨y,wA⟩:=zX (key.getD j 0);have hy:=Sl.mk wA;have Ng:=u8_xor_nat x y dv.ah (by rw [← wA];exact im.ah.getD (by omega) j);obtain ⟨z,zw⟩:=zX (x ^^^ y);have sw:z<256:=by
     rw [← zw];exact Nat.xor_lt_two_pow (n:=8) dv.ah (by rw [← wA];exact im.ah.getD (by omega) j)
    have eR:Sl (bytes (o++aF [z])=fC key K ((bytes s).take (k+1))):=⟨by rw [iK,HO.ah,tu z sw,yE key K _ k (by rw [au];exact bz),uu,hj,wA,zw]⟩;have HZZ:Sl (o.size+(aF [z]).size≤100001):=⟨by
     have h1:=lG List.length HO.ah;rw [au,fV,kQ,au] at h1;rw [cZ,h1];simp;omega⟩
    rw [uu] at hx;rw [zw] at Ng;have ux:(0:Int)≤(k:Int):=by omega
    have dC:(k:Int)<(s.size:Int):=by omega
    have hj0:(0:Int)≤(j:Int):=by omega
    have hj1:(j:Int)<4:=by omega
    clear hj uu wA zw sw;go_upto_region 8 with fail
    obtain ⟨R,hR⟩:=zX wr.drew;have al:Below w.heap.size w R∧R.heap[w.heap.size]? = some (.cells (dZ key).toArray 59 (0,0)):=⟨by rw [← hR];exact HW.ah.1.drew,by rw [← hR];exact HW.ah.2⟩;refine Ai ?_;refine Ah (S:=fun V=>Below w.heap.size w V∧V.heap[w.heap.size]? = some (.cells (dZ key).toArray 59 (0,0))) (by kernel_rfl) ?_;change wpAnyH _ _ _ _ _ _ _ _ wr.drew;rw [hR];clear hR;refine zT 0 (some 22) (.move (.tmp 8)) _ al ?_;simp only [zA,zB,zS];refine zT 1 (some 23) (.move (.tmp 2)) _ al ?_;simp only [zA,zB,zS];refine zT 2 (some 24) (.move (.tmp 9)) _ al ?_;simp only [zA,zB,zS];refine zT 3 (some 25) (.index 9 (.tmp 23) (.tmp 24)) _ al ?_;simp only [zA,zB,zS];refine zT 4 (some 26) (.move (.tmp 7)) _ al ?_;simp only [zA,zB,zS];refine zT 5 (some 27) (.move (.tmp 9)) _ al ?_;simp only [zA,zB,zS];refine zT 6 (some 28) (.binOp .add 3 (.tmp 26) (.tmp 27) 3) _ al ?_;simp only [zA,zB,zS];refine zT 7 (some 29) (.binOp .rem 3 (.tmp 28) (.const (.int .i64 4)) 3) _ al ?_;simp only [zA,zB,zS];refine zT 8 (some 30) (.indexAddr 59 (.tmp 3) (.tmp 29)) _ al ?_;simp only [zA,zB,zS];refine zT 9 (some 31) (.load 5 (.tmp 30)) _ al ?_ (hy:=fun o' ho W hS=>by have cW:=Me hS.2 YA HKL.ah hy.ah;simp only [execOp,ho];go_simp;try rfl);simp only [zA,zB,zS];refine zT 10 (some 32) (.binOp .xor 5 (.tmp 25) (.tmp 31) 5) _ al ?_;simp only [zA,zB,zS];obtain ⟨X,hX⟩:=zX (R.alloc (.cells #[.int .u8 (z:Int)] 5));have Ga:Sl (Below R.heap.size R X):=⟨by rw [← hX];exact (dW _ _).alloc (aY _) _⟩;have cC:Below w.heap.size w X∧X.heap[w.heap.size]? = some (.cells (dZ key).toArray 59 (0,0)):=⟨al.1.trans (Ga.ah.mono al.1.size),by rw [Ga.ah.block _ (zl al.2)];exact al.2⟩;have eQ:(convert 49 9 (.slice (some ⟨R.heap.size,0,none⟩) 1 1)).run prog X=.ok (.string (aF [z])) X:=by
     have:=(gu R [z]).JW (k:=1) rfl;have e0:(dZ [z]).toArray=#[.int .u8 (z:Int)]:=rfl;rwa [e0,hX] at this
    refine zR 11 (some 33) (.buildSlice 49 1 #[(0,.tmp 32)]) 49 (.slice (some ⟨R.heap.size,0,none⟩) 1 1) X cC ?_ (hy:=fun o' ho _=>by simp only [execOp,ho];go_simp;first | done | rw [hX] | rfl);simp only [zA,zB,zS];refine zR 12 (some 34) (.convert 49 9 (.tmp 33)) 9 (.string (aF [z])) X cC ?_ (hy:=fun o' ho _=>by simp only [execOp,ho];go_simp;try rfl);simp only [zA,zB,zS];refine zR 13 (some 35) (.binOp .add 9 (.tmp 22) (.tmp 34) 9) 9 (.string (o++aF [z])) X cC ?_ (hy:=fun o' ho _=>by simp only [execOp,ho];go_simp;first | done | (have:=HZZ.ah;omega) | rfl);simp only [zA,zB,zS];refine zT 14 (some 8) (.assign (.tmp 35)) _ cC ?_;simp only [zA,zB,zS];refine zE (by kernel_rfl) ?_;go_wp2;exact ⟨⟨k+1,_,by omega,by go_num,rfl,eR,⟨cC⟩⟩,by simp [intOf]<;>omega⟩
   ·have eg:((k:Int)<(s.size:Int))=False:=dR (by omega)
    obtain rfl:k=s.size:=by omega
    have HE:Sl (o=aF (fC key K (bytes s))):=⟨by
     have h1:=HO.ah;rw [nC (by rw [au];exact aY _)] at h1;rw [← h1,bT]⟩
    have io:Sl (Below w.heap.size w wr):=⟨HW.ah.1⟩;go_wp2;go_ret;exact ⟨by rw [← HE.ah];rfl,io⟩
 ·have pt:=On hr hneg
  obtain ⟨K,hK⟩:=zX (kX fx);rw [hK] at pt hK4 ⊢;clear hK;have ahh:(r<0)=False:=dR hneg;subst pt;go_enter func126,ntmps126;go_wp2;go_loopw [8,9] (fun t i wr=>∃ (k:Nat) (o:ByteArray),k≤s.size∧i=.int .i64 k∧t=.string o∧Sl (bytes o=fC key K ((bytes s).take k))∧Sl (Below w.heap.size w wr∧wr.heap[w.heap.size]? = some (.cells (dZ key).toArray 59 (0,0)))) (fun _ i _=>s.size-(intOf i).toNat)
  case atStart=>exact ⟨0,ByteArray.empty,ku _,rfl,rfl,⟨rfl⟩,HW1⟩
  case round =>
   obtain ⟨k,o,hk,rfl,rfl,HO,HW⟩:=hrel;by_cases bz:k<s.size
   ·have hx:(s[k]'bz).toNat=(bytes s).getD k 0:=by rw [dL s k bz];rfl
    obtain ⟨x,uu⟩:=zX ((bytes s).getD k 0);have dv:Sl (x<256):=⟨by rw [← uu];exact (aJ s).getD (by omega) k⟩;obtain ⟨j,hj⟩:=zX ((K+k) % 4);have YA:j<4:=by omega
    have q1:((K:Int)+(k:Int)) % 4=(j:Int):=by omega
    have q2:((K:Int)+(k:Int)).tmod 4=(j:Int):=by rw [Fq (by omega)];omega
    have q3:IntKind.i64.wrap ((K:Int)+(k:Int))=(K:Int)+(k:Int):=by rw [lZ];omega
    obtain ⟨y,wA⟩:=zX (key.getD j 0);have hy:=Sl.mk wA;have Ng:=u8_xor_nat x y dv.ah (by rw [← wA];exact im.ah.getD (by omega) j);obtain ⟨z,zw⟩:=zX (x ^^^ y);have sw:z<256:=by
     rw [← zw];exact Nat.xor_lt_two_pow (n:=8) dv.ah (by rw [← wA];exact im.ah.getD (by omega) j)
    have eR:Sl (bytes (o++aF [z])=fC key K ((bytes s).take (k+1))):=⟨by rw [iK,HO.ah,tu z sw,yE key K _ k (by rw [au];exact bz),uu,hj,wA,zw]⟩;have HZZ:Sl (o.size+(aF [z]).size≤100001):=⟨by
     have h1:=lG List.length HO.ah;rw [au,fV,kQ,au] at h1;rw [cZ,h1];simp;omega⟩
    rw [uu] at hx;rw [zw] at Ng;have ux:(0:Int)≤(k:Int):=by omega
    have dC:(k:Int)<(s.size:Int):=by omega
    have hj0:(0:Int)≤(j:Int):=by omega
    have hj1:(j:Int)<4:=by omega
    clear hj uu wA zw sw;go_upto_region 8 with fail
    obtain ⟨R,hR⟩:=zX wr.drew;have al:Below w.heap.size w R∧R.heap[w.heap.size]? = some (.cells (dZ key).toArray 59 (0,0)):=⟨by rw [← hR];exact HW.ah.1.drew,by rw [← hR];exact HW.ah.2⟩;refine Ai ?_;refine Ah (S:=fun V=>Below w.heap.size w V∧V.heap[w.heap.size]? = some (.cells (dZ key).toArray 59 (0,0))) (by kernel_rfl) ?_;change wpAnyH _ _ _ _ _ _ _ _ wr.drew;rw [hR];clear hR;refine zT 0 (some 22) (.move (.tmp 8)) _ al ?_;simp only [zA,zB,zS];refine zT 1 (some 23) (.move (.tmp 2)) _ al ?_;simp only [zA,zB,zS];refine zT 2 (some 24) (.move (.tmp 9)) _ al ?_;simp only [zA,zB,zS];refine zT 3 (some 25) (.index 9 (.tmp 23) (.tmp 24)) _ al ?_;simp only [zA,zB,zS];refine zT 4 (some 26) (.move (.tmp 7)) _ al ?_;simp only [zA,zB,zS];refine zT 5 (some 27) (.move (.tmp 9)) _ al ?_;simp only [zA,zB,zS];refine zT 6 (some 28) (.binOp .add 3 (.tmp 26) (.tmp 27) 3) _ al ?_;simp only [zA,zB,zS];refine zT 7 (some 29) (.binOp .rem 3 (.tmp 28) (.const (.int .i64 4)) 3) _ al ?_;simp only [zA,zB,zS];refine zT 8 (some 30) (.indexAddr 59 (.tmp 3) (.tmp 29)) _ al ?_;simp only [zA,zB,zS];refine zT 9 (some 31) (.load 5 (.tmp 30)) _ al ?_ (hy:=fun o' ho W hS=>by have cW:=Me hS.2 YA HKL.ah hy.ah;simp only [execOp,ho];go_simp;try rfl);simp only [zA,zB,zS];refine zT 10 (some 32) (.binOp .xor 5 (.tmp 25) (.tmp 31) 5) _ al ?_;simp only [zA,zB,zS];obtain ⟨X,hX⟩:=zX (R.alloc (.cells #[.int .u8 (z:Int)] 5));have Ga:Sl (Below R.heap.size R X):=⟨by rw [← hX];exact (dW _ _).alloc (aY _) _⟩;have cC:Below w.heap.size w X∧X.heap[w.heap.size]? = some (.cells (dZ key).toArray 59 (0,0)):=⟨al.1.trans (Ga.ah.mono al.1.size),by rw [Ga.ah.block _ (zl al.2)];exact al.2⟩;have eQ:(convert 49 9 (.slice (some ⟨R.heap.size,0,none⟩) 1 1)).run prog X=.ok (.string (aF [z])) X:=by
     have:=(gu R [z]).JW (k:=1) rfl;have e0:(dZ [z]).toArray=#[.int .u8 (z:Int)]:=rfl;rwa [e0,hX] at this
    refine zR 11 (some 33) (.buildSlice 49 1 #[(0,.tmp 32)]) 49 (.slice (some ⟨R.heap.size,0,none⟩) 1 1) X cC ?_ (hy:=fun o' ho _=>by simp only [execOp,ho];go_simp;first | done | rw [hX] | rfl);simp only [zA,zB,zS];refine zR 12 (some 34) (.convert 49 9 (.tmp 33)) 9 (.string (aF [z])) X cC ?_ (hy:=fun o' ho _=>by simp only [execOp,ho];go_simp;try rfl);simp only [zA,zB,zS];refine zR 13 (some 35) (.binOp .add 9 (.tmp 22) (.tmp 34) 9) 9 (.string (o++aF [z])) X cC ?_ (hy:=fun o' ho _=>by simp only [execOp,ho];go_simp;first | done | (have:=HZZ.ah;omega) | rfl);simp only [zA,zB,zS];refine zT 14 (some 8) (.assign (.tmp 35)) _ cC ?_;simp only [zA,zB,zS];refine zE (by kernel_rfl) ?_;go_wp2;exact ⟨⟨k+1,_,by omega,by go_num,rfl,eR,⟨cC⟩⟩,by simp [intOf]<;>omega⟩
   ·have eg:((k:Int)<(s.size:Int))=False:=dR (by omega)
    obtain rfl:k=s.size:=by omega
    have HE:Sl (o=aF (fC key K (bytes s))):=⟨by
     have h1:=HO.ah;rw [nC (by rw [au];exact aY _)] at h1;rw [← h1,bT]⟩
    have io:Sl (Below w.heap.size w wr):=⟨HW.ah.1⟩;go_wp2;go_ret;exact ⟨by rw [← HE.ah];rfl,io⟩
open Go.RowKit aO
theorem Oo (key:List Nat) (fx:Int) (v:Value) (bs:List Nat) (n:Nat) (w:World) (hk:key.length=4) (ez:aU 256 key) (hv:bJ w v bs) (bB:aU 256 bs) (hm:n≤100000) (hn:bs.length=n) :
 Calls prog 170 #[.agg (dZ key).toArray,.int .i64 fx,v] w fun e w'=>∃ g,e=.returned (.slice (some ⟨g,0,none⟩) n n)∧Sl (fA w' g (fC key (kX fx) bs))∧Sl (Below w.heap.size w w'):=by
 subst hn;exact (Om key fx v bs w hk ez hv bB hm).mono fun _ _ ⟨g,he,_,hr,hb⟩=>⟨g,he,hr,hb⟩
open Go.RowKit aO
end
end Go.Proofs.YtlahonjmfecikaaGreatDoor.jF
