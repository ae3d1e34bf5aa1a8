/- The texts below, joined. -/
set_option maxRecDepth 100000
set_option linter.unusedVariables false
set_option linter.unusedSimpArgs false
namespace UtfPlain
abbrev St:=Nat×Nat×Nat
def s0:St:=(0,128,191)
def lead (b:Nat):Option St :=
 if b<128 then some s0 else if b<194 then none else if b<224 then some (1,128,191)
 else if b=224 then some (2,160,191) else if b=237 then some (2,128,159) else if b<240 then some (2,128,191)
 else if b=240 then some (3,144,191) else if b<244 then some (3,128,191) else if b=244 then some (3,128,143) else none
def ustep (s:St) (b:Nat):Option St:=if s.1=0 then lead b else if s.2.1≤b∧b≤s.2.2 then some (s.1-1,128,191) else none
def uright (s:St):List Nat→Nat
 | []=>0
 | b :: r=>match ustep s b with
   | none=>0
   | some t=>uright t r+1
def uend (s:St):List Nat→Option St
 | []=>some s
 | b :: r=>match ustep s b with
   | none=>none
   | some t=>uend t r
def ucount (s:St):List Nat→Nat
 | []=>0
 | b :: r=>match ustep s b with
   | none=>0
   | some t=>ucount t r+if t.1=0 then 1 else 0
theorem uend_append (l m:List Nat) (s:St):uend s (l++m)=(uend s l).bind fun t=>uend t m:=by
 induction l generalizing s with
 | nil=>rfl
 | cons b r ih =>
   simp only [List.cons_append,uend]
   cases ustep s b with
   | none=>rfl
   | some t=>exact ih t
theorem uright_append (l m:List Nat) (s:St):uright s (l++m)=match uend s l with | none=>uright s l | some t=>l.length+uright t m:=by
 induction l generalizing s with
 | nil=>simp [uend]
 | cons b r ih =>
   simp only [List.cons_append,uend,uright]
   cases ustep s b with
   | none=>rfl
   | some t =>
     simp only [ih t]
     cases uend t r with
     | none=>rfl
     | some u=>simp only [List.length_cons];omega
theorem uright_le (l:List Nat) (s:St):uright s l≤l.length:=by
 induction l generalizing s with
 | nil=>exact Nat.le_refl _
 | cons b r ih =>
   simp only [uright]
   cases ustep s b with
   | none=>exact Nat.zero_le _
   | some t=>simp only [List.length_cons];have:=ih t;omega
theorem uend_iff (l:List Nat) (s:St):(uend s l).isSome=true↔uright s l=l.length:=by
 induction l generalizing s with
 | nil=>simp [uend,uright]
 | cons b r ih =>
   simp only [uright,uend]
   cases ustep s b with
   | none=>simp
   | some t=>simp only [List.length_cons];rw [ih t];omega
def Ok (s:St):Prop:=s=s0∨s=(1,128,191)∨s=(2,128,191)∨s=(2,160,191)∨s=(2,128,159)∨s=(3,128,191)∨s=(3,144,191)∨s=(3,128,143)
theorem lead_ok {b:Nat} {t:St} (h:lead b=some t):Ok t:=by
 unfold lead at h
 repeat' split at h
 all_goals first | (injection h with h;subst h;unfold Ok s0;simp) | cases h
theorem ustep_ok {s t:St} {b:Nat} (hs:Ok s) (h:ustep s b=some t):Ok t:=by
 unfold ustep at h
 split at h
 ·exact lead_ok h
 ·split at h
  ·injection h with h
   subst h
   rcases hs with rfl | rfl | rfl | rfl | rfl | rfl | rfl | rfl<;>simp [Ok,s0]
  ·cases h
def putL (n:Int):Option (List Nat) :=
 if n<0∨n>1114111∨(55296≤n∧n≤57343) then none
 else if n<128 then some [n.toNat]
 else if n<2048 then some [192+n.toNat / 64,128+n.toNat % 64]
 else if n<65536 then some [224+n.toNat / 4096,128+n.toNat / 64 % 64,128+n.toNat % 64]
 else some [240+n.toNat / 262144,128+n.toNat / 4096 % 64,128+n.toNat / 64 % 64,128+n.toNat % 64]
def long (b:Nat):Nat:=if b<128 then 1 else if 192≤b∧b<224 then 2 else if 224≤b∧b<240 then 3 else if 240≤b∧b<248 then 4 else 0
theorem lead1 {b:Nat} (h:b<128):lead b=some s0:=by unfold lead;rw [if_pos h]
theorem lead2 {b:Nat} (h1:194≤b) (h2:b<224):lead b=some (1,128,191):=by
 unfold lead;rw [if_neg (by omega),if_neg (by omega),if_pos h2]
theorem lead2n {b:Nat} (h1:128≤b) (h2:b<194):lead b=none:=by
 unfold lead;rw [if_neg (by omega),if_pos h2]
def lo3 (b:Nat):Nat:=if b=224 then 160 else 128
def hi3 (b:Nat):Nat:=if b=237 then 159 else 191
theorem lead3 {b:Nat} (h1:224≤b) (h2:b<240):lead b=some (2,lo3 b,hi3 b):=by
 unfold lead lo3 hi3
 rw [if_neg (by omega),if_neg (by omega),if_neg (by omega)]
 by_cases e:b=224
 ·rw [if_pos e,if_pos e,if_neg (by omega)]
 ·rw [if_neg e,if_neg e]
  by_cases f:b=237
  ·rw [if_pos f,if_pos f]
  ·rw [if_neg f,if_neg f,if_pos h2]
def lo4 (b:Nat):Nat:=if b=240 then 144 else 128
def hi4 (b:Nat):Nat:=if b=244 then 143 else 191
theorem lead4 {b:Nat} (h1:240≤b) (h2:b<245):lead b=some (3,lo4 b,hi4 b):=by
 unfold lead lo4 hi4
 rw [if_neg (by omega),if_neg (by omega),if_neg (by omega),if_neg (by omega),if_neg (by omega),if_neg (by omega)]
 by_cases e:b=240
 ·rw [if_pos e,if_pos e,if_neg (by omega)]
 ·rw [if_neg e,if_neg e]
  by_cases f:b=244
  ·rw [if_neg (by omega),if_pos f,if_pos f]
  ·rw [if_pos (by omega),if_neg f]
theorem lead5 {b:Nat} (h1:245≤b):lead b=none:=by
 unfold lead
 rw [if_neg (by omega),if_neg (by omega),if_neg (by omega),if_neg (by omega),if_neg (by omega),if_neg (by omega),if_neg (by omega),if_neg (by omega),if_neg (by omega)]
theorem put1 (n:Nat) (h:n<128):putL n=some [n]:=by
 unfold putL;rw [if_neg (by omega),if_pos (by omega)];simp
theorem put2 (n:Nat) (h1:128≤n) (h2:n<2048):putL n=some [192+n / 64,128+n % 64]:=by
 unfold putL;rw [if_neg (by omega),if_neg (by omega),if_pos (by omega)];simp
theorem put3 (n:Nat) (h1:2048≤n) (h2:n<65536) (h3:n<55296∨57343<n):putL n=some [224+n / 4096,128+n / 64 % 64,128+n % 64]:=by
 unfold putL;rw [if_neg (by omega),if_neg (by omega),if_neg (by omega),if_pos (by omega)];simp
theorem put4 (n:Nat) (h1:65536≤n) (h2:n≤1114111):putL n=some [240+n / 262144,128+n / 4096 % 64,128+n / 64 % 64,128+n % 64]:=by
 unfold putL;rw [if_neg (by omega),if_neg (by omega),if_neg (by omega),if_neg (by omega)];simp
theorem put_none (n:Nat) (h:1114111<n∨(55296≤n∧n≤57343)):putL n=none:=by
 unfold putL;rw [if_pos (by omega)]
theorem w2 (b c:Nat) (h1:192≤b) (h2:b<224):putL ((64*(b % 32)+c % 64:Nat):Int)=some [b,c]↔194≤b∧128≤c∧c≤191:=by
 by_cases h:64*(b % 32)+c % 64<128
 ·rw [put1 _ h];simp;omega
 ·rw [put2 _ (by omega) (by omega)]
  simp only [Option.some.injEq,List.cons.injEq,and_true]
  omega
theorem lo3_cases (b:Nat):(b=224∧lo3 b=160)∨(b≠224∧lo3 b=128):=by unfold lo3;split<;>simp_all
theorem hi3_cases (b:Nat):(b=237∧hi3 b=159)∨(b≠237∧hi3 b=191):=by unfold hi3;split<;>simp_all
theorem lo4_cases (b:Nat):(b=240∧lo4 b=144)∨(b≠240∧lo4 b=128):=by unfold lo4;split<;>simp_all
theorem hi4_cases (b:Nat):(b=244∧hi4 b=143)∨(b≠244∧hi4 b=191):=by unfold hi4;split<;>simp_all
theorem w3 (b c d:Nat) (h1:224≤b) (h2:b<240):putL ((64*(64*(b % 16)+c % 64)+d % 64:Nat):Int)=some [b,c,d]↔(lo3 b≤c∧c≤hi3 b)∧128≤d∧d≤191:=by
 have hL:=lo3_cases b
 have hH:=hi3_cases b
 generalize lo3 b=L at *
 generalize hi3 b=H at *
 generalize hv:64*(64*(b % 16)+c % 64)+d % 64=v
 by_cases k1:v<128
 ·rw [put1 _ k1];exact ⟨fun h=>by simp at h,fun h=>by exfalso;omega⟩
 ·by_cases k2:v<2048
  ·rw [put2 _ (by omega) k2];exact ⟨fun h=>by simp at h,fun h=>by exfalso;omega⟩
  ·by_cases k3:55296≤v∧v≤57343
   ·rw [put_none _ (.inr k3)];exact ⟨fun h=>by simp at h,fun h=>by exfalso;omega⟩
   ·rw [put3 _ (by omega) (by omega) (by omega)]
    simp only [Option.some.injEq,List.cons.injEq,and_true]
    omega
theorem w4 (b c d e:Nat) (h1:240≤b) (h2:b<248):putL ((64*(64*(64*(b % 8)+c % 64)+d % 64)+e % 64:Nat):Int)=some [b,c,d,e]↔b<245∧(lo4 b≤c∧c≤hi4 b)∧(128≤d∧d≤191)∧128≤e∧e≤191:=by
 have hL:=lo4_cases b
 have hH:=hi4_cases b
 generalize lo4 b=L at *
 generalize hi4 b=H at *
 generalize hv:64*(64*(64*(b % 8)+c % 64)+d % 64)+e % 64=v
 by_cases k1:v<128
 ·rw [put1 _ k1];exact ⟨fun h=>by simp at h,fun h=>by exfalso;omega⟩
 ·by_cases k2:v<2048
  ·rw [put2 _ (by omega) k2];exact ⟨fun h=>by simp at h,fun h=>by exfalso;omega⟩
  ·by_cases k3:55296≤v∧v≤57343
   ·rw [put_none _ (.inr k3)];exact ⟨fun h=>by simp at h,fun h=>by exfalso;omega⟩
   ·by_cases k4:v<65536
    ·rw [put3 _ (by omega) (by omega) (by omega)];exact ⟨fun h=>by simp at h,fun h=>by exfalso;omega⟩
    ·by_cases k5:1114111<v
     ·rw [put_none _ (.inl k5)];exact ⟨fun h=>by simp at h,fun h=>by exfalso;omega⟩
     ·rw [put4 _ (by omega) (by omega)]
      simp only [Option.some.injEq,List.cons.injEq,and_true]
      omega
def lm (v:Nat) (s:List Nat):Nat→Nat×Nat
 | 0=>(v,v)
 | 1=>(v,v)
 | i+2=>(64*(lm v s (i+1)).1+(if i+1<s.length then s.getD (i+1) 0-128 else 0),64*(lm v s (i+1)).2+(if i+1<s.length then s.getD (i+1) 0-128 else 63))
def modOf (n:Nat):Nat:=match n with | 1=>256 | 2=>32 | 3=>16 | _=>8
def fromOf (n:Nat):Nat:=match n with | 2=>128 | 3=>2048 | 4=>65536 | _=>0
def toOf (n:Nat):Nat:=match n with | 1=>127 | 2=>2047 | 3=>65535 | 4=>1114111 | _=>0
def fits (n:Nat) (p:Nat×Nat):Bool:=decide (max p.1 (fromOf n)≤min p.2 (toOf n))&&!(decide (55296≤max p.1 (fromOf n))&&decide (min p.2 (toOf n)≤57343))
def beg (s:List Nat):Bool :=
 let n:=long (s.headD 0)
 if n≤s.length then false else if s.tail.all (fun c=>decide (128≤c∧c≤191)) then fits n (lm (s.headD 0 % modOf n) s n) else false
theorem long2 {b:Nat} (h1:192≤b) (h2:b<224):long b=2:=by unfold long;rw [if_neg (by omega),if_pos (by omega)]
theorem fits_iff (n:Nat) (l m:Nat):fits n (l,m)=true↔(l≤m∧fromOf n≤m∧l≤toOf n∧fromOf n≤toOf n)∧¬ (55296≤max l (fromOf n)∧min m (toOf n)≤57343):=by
 unfold fits
 simp only [Bool.and_eq_true,decide_eq_true_eq,Bool.not_eq_true',Bool.and_eq_false_iff,decide_eq_false_iff_not]
 omega
theorem b2 (b:Nat) (h1:192≤b) (h2:b<224):beg [b]=true↔194≤b:=by
 unfold beg
 simp only [List.headD_cons,long2 h1 h2]
 rw [if_neg (by simp),if_pos (by simp)]
 show fits 2 (64*(b % 32)+0,64*(b % 32)+63)=true↔_
 rw [fits_iff]
 simp only [fromOf,toOf]
 omega
end UtfPlain
namespace MaskPlain
def turn (key:List Nat):Nat→List Nat→List Nat
 | _,[]=>[]
 | k,x :: xs=>(x ^^^ key.getD (k % 4) 0) :: turn key (k+1) xs
theorem turn_length (key:List Nat) (k:Nat) (a:List Nat):(turn key k a).length=a.length:=by
 induction a generalizing k with
 | nil=>rfl
 | cons x xs ih=>simp [turn,ih]
theorem turn_append (key:List Nat) (k:Nat) (a b:List Nat):turn key k (a++b)=turn key k a++turn key (k+a.length) b:=by
 induction a generalizing k with
 | nil=>rfl
 | cons x xs ih =>
   rw [List.cons_append,turn,turn,List.cons_append,ih,List.length_cons,show k+1+xs.length=k+(xs.length+1) by omega]
theorem turn_twice (key:List Nat) (k:Nat) (a:List Nat):turn key k (turn key k a)=a:=by
 induction a generalizing k with
 | nil=>rfl
 | cons x xs ih=>rw [turn,turn,ih,Nat.xor_assoc,Nat.xor_self,Nat.xor_zero]
theorem turn_zero {z:List Nat} (h:∀ i,i<4→z.getD i 0=0) (k:Nat) (s:List Nat):turn z k s=s:=by
 induction s generalizing k with
 | nil=>rfl
 | cons x xs ih=>rw [turn,ih,h _ (Nat.mod_lt _ (by omega)),Nat.xor_zero]
theorem turn_lt (key:List Nat) (k:Nat) (a:List Nat) (ha:∀ x∈a,x<256) (hk:∀ i,key.getD i 0<256):∀ x∈turn key k a,x<256:=by
 induction a generalizing k with
 | nil=>intro x hx;cases hx
 | cons y ys ih =>
   intro x hx
   rw [turn] at hx
   rcases List.mem_cons.1 hx with rfl | hx
   ·exact Nat.xor_lt_two_pow (n:=8) (ha y (List.mem_cons_self ..)) (hk _)
   ·exact ih (k+1) (fun z hz=>ha z (List.mem_cons_of_mem _ hz)) x hx
theorem turn_take (key:List Nat) (k:Nat) (a:List Nat) (i:Nat) (hi:i<a.length):turn key k (a.take (i+1))=turn key k (a.take i)++[a.getD i 0 ^^^ key.getD ((k+i) % 4) 0]:=by
 have e:a.take (i+1)=a.take i++[a.getD i 0]:=by
  rw [List.take_add_one,List.getD_eq_getElem?_getD,List.getElem?_eq_getElem hi];rfl
 rw [e,turn_append,List.length_take,Nat.min_eq_left (by omega)]
 rfl
def be (n:Nat):Nat→List Nat
 | 0=>[]
 | s+1=>be (n / 256) s++[n % 256]
theorem be_length (n s:Nat):(be n s).length=s:=by
 induction s generalizing n with
 | zero=>rfl
 | succ s ih=>simp [be,ih]
theorem be_small (n s:Nat):∀ x∈be n s,x<256:=by
 induction s generalizing n with
 | zero=>intro x hx;cases hx
 | succ s ih =>
   intro x hx
   rcases List.mem_append.1 hx with hx | hx
   ·exact ih _ x hx
   ·simp at hx;omega
def val (bs:List Nat):Nat:=bs.foldl (fun a c=>256*a+c) 0
theorem val_snoc (bs:List Nat) (c:Nat):val (bs++[c])=256*val bs+c:=by simp [val]
theorem val_be (n s:Nat) (h:n<256 ^ s):val (be n s)=n:=by
 induction s generalizing n with
 | zero=>simp at h;subst h;rfl
 | succ s ih =>
   rw [be,val_snoc,ih _ (by rw [Nat.pow_succ] at h;omega)]
   omega
theorem val_lt (bs:List Nat) (h:∀ x∈bs,x<256):val bs<256 ^ bs.length:=by
 have key:∀ (r:List Nat),(∀ x∈r,x<256)→val r.reverse<256 ^ r.length:=by
  intro r
  induction r with
  | nil=>intro _;decide
  | cons x xs ih =>
    intro hx
    have h1:=ih (fun y hy=>hx y (List.mem_cons_of_mem _ hy))
    have h2:=hx x (List.mem_cons_self ..)
    rw [List.reverse_cons,val_snoc,List.length_cons,Nat.pow_succ]
    omega
 have:=key bs.reverse (fun x hx=>h x (by simpa using hx))
 simpa using this
theorem be_val (bs:List Nat) (h:∀ x∈bs,x<256):be (val bs) bs.length=bs:=by
 have key:∀ (r:List Nat),(∀ x∈r,x<256)→be (val r.reverse) r.length=r.reverse:=by
  intro r
  induction r with
  | nil=>intro _;rfl
  | cons x xs ih =>
    intro hx
    have h1:=ih (fun y hy=>hx y (List.mem_cons_of_mem _ hy))
    have h2:=hx x (List.mem_cons_self ..)
    rw [List.reverse_cons,val_snoc,List.length_cons,be,show (256*val xs.reverse+x) / 256=val xs.reverse by omega,show (256*val xs.reverse+x) % 256=x by omega,h1]
 have:=key bs.reverse (fun x hx=>h x (by simpa using hx))
 simpa using this
theorem val_take (bs:List Nat) (i:Nat) (hi:i<bs.length):val (bs.take (i+1))=256*val (bs.take i)+bs.getD i 0:=by
 rw [List.take_add_one,List.getElem?_eq_getElem hi,Option.toList_some,val_snoc,List.getD_eq_getElem?_getD,List.getElem?_eq_getElem hi]
 rfl
def putL (n:Nat):Option (List Nat) :=
 if 9223372036854775807<n then none else if n<126 then some [n] else if n≤65535 then some (126 :: be n 2) else some (127 :: be n 8)
def getL:List Nat→Nat×Nat×Nat
 | []=>(0,0,80)
 | x :: xs =>
   if x % 128<126 then (x % 128,1,0)
   else if x % 128=126 then
    (if xs.length<2 then (0,0,80) else if val (xs.take 2)<126 then (0,0,81) else (val (xs.take 2),3,0))
   else if 0<xs.length∧128≤xs.getD 0 0 then (0,0,81)
   else if 6≤xs.length∧val (xs.take 6)=0 then (0,0,81)
   else if xs.length<8 then (0,0,80) else (val (xs.take 8),9,0)
theorem be_eight (n:Nat):be n 8=[n / 256 / 256 / 256 / 256 / 256 / 256 / 256 % 256,n / 256 / 256 / 256 / 256 / 256 / 256 % 256,n / 256 / 256 / 256 / 256 / 256 % 256,n / 256 / 256 / 256 / 256 % 256,n / 256 / 256 / 256 % 256,n / 256 / 256 % 256,n / 256 % 256,n % 256]:=rfl
theorem get_put {n:Nat} {s:List Nat} (h:putL n=some s) (more:List Nat):getL (s++more)=(n,s.length,0):=by
 unfold putL at h
 by_cases h0:9223372036854775807<n
 ·rw [if_pos h0] at h;cases h
 rw [if_neg h0] at h
 by_cases h1:n<126
 ·rw [if_pos h1] at h
  injection h with h
  subst h
  show getL (n :: more)=_
  rw [getL,show n % 128=n by omega,if_pos h1]
  rfl
 rw [if_neg h1] at h
 by_cases h2:n≤65535
 ·rw [if_pos h2] at h
  injection h with h
  subst h
  have hv:val ((be n 2++more).take 2)=n:=by
   rw [List.take_append_of_le_length (by rw [be_length];omega),List.take_of_length_le (by rw [be_length];omega),val_be n 2 (by omega)]
  show getL (126 :: (be n 2++more))=_
  rw [getL,if_neg (by omega),if_pos (by omega),if_neg (by rw [List.length_append,be_length];omega),hv,if_neg h1,List.length_cons,be_length]
 ·rw [if_neg h2] at h
  injection h with h
  subst h
  have hv:val ((be n 8++more).take 8)=n:=by
   rw [List.take_append_of_le_length (by rw [be_length];omega),List.take_of_length_le (by rw [be_length];omega),val_be n 8 (by omega)]
  have hx:¬ (0<(be n 8++more).length∧128≤(be n 8++more).getD 0 0):=by
   rw [be_eight]
   show ¬ (_∧128≤n / 256 / 256 / 256 / 256 / 256 / 256 / 256 % 256)
   omega
  have hz:¬ (6≤(be n 8++more).length∧val ((be n 8++more).take 6)=0):=by
   rw [be_eight]
   intro ⟨_,h⟩
   simp only [List.cons_append,List.take_succ_cons,List.take_zero,val,List.foldl_cons,List.foldl_nil] at h
   omega
  show getL (127 :: (be n 8++more))=_
  rw [getL,if_neg (by omega),if_neg (by omega),if_neg hx,if_neg hz,if_neg (by rw [List.length_append,be_length];omega),hv,List.length_cons,be_length]
theorem put_some (n:Nat):(putL n).isSome=decide (n≤9223372036854775807):=by
 unfold putL
 by_cases h0:9223372036854775807<n
 ·rw [if_pos h0,decide_eq_false (by omega)];rfl
 ·rw [if_neg h0,decide_eq_true (by omega)]
  split
  ·rfl
  ·split<;>rfl
theorem put_length {n:Nat} {s:List Nat} (h:putL n=some s):s.length=if 65535<n then 9 else if 125<n then 3 else 1:=by
 unfold putL at h
 by_cases h0:9223372036854775807<n
 ·rw [if_pos h0] at h;cases h
 rw [if_neg h0] at h
 by_cases h1:n<126
 ·rw [if_pos h1] at h
  injection h with h
  subst h
  rw [if_neg (by omega),if_neg (by omega)];rfl
 rw [if_neg h1] at h
 by_cases h2:n≤65535
 ·rw [if_pos h2] at h
  injection h with h
  subst h
  rw [if_neg (by omega),if_pos (by omega),List.length_cons,be_length]
 ·rw [if_neg h2] at h
  injection h with h
  subst h
  rw [if_pos (by omega),List.length_cons,be_length]
theorem put_small {n:Nat} {s:List Nat} (h:putL n=some s):∀ x∈s,x<256:=by
 unfold putL at h
 by_cases h0:9223372036854775807<n
 ·rw [if_pos h0] at h;cases h
 rw [if_neg h0] at h
 by_cases h1:n<126
 ·rw [if_pos h1] at h
  injection h with h
  subst h
  intro x hx
  simp at hx
  omega
 rw [if_neg h1] at h
 by_cases h2:n≤65535
 ·rw [if_pos h2] at h
  injection h with h
  subst h
  intro x hx
  rcases List.mem_cons.1 hx with rfl | hx
  ·omega
  ·exact be_small _ _ x hx
 ·rw [if_neg h2] at h
  injection h with h
  subst h
  intro x hx
  rcases List.mem_cons.1 hx with rfl | hx
  ·omega
  ·exact be_small _ _ x hx
def getW (B least most:Nat) (t:List Nat):Nat×Nat×Nat :=
 if val t*2 ^ (8*(B-t.length))+2 ^ (8*(B-t.length))-1<least∨most<val t*2 ^ (8*(B-t.length)) then (0,0,81)
 else if t.length<B then (0,0,80) else (val t*2 ^ (8*(B-t.length)),1+B,0)
theorem val_nil:val []=0:=rfl
theorem val_cons (x:Nat) (xs:List Nat):val (x :: xs)=x*256 ^ xs.length+val xs:=by
 have key:∀ (r:List Nat) (a:Nat),r.foldl (fun a c=>256*a+c) a=a*256 ^ r.length+r.foldl (fun a c=>256*a+c) 0:=by
  intro r
  induction r with
  | nil=>intro a;simp
  | cons y ys ih =>
    intro a
    rw [List.foldl_cons,List.foldl_cons,ih (256*a+y),ih (256*0+y),List.length_cons,Nat.pow_succ,Nat.add_mul,Nat.add_mul]
    rw [show 256*a*256 ^ ys.length=a*(256 ^ ys.length*256) by rw [Nat.mul_comm 256 a,Nat.mul_assoc,Nat.mul_comm 256]]
    omega
 unfold val
 rw [List.foldl_cons,key]
 simp
theorem get_narrow (x:Nat) (xs:List Nat) (h:x % 128=126) (hs:∀ y∈xs,y<256):getL (x :: xs)=getW 2 126 65535 (xs.take 2):=by
 rw [getL,if_neg (by omega),if_pos h]
 match xs,hs with
 | [],_=>rfl
 | [a],hs =>
   have:=hs a (by simp)
   rw [if_pos (by simp)]
   simp only [List.take_succ_cons,List.take_nil,getW,val_cons,val_nil,List.length_cons,List.length_nil]
   rw [if_neg (by omega),if_pos (by omega)]
 | a :: b :: ys,hs =>
   have h1:=hs a (by simp)
   have h2:=hs b (by simp)
   rw [if_neg (by simp)]
   simp only [List.take_succ_cons,List.take_zero,getW,val_cons,val_nil,List.length_cons,List.length_nil]
   by_cases h3:a*256+b<126
   ·rw [if_pos (by omega),if_pos (by omega)]
   ·rw [if_neg (by omega),if_neg (by omega),if_neg (by omega)]
    congr 1;omega
theorem get_wide (x:Nat) (xs:List Nat) (h:x % 128=127) (hs:∀ y∈xs,y<256):getL (x :: xs)=getW 8 65536 9223372036854775807 (xs.take 8):=by
 rw [getL,if_neg (by omega),if_neg (by omega)]
 match xs,hs with
 | [],_=>rfl
 | [a],hs =>
   have:=hs a (by simp)
   simp only [List.take_succ_cons,List.take_nil,List.getD_cons_zero,getW,val_cons,val_nil,List.length_cons,List.length_nil]
   by_cases h1:128≤a
   ·rw [if_pos (by omega),if_pos (by omega)]
   ·rw [if_neg (by omega),if_neg (by omega),if_pos (by omega),if_neg (by omega),if_pos (by omega)]
 | [a,b],hs =>
   have:=hs a (by simp)
   have:=hs b (by simp)
   simp only [List.take_succ_cons,List.take_nil,List.getD_cons_zero,getW,val_cons,val_nil,List.length_cons,List.length_nil]
   by_cases h1:128≤a
   ·rw [if_pos (by omega),if_pos (by omega)]
   ·rw [if_neg (by omega),if_neg (by omega),if_pos (by omega),if_neg (by omega),if_pos (by omega)]
 | [a,b,c],hs =>
   have:=hs a (by simp)
   have:=hs b (by simp)
   have:=hs c (by simp)
   simp only [List.take_succ_cons,List.take_nil,List.getD_cons_zero,getW,val_cons,val_nil,List.length_cons,List.length_nil]
   by_cases h1:128≤a
   ·rw [if_pos (by omega),if_pos (by omega)]
   ·rw [if_neg (by omega),if_neg (by omega),if_pos (by omega),if_neg (by omega),if_pos (by omega)]
 | [a,b,c,d],hs =>
   have:=hs a (by simp)
   have:=hs b (by simp)
   have:=hs c (by simp)
   have:=hs d (by simp)
   simp only [List.take_succ_cons,List.take_nil,List.getD_cons_zero,getW,val_cons,val_nil,List.length_cons,List.length_nil]
   by_cases h1:128≤a
   ·rw [if_pos (by omega),if_pos (by omega)]
   ·rw [if_neg (by omega),if_neg (by omega),if_pos (by omega),if_neg (by omega),if_pos (by omega)]
 | [a,b,c,d,e],hs =>
   have:=hs a (by simp)
   have:=hs b (by simp)
   have:=hs c (by simp)
   have:=hs d (by simp)
   have:=hs e (by simp)
   simp only [List.take_succ_cons,List.take_nil,List.getD_cons_zero,getW,val_cons,val_nil,List.length_cons,List.length_nil]
   by_cases h1:128≤a
   ·rw [if_pos (by omega),if_pos (by omega)]
   ·rw [if_neg (by omega),if_neg (by omega),if_pos (by omega),if_neg (by omega),if_pos (by omega)]
 | [a,b,c,d,e,f],hs =>
   have:=hs a (by simp)
   have:=hs b (by simp)
   have:=hs c (by simp)
   have:=hs d (by simp)
   have:=hs e (by simp)
   have:=hs f (by simp)
   simp only [List.take_succ_cons,List.take_nil,List.getD_cons_zero,getW,val_cons,val_nil,List.length_cons,List.length_nil]
   by_cases h1:128≤a
   ·rw [if_pos (by omega),if_pos (by omega)]
   ·rw [if_neg (by omega)]
    by_cases h2:a=0∧b=0∧c=0∧d=0∧e=0∧f=0
    ·rw [if_pos (by omega),if_pos (by omega)]
    ·rw [if_neg (by omega),if_pos (by omega),if_neg (by omega),if_pos (by omega)]
 | [a,b,c,d,e,f,g],hs =>
   have:=hs a (by simp)
   have:=hs b (by simp)
   have:=hs c (by simp)
   have:=hs d (by simp)
   have:=hs e (by simp)
   have:=hs f (by simp)
   have:=hs g (by simp)
   simp only [List.take_succ_cons,List.take_nil,List.take_zero,List.getD_cons_zero,getW,val_cons,val_nil,List.length_cons,List.length_nil]
   by_cases h1:128≤a
   ·rw [if_pos (by omega),if_pos (by omega)]
   ·rw [if_neg (by omega)]
    by_cases h2:a=0∧b=0∧c=0∧d=0∧e=0∧f=0
    ·rw [if_pos (by omega),if_pos (by omega)]
    ·rw [if_neg (by omega),if_pos (by omega),if_neg (by omega),if_pos (by omega)]
 | a :: b :: c :: d :: e :: f :: g :: i :: ys,hs =>
   have:=hs a (by simp)
   have:=hs b (by simp)
   have:=hs c (by simp)
   have:=hs d (by simp)
   have:=hs e (by simp)
   have:=hs f (by simp)
   have:=hs g (by simp)
   have:=hs i (by simp)
   simp only [List.take_succ_cons,List.take_zero,List.getD_cons_zero,getW,val_cons,val_nil,List.length_cons,List.length_nil]
   by_cases h1:128≤a
   ·rw [if_pos (by omega),if_pos (by omega)]
   ·rw [if_neg (by omega)]
    by_cases h2:a=0∧b=0∧c=0∧d=0∧e=0∧f=0
    ·rw [if_pos (by omega),if_pos (by omega)]
    ·rw [if_neg (by omega),if_neg (by omega),if_neg (by omega),if_neg (by omega)]
     simp
theorem getW_small {B:Nat} {t:List Nat} (hb:B≤8) (hl:t.length≤B) (hs:∀ y∈t,y<256) :
 val t*2 ^ (8*(B-t.length))+2 ^ (8*(B-t.length))≤18446744073709551616:=by
 have h1:=val_lt t hs
 have h2:(val t+1)*2 ^ (8*(B-t.length))≤256 ^ t.length*2 ^ (8*(B-t.length)):=Nat.mul_le_mul_right _ h1
 have h3:256 ^ t.length*2 ^ (8*(B-t.length))=2 ^ (8*B):=by
  rw [show (256:Nat)=2 ^ 8 from rfl,← Nat.pow_mul,← Nat.pow_add]
  congr 1;omega
 have h4:2 ^ (8*B)≤2 ^ 64:=Nat.pow_le_pow_right (by omega) (by omega)
 rw [Nat.add_mul,Nat.one_mul] at h2
 omega
theorem be_get (n s i:Nat) (h:i<s):(be n s).getD i 0=n / 2 ^ (8*(s-1-i)) % 256:=by
 induction s generalizing n with
 | zero=>omega
 | succ s ih =>
   rw [be]
   by_cases hi:i<s
   ·rw [List.getD_eq_getElem?_getD,List.getElem?_append_left (by rw [be_length];exact hi),← List.getD_eq_getElem?_getD,ih _ hi,Nat.div_div_eq_div_mul,show (256:Nat)=2 ^ 8 from rfl,← Nat.pow_add]
    rw [show 8+8*(s-1-i)=8*(s+1-1-i) by omega]
   ·obtain rfl:i=s:=by omega
    rw [List.getD_eq_getElem?_getD,List.getElem?_append_right (by rw [be_length];omega),be_length]
    simp
def beTo (n s k:Nat):List Nat:=(be n s).take k++List.replicate (s-k) 0
theorem beTo_length (n s k:Nat) (h:k≤s):(beTo n s k).length=s:=by
 unfold beTo;rw [List.length_append,List.length_take,be_length,List.length_replicate];omega
theorem beTo_zero (n s:Nat):beTo n s 0=List.replicate s 0:=by unfold beTo;simp
theorem beTo_all (n s:Nat):beTo n s s=be n s:=by
 unfold beTo
 rw [Nat.sub_self,List.take_of_length_le (by rw [be_length];omega)]
 simp
theorem beTo_step (n s k:Nat) (h:k<s):(beTo n s k).set k (n / 2 ^ (8*(s-1-k)) % 256)=beTo n s (k+1):=by
 unfold beTo
 have hl:((be n s).take k).length=k:=by rw [List.length_take,be_length];omega
 rw [List.set_append_right _ _ (by rw [hl];exact Nat.le_refl _),hl,Nat.sub_self,show s-k=(s-(k+1))+1 by omega,List.replicate_succ,List.set_cons_zero,List.take_add_one,List.getElem?_eq_getElem (by rw [be_length];exact h)]
 have hg:=be_get n s k h
 rw [List.getD_eq_getElem?_getD,List.getElem?_eq_getElem (by rw [be_length];exact h)] at hg
 simp only [Option.getD_some] at hg
 rw [hg]
 simp
def tuTo (key:List Nat) (at':Nat) (a:List Nat) (k:Nat):List Nat:=turn key at' (a.take k)++List.replicate (a.length-k) 0
theorem tuTo_length (key:List Nat) (at':Nat) (a:List Nat) (k:Nat) (h:k≤a.length):(tuTo key at' a k).length=a.length:=by
 unfold tuTo;rw [List.length_append,turn_length,List.length_take,List.length_replicate];omega
theorem tuTo_zero (key:List Nat) (at':Nat) (a:List Nat):tuTo key at' a 0=List.replicate a.length 0:=by unfold tuTo;simp [turn]
theorem tuTo_all (key:List Nat) (at':Nat) (a:List Nat):tuTo key at' a a.length=turn key at' a:=by
 unfold tuTo
 rw [Nat.sub_self,List.take_length]
 simp
theorem tuTo_step (key:List Nat) (at':Nat) (a:List Nat) (k:Nat) (h:k<a.length):(tuTo key at' a k).set k (a.getD k 0 ^^^ key.getD ((at'+k) % 4) 0)=tuTo key at' a (k+1):=by
 unfold tuTo
 have hl:(turn key at' (a.take k)).length=k:=by rw [turn_length,List.length_take];omega
 rw [List.set_append_right _ _ (by rw [hl];exact Nat.le_refl _),hl,Nat.sub_self,show a.length-k=(a.length-(k+1))+1 by omega,List.replicate_succ,List.set_cons_zero,turn_take _ _ _ _ h]
 simp
theorem get_end (x:Nat) (xs:List Nat) (h:x % 128=127) (h1:xs.length<8) (h2:0<xs.length→xs.getD 0 0<128) (h3:6≤xs.length→val (xs.take 6)≠0):getL (x :: xs)=(0,0,80):=by
 rw [getL,if_neg (by omega),if_neg (by omega),if_neg (fun h=>by have:=h2 h.1;omega),if_neg (fun h=>h3 h.1 h.2),if_pos h1]
theorem get_high (x:Nat) (xs:List Nat) (h:x % 128=127) (h1:0<xs.length) (h2:128≤xs.getD 0 0):getL (x :: xs)=(0,0,81):=by
 rw [getL,if_neg (by omega),if_neg (by omega),if_pos ⟨h1,h2⟩]
theorem get_short (x:Nat) (xs:List Nat) (h:x % 128=127) (h1:6≤xs.length) (h2:val (xs.take 6)=0):getL (x :: xs)=(0,0,81):=by
 rw [getL,if_neg (by omega),if_neg (by omega)]
 split
 ·rfl
 ·rw [if_pos ⟨h1,h2⟩]
theorem get_whole (x:Nat) (xs:List Nat) (h:x % 128=127) (h1:8≤xs.length) (h2:xs.getD 0 0<128) (h3:val (xs.take 6)≠0):getL (x :: xs)=(val (xs.take 8),9,0):=by
 rw [getL,if_neg (by omega),if_neg (by omega),if_neg (fun h=>by omega),if_neg (fun h=>h3 h.2),if_neg (by omega)]
theorem get_one (x:Nat) (xs:List Nat) (h:x % 128<126):getL (x :: xs)=(x % 128,1,0):=by rw [getL,if_pos h]
end MaskPlain
namespace FramePlain
open MaskPlain
theorem val_eight (a b c d e f g h:Nat):val [a,b,c,d,e,f,g,h]=256*(256*(256*(256*(256*(256*(256*a+b)+c)+d)+e)+f)+g)+h:=by simp [val]
theorem get_mod (x:Nat) (xs:List Nat):getL (x % 128 :: xs)=getL (x :: xs):=by
 rw [getL,getL,Nat.mod_mod]
theorem get_canon {x:Nat} {xs:List Nat} {n k:Nat} (hs:∀ y∈xs,y<256) (h:getL (x :: xs)=(n,k,0)):putL n=some ((x % 128 :: xs).take k)∧k≤xs.length+1∧0<k:=by
 rw [getL] at h
 by_cases h1:x % 128<126
 ·rw [if_pos h1] at h
  injection h with e1 e2
  injection e2 with e2 _
  subst e1 e2
  refine ⟨?_,by omega,by omega⟩
  unfold putL
  rw [if_neg (by omega),if_pos h1];rfl
 rw [if_neg h1] at h
 by_cases h2:x % 128=126
 ·rw [if_pos h2] at h
  by_cases h3:xs.length<2
  ·rw [if_pos h3] at h;injection h with _ e;injection e with _ e;cases e
  rw [if_neg h3] at h
  by_cases h4:val (xs.take 2)<126
  ·rw [if_pos h4] at h;injection h with _ e;injection e with _ e;cases e
  rw [if_neg h4] at h
  injection h with e1 e2
  injection e2 with e2 _
  subst e1 e2
  have hl:(xs.take 2).length=2:=by rw [List.length_take];omega
  have hb:=be_val (xs.take 2) (fun y hy=>hs y (List.mem_of_mem_take hy))
  have hv:=val_lt (xs.take 2) (fun y hy=>hs y (List.mem_of_mem_take hy))
  rw [hl] at hb hv
  refine ⟨?_,by omega,by omega⟩
  unfold putL
  rw [if_neg (by omega),if_neg h4,if_pos (by omega),hb,h2];rfl
 rw [if_neg h2] at h
 by_cases h3:0<xs.length∧128≤xs.getD 0 0
 ·rw [if_pos h3] at h;injection h with _ e;injection e with _ e;cases e
 rw [if_neg h3] at h
 by_cases h4:6≤xs.length∧val (xs.take 6)=0
 ·rw [if_pos h4] at h;injection h with _ e;injection e with _ e;cases e
 rw [if_neg h4] at h
 by_cases h5:xs.length<8
 ·rw [if_pos h5] at h;injection h with _ e;injection e with _ e;cases e
 rw [if_neg h5] at h
 injection h with e1 e2
 injection e2 with e2 _
 subst e1 e2
 have hl:(xs.take 8).length=8:=by rw [List.length_take];omega
 have hb:=be_val (xs.take 8) (fun y hy=>hs y (List.mem_of_mem_take hy))
 rw [hl] at hb
 have hx:x % 128=127:=by omega
 refine ⟨?_,by omega,by omega⟩
 match xs,h5 with
 | a :: b :: c :: d :: e :: f :: g :: i :: ys,_ =>
   have ha:=hs a (by simp)
   have hb':=hs b (by simp)
   have hc:=hs c (by simp)
   have hd:=hs d (by simp)
   have he:=hs e (by simp)
   have hf:=hs f (by simp)
   have hg:=hs g (by simp)
   have hi:=hs i (by simp)
   simp only [List.take_succ_cons,List.take_zero,List.getD_cons_zero,List.length_cons] at h3 h4 hb ⊢
   have h4':¬ val [a,b,c,d,e,f]=0:=fun hh=>h4 ⟨by omega,hh⟩
   rw [show val [a,b,c,d,e,f]=256*(256*(256*(256*(256*a+b)+c)+d)+e)+f by simp [val]] at h4'
   rw [val_eight] at hb ⊢
   unfold putL
   rw [if_neg (by omega),if_neg (by omega),if_neg (by omega),hb,hx]
theorem get_more {xs:List Nat} (ys:List Nat) (h:(getL xs).2.2≠80):getL (xs++ys)=getL xs:=by
 cases xs with
 | nil=>exact absurd rfl h
 | cons x xs =>
   rw [List.cons_append,getL,getL]
   rw [getL] at h
   by_cases h1:x % 128<126
   ·rw [if_pos h1,if_pos h1]
   rw [if_neg h1] at h ⊢
   rw [if_neg h1]
   by_cases h2:x % 128=126
   ·rw [if_pos h2] at h ⊢
    rw [if_pos h2]
    by_cases h3:xs.length<2
    ·rw [if_pos h3] at h;exact absurd rfl h
    rw [if_neg h3,if_neg (by rw [List.length_append];omega),List.take_append_of_le_length (by omega)]
   rw [if_neg h2] at h ⊢
   rw [if_neg h2]
   by_cases h3:0<xs.length∧128≤xs.getD 0 0
   ·rw [if_pos h3,if_pos ⟨by rw [List.length_append];omega,by rw [List.getD_eq_getElem?_getD,List.getElem?_append_left h3.1,← List.getD_eq_getElem?_getD];exact h3.2⟩]
   rw [if_neg h3] at h ⊢
   by_cases h4:6≤xs.length∧val (xs.take 6)=0
   ·have h5:¬ (0<(xs++ys).length∧128≤(xs++ys).getD 0 0):=fun hh=>h3 ⟨by omega,by
     have:=hh.2
     rwa [List.getD_eq_getElem?_getD,List.getElem?_append_left (by omega),← List.getD_eq_getElem?_getD] at this⟩
    rw [if_neg h5,if_pos h4,if_pos ⟨by rw [List.length_append];omega,by rw [List.take_append_of_le_length h4.1];exact h4.2⟩]
   rw [if_neg h4] at h ⊢
   by_cases h5:xs.length<8
   ·rw [if_pos h5] at h;exact absurd rfl h
   have h6:¬ (0<(xs++ys).length∧128≤(xs++ys).getD 0 0):=fun hh=>h3 ⟨by omega,by
    have:=hh.2
    rwa [List.getD_eq_getElem?_getD,List.getElem?_append_left (by omega),← List.getD_eq_getElem?_getD] at this⟩
   have h7:¬ (6≤(xs++ys).length∧val ((xs++ys).take 6)=0):=fun hh=>h4 ⟨by omega,by
    have:=hh.2
    rwa [List.take_append_of_le_length (by omega)] at this⟩
   rw [if_neg h5,if_neg h6,if_neg h7,if_neg (by rw [List.length_append];omega),List.take_append_of_le_length (by omega)]
theorem get_codes (xs:List Nat):(getL xs).2.2=0∨(getL xs).2.2=80∨(getL xs).2.2=81:=by
 cases xs with
 | nil=>exact .inr (.inl rfl)
 | cons x xs =>
   rw [getL]
   repeat' split
   all_goals simp
theorem get_le (xs:List Nat):(getL xs).2.1≤xs.length:=by
 cases xs with
 | nil=>exact Nat.le_refl _
 | cons x xs =>
   rw [getL,List.length_cons]
   by_cases h1:x % 128<126
   ·rw [if_pos h1];show 1≤_;omega
   rw [if_neg h1]
   by_cases h2:x % 128=126
   ·rw [if_pos h2]
    by_cases h3:xs.length<2
    ·rw [if_pos h3];exact Nat.zero_le _
    rw [if_neg h3]
    by_cases h4:val (xs.take 2)<126
    ·rw [if_pos h4];exact Nat.zero_le _
    rw [if_neg h4];show 3≤_;omega
   rw [if_neg h2]
   by_cases h3:0<xs.length∧128≤xs.getD 0 0
   ·rw [if_pos h3];exact Nat.zero_le _
   rw [if_neg h3]
   by_cases h4:6≤xs.length∧val (xs.take 6)=0
   ·rw [if_pos h4];exact Nat.zero_le _
   rw [if_neg h4]
   by_cases h5:xs.length<8
   ·rw [if_pos h5];exact Nat.zero_le _
   rw [if_neg h5];show 9≤_;omega
structure Fr where
 fin:Bool
 op:Int
 masked:Bool
 key:List Nat
 data:List Nat
def zero4:List Nat:=[0,0,0,0]
def Fr0:Fr:=⟨false,0,false,zero4,[]⟩
def ctl (op:Int):Bool:=decide (8≤op)&&decide (op≤10)
def form (f:Fr):Bool:=((decide (0≤f.op)&&decide (f.op≤2))||(ctl f.op&&f.fin&&decide (f.data.length≤125)))&&(f.masked||decide (f.key=zero4))
def chk (f:Fr):Nat:=if form f=false then 91 else if 65536<f.data.length then 92 else 0
def lenB (n:Nat):List Nat:=(putL n).getD []
def byte0 (f:Fr):Nat:=f.op.toNat+if f.fin then 128 else 0
def headB (f:Fr):List Nat :=
 if f.masked then byte0 f :: ((lenB f.data.length).getD 0 0+128) :: (lenB f.data.length).drop 1++f.key else byte0 f :: lenB f.data.length
def text (f:Fr):List Nat:=headB f++if f.masked then turn f.key 0 f.data else f.data
def size (f:Fr):Nat:=2+f.data.length+(if 65535<f.data.length then 8 else if 125<f.data.length then 2 else 0)+(if f.masked then 4 else 0)
def bad (x:Nat):Bool:=decide (x / 16 % 8≠0)||decide (2<x % 16∧¬ (8≤x % 16∧x % 16≤10))||decide (8≤x % 16∧x<128)
def rest (x y n k:Nat) (r:List Nat):Fr×Nat×Nat :=
 if 128≤y then
  (if r.length<4+n then (Fr0,0,90) else (⟨decide (128≤x),((x % 16:Nat):Int),true,r.take 4,turn (r.take 4) 0 ((r.drop 4).take n)⟩,1+k+4+n,0))
 else if r.length<n then (Fr0,0,90) else (⟨decide (128≤x),((x % 16:Nat):Int),false,zero4,r.take n⟩,1+k+n,0)
def getF (s:List Nat) (most:Int):Fr×Nat×Nat :=
 match s with
 | []=>(Fr0,0,90)
 | x :: xs =>
   if bad x then (Fr0,0,91)
   else if 0<xs.length∧8≤x % 16∧125<xs.getD 0 0 % 128 then (Fr0,0,91)
   else if (getL xs).2.2=81 then (Fr0,0,91)
   else if (getL xs).2.2=80 then (Fr0,0,90)
   else if most<((getL xs).1:Int) then (Fr0,0,92)
   else rest x (xs.getD 0 0) (getL xs).1 (getL xs).2.1 (xs.drop (getL xs).2.1)
theorem lenB_some {n:Nat} (h:n≤9223372036854775807):putL n=some (lenB n):=by
 have:=put_some n
 rw [decide_eq_true h] at this
 unfold lenB
 cases hp:putL n with
 | none=>rw [hp] at this;cases this
 | some s=>rfl
theorem lenB_length {n:Nat} (h:n≤9223372036854775807):(lenB n).length=if 65535<n then 9 else if 125<n then 3 else 1:=put_length (lenB_some h)
theorem lenB_small {n:Nat} (h:n≤9223372036854775807):∀ x∈lenB n,x<256:=put_small (lenB_some h)
theorem lenB_low {n:Nat} (h:n≤9223372036854775807):(lenB n).getD 0 0<128∧(n≤125→(lenB n).getD 0 0=n):=by
 have hs:=lenB_some h
 unfold putL at hs
 rw [if_neg (by omega)] at hs
 by_cases h1:n<126
 ·rw [if_pos h1] at hs;injection hs with hs;rw [← hs];exact ⟨by show n<128;omega,fun _=>rfl⟩
 ·rw [if_neg h1] at hs
  by_cases h2:n≤65535
  ·rw [if_pos h2] at hs;injection hs with hs;rw [← hs];exact ⟨by show 126<128;omega,fun _=>by omega⟩
  ·rw [if_neg h2] at hs;injection hs with hs;rw [← hs];exact ⟨by show 127<128;omega,fun _=>by omega⟩
theorem text_length (f:Fr) (h:f.data.length≤9223372036854775807) (hk:f.key.length=4):(text f).length=size f:=by
 have hl:=lenB_length h
 unfold text headB size
 cases f.masked with
 | true =>
   simp only [if_true,List.length_append,List.length_cons,List.length_drop,turn_length,hk,hl]
   split
   ·omega
   ·split<;>omega
 | false =>
   simp only [Bool.false_eq_true,if_false,List.length_append,List.length_cons,hl]
   split
   ·omega
   ·split<;>omega
theorem form_cases {f:Fr} (h:form f=true):((0≤f.op∧f.op≤2)∨(8≤f.op∧f.op≤10∧f.fin=true∧f.data.length≤125))∧(f.masked=true∨f.key=zero4):=by
 unfold form ctl at h
 simp only [Bool.and_eq_true,Bool.or_eq_true,decide_eq_true_eq] at h
 obtain ⟨h1,h2⟩:=h
 refine ⟨?_,h2⟩
 rcases h1 with ⟨a,b⟩ | ⟨⟨⟨a,b⟩,c⟩,d⟩
 ·exact .inl ⟨a,b⟩
 ·exact .inr ⟨a,b,c,d⟩
theorem form_of {f:Fr} (h:((0≤f.op∧f.op≤2)∨(8≤f.op∧f.op≤10∧f.fin=true∧f.data.length≤125))∧(f.masked=true∨f.key=zero4)):form f=true:=by
 unfold form ctl
 simp only [Bool.and_eq_true,Bool.or_eq_true,decide_eq_true_eq]
 obtain ⟨h1,h2⟩:=h
 refine ⟨?_,h2⟩
 rcases h1 with ⟨a,b⟩ | ⟨a,b,c,d⟩
 ·exact .inl ⟨a,b⟩
 ·exact .inr ⟨⟨⟨a,b⟩,c⟩,d⟩
theorem byte0_facts {f:Fr} (h:form f=true):bad (byte0 f)=false∧((byte0 f % 16:Nat):Int)=f.op∧decide (128≤byte0 f)=f.fin∧byte0 f<256∧(8≤byte0 f % 16→f.data.length≤125):=by
 have hc:=(form_cases h).1
 unfold byte0 bad
 cases hf:f.fin with
 | true =>
   simp only [if_true]
   rw [hf] at hc
   obtain ⟨k,hk⟩:∃ k:Nat,f.op=k:=⟨f.op.toNat,by omega⟩
   rw [hk] at hc ⊢
   rw [Int.toNat_natCast]
   refine ⟨?_,by omega,by simp,by omega,by omega⟩
   simp only [Bool.or_eq_false_iff,decide_eq_false_iff_not]
   omega
 | false =>
   simp only [Bool.false_eq_true,if_false,Nat.add_zero]
   rw [hf] at hc
   have hc2:0≤f.op∧f.op≤2:=by
    rcases hc with h | ⟨_,_,h,_⟩
    ·exact h
    ·cases h
   obtain ⟨k,hk⟩:∃ k:Nat,f.op=k:=⟨f.op.toNat,by omega⟩
   rw [hk] at hc2 ⊢
   rw [Int.toNat_natCast]
   refine ⟨?_,by omega,by simp;omega,by omega,by omega⟩
   simp only [Bool.or_eq_false_iff,decide_eq_false_iff_not]
   omega
theorem lenB_cons {n:Nat} (h:n≤9223372036854775807):lenB n=(lenB n).getD 0 0 :: (lenB n).drop 1:=by
 have hl:=lenB_length h
 cases hb:lenB n with
 | nil=>rw [hb] at hl;simp at hl;split at hl<;>(try split at hl)<;>omega
 | cons x xs=>rfl
theorem get_text {f:Fr} (hf:form f=true) (hn:f.data.length≤9223372036854775807) (hk:f.key.length=4) (more:List Nat) (most:Int) :
 getF (text f++more) most=if most<(f.data.length:Int) then (Fr0,0,92) else (f,size f,0):=by
 have hz:=text_length f hn hk
 obtain ⟨b1,b2,b3,b4,b5⟩:=byte0_facts hf
 obtain ⟨l1,l2⟩:=lenB_low hn
 have hp:=lenB_some hn
 have hcons:=lenB_cons hn
 have hlp:0<(lenB f.data.length).length:=by rw [hcons];simp
 have hll:=lenB_length hn
 have hm2:=(form_cases hf).2
 rw [← hz]
 unfold text headB at hz ⊢
 by_cases hm:f.masked=true
 ·rw [if_pos hm,if_pos hm] at hz ⊢
  have hgl:getL ((((lenB f.data.length).getD 0 0+128) :: (lenB f.data.length).drop 1)++(f.key++(turn f.key 0 f.data++more)))=(f.data.length,(lenB f.data.length).length,0):=by
   rw [List.cons_append,← get_mod,Nat.add_mod_right,Nat.mod_eq_of_lt l1,← List.cons_append,← hcons,get_put hp]
  simp only [List.cons_append,List.append_assoc] at hgl hz ⊢
  have hd:(((lenB f.data.length).getD 0 0+128) :: ((lenB f.data.length).drop 1++(f.key++(turn f.key 0 f.data++more)))).drop (lenB f.data.length).length=f.key++(turn f.key 0 f.data++more):=by
   have e:(lenB f.data.length).length=((lenB f.data.length).drop 1).length+1:=by rw [List.length_drop];omega
   conv=>lhs;rw [e,List.drop_succ_cons]
   rw [List.drop_left]
  rw [getF,b1,if_neg (by simp),if_neg,hgl,if_neg (show ¬ (0:Nat)=81 by decide),if_neg (show ¬ (0:Nat)=80 by decide)]
  ·dsimp only
   by_cases hmost:most<(f.data.length:Int)
   ·rw [if_pos hmost,if_pos hmost]
   ·rw [if_neg hmost,if_neg hmost,hd,rest,List.getD_cons_zero,if_pos (by omega),if_neg (by rw [List.length_append,List.length_append,turn_length];omega)]
    have t1:(f.key++(turn f.key 0 f.data++more)).take 4=f.key:=by rw [List.take_append_of_le_length (by omega),List.take_of_length_le (by omega)]
    have t2:(f.key++(turn f.key 0 f.data++more)).drop 4=turn f.key 0 f.data++more:=by rw [← hk,List.drop_left]
    have t3:(turn f.key 0 f.data++more).take f.data.length=turn f.key 0 f.data:=by rw [List.take_append_of_le_length (by rw [turn_length];omega),List.take_of_length_le (by rw [turn_length];omega)]
    rw [t1,t2,t3,turn_twice,b2,b3]
    congr 1
    ·cases f;simp only at hm ⊢;rw [hm]
    ·congr 1
     simp only [List.length_cons,List.length_append,turn_length,List.length_drop]
     omega
  ·intro ⟨_,h8,h125⟩
   rw [List.getD_cons_zero] at h125
   have:=l2 (b5 h8)
   have:=b5 h8
   omega
 ·rw [if_neg hm,if_neg hm] at hz ⊢
  have hgl:getL (lenB f.data.length++(f.data++more))=(f.data.length,(lenB f.data.length).length,0):=get_put hp _
  simp only [List.cons_append,List.append_assoc] at hz ⊢
  rw [getF,b1,if_neg (by simp),if_neg,hgl,if_neg (show ¬ (0:Nat)=81 by decide),if_neg (show ¬ (0:Nat)=80 by decide)]
  ·dsimp only
   by_cases hmost:most<(f.data.length:Int)
   ·rw [if_pos hmost,if_pos hmost]
   ·have hg0:(lenB f.data.length++(f.data++more)).getD 0 0=(lenB f.data.length).getD 0 0:=by
     rw [List.getD_eq_getElem?_getD,List.getElem?_append_left hlp,← List.getD_eq_getElem?_getD]
    rw [if_neg hmost,if_neg hmost,List.drop_left,rest,hg0,if_neg (by omega),if_neg (by rw [List.length_append];omega),b2,b3]
    have t3:(f.data++more).take f.data.length=f.data:=by rw [List.take_append_of_le_length (Nat.le_refl _),List.take_of_length_le (Nat.le_refl _)]
    rw [t3]
    have hkz:f.key=zero4:=hm2.resolve_left hm
    congr 1
    ·cases f;simp only at hm hkz ⊢;rw [hkz];simp at hm;rw [hm]
    ·congr 1
     simp only [List.length_cons,List.length_append]
     omega
  ·intro ⟨_,h8,h125⟩
   rw [List.getD_eq_getElem?_getD,List.getElem?_append_left hlp,← List.getD_eq_getElem?_getD,l2 (b5 h8)] at h125
   have:=b5 h8
   omega
theorem get_on {a:List Nat} (b:List Nat) (most:Int) (h:(getF a most).2.2≠90):getF (a++b) most=getF a most:=by
 cases a with
 | nil=>exact absurd rfl h
 | cons x xs =>
   rw [List.cons_append,getF,getF]
   rw [getF] at h
   by_cases h1:bad x=true
   ·rw [if_pos h1,if_pos h1]
   rw [if_neg h1] at h ⊢
   rw [if_neg h1]
   by_cases h2:0<xs.length∧8≤x % 16∧125<xs.getD 0 0 % 128
   ·rw [if_pos h2,if_pos]
    refine ⟨by rw [List.length_append];omega,h2.2.1,?_⟩
    rw [List.getD_eq_getElem?_getD,List.getElem?_append_left h2.1,← List.getD_eq_getElem?_getD];exact h2.2.2
   rw [if_neg h2] at h ⊢
   by_cases h80:(getL xs).2.2=80
   ·rw [if_neg (by omega),if_pos h80] at h;exact absurd rfl h
   have hm:=get_more b h80
   have hp:0<xs.length:=by
    cases xs with
    | nil=>exact absurd rfl h80
    | cons _ _=>simp
   have hg0:(xs++b).getD 0 0=xs.getD 0 0:=by rw [List.getD_eq_getElem?_getD,List.getElem?_append_left hp,← List.getD_eq_getElem?_getD]
   rw [hm,hg0,if_neg (fun hh=>h2 ⟨hp,hh.2⟩)]
   by_cases h81:(getL xs).2.2=81
   ·rw [if_pos h81,if_pos h81]
   rw [if_neg h81,if_neg h80] at h ⊢
   rw [if_neg h81,if_neg h80]
   by_cases hmost:most<((getL xs).1:Int)
   ·rw [if_pos hmost,if_pos hmost]
   rw [if_neg hmost] at h ⊢
   rw [if_neg hmost]
   obtain ⟨n,hn⟩:∃ n,(getL xs).1=n:=⟨_,rfl⟩
   obtain ⟨k,hk⟩:∃ k,(getL xs).2.1=k:=⟨_,rfl⟩
   rw [hn,hk] at h ⊢
   have hkl:k≤xs.length:=by rw [← hk];exact get_le xs
   rw [List.drop_append_of_le_length hkl]
   unfold rest at h ⊢
   by_cases hy:128≤xs.getD 0 0
   ·rw [if_pos hy] at h ⊢
    rw [if_pos hy]
    by_cases hr:(xs.drop k).length<4+n
    ·rw [if_pos hr] at h;exact absurd rfl h
    ·rw [if_neg hr,if_neg (by rw [List.length_append];omega),List.take_append_of_le_length (by omega),List.drop_append_of_le_length (by omega),List.take_append_of_le_length (by rw [List.length_drop];omega)]
   ·rw [if_neg hy] at h ⊢
    rw [if_neg hy]
    by_cases hr:(xs.drop k).length<n
    ·rw [if_pos hr] at h;exact absurd rfl h
    ·rw [if_neg hr,if_neg (by rw [List.length_append];omega),List.take_append_of_le_length (by omega)]
theorem rest_codes (x y n k:Nat) (r:List Nat):(rest x y n k r).2.2=0∨(rest x y n k r=(Fr0,0,90)):=by
 unfold rest
 repeat' split
 all_goals first | exact .inl rfl | exact .inr rfl
theorem get_err (a:List Nat) (most:Int):(getF a most).2.2=0∨(∃ e,getF a most=(Fr0,0,e)∧(e=90∨e=91∨e=92)):=by
 cases a with
 | nil=>exact .inr ⟨90,rfl,by omega⟩
 | cons x xs =>
   rw [getF]
   split
   ·exact .inr ⟨91,rfl,by omega⟩
   split
   ·exact .inr ⟨91,rfl,by omega⟩
   split
   ·exact .inr ⟨91,rfl,by omega⟩
   split
   ·exact .inr ⟨90,rfl,by omega⟩
   split
   ·exact .inr ⟨92,rfl,by omega⟩
   rcases rest_codes x (xs.getD 0 0) (getL xs).1 (getL xs).2.1 (xs.drop (getL xs).2.1) with h | h
   ·exact .inl h
   ·exact .inr ⟨90,h,by omega⟩
theorem get_ok {a:List Nat} {most:Int} {f:Fr} {n:Nat} (hs:∀ y∈a,y<256) (h:getF a most=(f,n,0)) :
 form f=true∧text f=a.take n∧n≤a.length∧2≤n∧f.key.length=4∧(∀ y∈f.key,y<256)∧(∀ y∈f.data,y<256)∧(f.data.length:Int)≤most:=by
 cases a with
 | nil=>injection h with _ e;injection e with _ e;cases e
 | cons x xs =>
   have hx:=hs x (List.mem_cons_self ..)
   have hxs:∀ y∈xs,y<256:=fun y hy=>hs y (List.mem_cons_of_mem _ hy)
   rw [getF] at h
   by_cases h1:bad x=true
   ·rw [if_pos h1] at h;injection h with _ e;injection e with _ e;cases e
   rw [if_neg h1] at h
   by_cases h2:0<xs.length∧8≤x % 16∧125<xs.getD 0 0 % 128
   ·rw [if_pos h2] at h;injection h with _ e;injection e with _ e;cases e
   rw [if_neg h2] at h
   by_cases h81:(getL xs).2.2=81
   ·rw [if_pos h81] at h;injection h with _ e;injection e with _ e;cases e
   rw [if_neg h81] at h
   by_cases h80:(getL xs).2.2=80
   ·rw [if_pos h80] at h;injection h with _ e;injection e with _ e;cases e
   rw [if_neg h80] at h
   by_cases hmost:most<((getL xs).1:Int)
   ·rw [if_pos hmost] at h;injection h with _ e;injection e with _ e;cases e
   rw [if_neg hmost] at h
   have he0:(getL xs).2.2=0:=by
    rcases get_codes xs with h0 | h0 | h0
    ·exact h0
    ·exact absurd h0 h80
    ·exact absurd h0 h81
   cases xs with
   | nil=>exact absurd rfl h80
   | cons y ys =>
     have hy:=hxs y (List.mem_cons_self ..)
     have hys:∀ z∈ys,z<256:=fun z hz=>hxs z (List.mem_cons_of_mem _ hz)
     obtain ⟨N,hN⟩:∃ N,(getL (y :: ys)).1=N:=⟨_,rfl⟩
     obtain ⟨k,hk⟩:∃ k,(getL (y :: ys)).2.1=k:=⟨_,rfl⟩
     have hg:getL (y :: ys)=(N,k,0):=by rw [← hN,← hk,← he0]
     obtain ⟨c1,c2,c3⟩:=get_canon hys hg
     have hN63:N≤9223372036854775807:=by
      have:=put_some N
      rw [c1] at this
      exact of_decide_eq_true this.symm
     have hlb:lenB N=(y % 128 :: ys).take k:=by unfold lenB;rw [c1];rfl
     have hll:(lenB N).length=k:=by rw [hlb,List.length_take,List.length_cons];omega
     rw [hN,hk,List.getD_cons_zero] at h
     rw [hN] at hmost
     have hkc:k≤(y :: ys).length:=by rw [List.length_cons];omega
     have hbad:x / 16 % 8=0∧(x % 16≤2∨(8≤x % 16∧x % 16≤10))∧¬ (8≤x % 16∧x<128):=by
      have hb:bad x=false:=by simpa using h1
      unfold bad at hb
      simp only [Bool.or_eq_false_iff,decide_eq_false_iff_not] at hb
      omega
     have h125:8≤x % 16→N≤125:=fun h8=>by
      have hh:¬ 125<y % 128:=fun hq=>h2 ⟨by simp,h8,by rw [List.getD_cons_zero];exact hq⟩
      rw [getL,if_pos (by omega)] at hg
      injection hg with e _
      omega
     have hb0:∀ (m:Bool) (ke d:List Nat),byte0 ⟨decide (128≤x),((x % 16:Nat):Int),m,ke,d⟩=x:=fun m ke d=>by
      unfold byte0
      simp only [Int.toNat_natCast]
      by_cases h128:128≤x
      ·rw [decide_eq_true h128,if_pos rfl];omega
      ·rw [decide_eq_false h128,if_neg (by simp)];omega
     unfold rest at h
     by_cases hmask:128≤y
     ·rw [if_pos hmask] at h
      by_cases hr:((y :: ys).drop k).length<4+N
      ·rw [if_pos hr] at h;injection h with _ e;injection e with _ e;cases e
      rw [if_neg hr] at h
      injection h with e1 e2
      injection e2 with e2 _
      obtain ⟨r,hrr⟩:∃ r,(y :: ys).drop k=r:=⟨_,rfl⟩
      have hra:(y :: ys).take k++r=y :: ys:=by rw [← hrr,List.take_append_drop]
      have hrl:r.length+k=ys.length+1:=by rw [← hrr,List.length_drop,List.length_cons];omega
      have hrs:∀ z∈r,z<256:=fun z hz=>hxs z (by rw [← hra];exact List.mem_append_right _ hz)
      rw [hrr] at e1 hr
      have hkl:(r.take 4).length=4:=by rw [List.length_take];omega
      have hdl:(turn (r.take 4) 0 ((r.drop 4).take N)).length=N:=by rw [turn_length,List.length_take,List.length_drop];omega
      have hks:∀ z∈r.take 4,z<256:=fun z hz=>hrs z (List.mem_of_mem_take hz)
      have hds:∀ z∈turn (r.take 4) 0 ((r.drop 4).take N),z<256:=turn_lt _ _ _ (fun z hz=>hrs z (List.mem_of_mem_drop (List.mem_of_mem_take hz))) (fun i=>by
       by_cases hi:i<(r.take 4).length
       ·rw [List.getD_eq_getElem?_getD,List.getElem?_eq_getElem hi];exact hks _ (List.getElem_mem hi)
       ·rw [List.getD_eq_getElem?_getD,List.getElem?_eq_none (by omega)];decide)
      have hy2:lenB N=y % 128 :: ((y :: ys).take k).drop 1:=by
       rw [hlb]
       cases k with
       | zero=>omega
       | succ k=>rfl
      have hlow:y % 128+128=y:=by omega
      subst e1 e2
      refine ⟨form_of ⟨?_,.inl rfl⟩,?_,by rw [List.length_cons,List.length_cons];omega,by omega,hkl,hks,hds,by show ((turn (r.take 4) 0 ((r.drop 4).take N)).length:Int)≤most;rw [hdl];omega⟩
      ·show ((0≤((x % 16:Nat):Int)∧((x % 16:Nat):Int)≤2)∨(8≤((x % 16:Nat):Int)∧((x % 16:Nat):Int)≤10∧decide (128≤x)=true∧(turn (r.take 4) 0 ((r.drop 4).take N)).length≤125))
       rw [hdl,decide_eq_true_eq]
       rcases hbad.2.1 with h | h
       ·exact .inl (by omega)
       ·exact .inr ⟨by omega,by omega,by omega,h125 h.1⟩
      ·unfold text headB
       rw [if_pos rfl,if_pos rfl]
       simp only [hdl,turn_twice]
       rw [hb0,hy2,List.getD_cons_zero,List.drop_succ_cons,List.drop_zero,hlow]
       have e3:1+k+4+N=(k+(4+N))+1:=by omega
       rw [e3,List.take_succ_cons]
       conv=>rhs;rw [← hra]
       have e4:((y :: ys).take k).length=k:=by rw [List.length_take];omega
       have e5:((y :: ys).take k++r).take (k+(4+N))=(y :: ys).take k++r.take (4+N):=by
        conv=>lhs;rw [show k+(4+N)=((y :: ys).take k).length+(4+N) by rw [e4]]
        rw [List.take_length_add_append]
       have e6:r.take (4+N)=r.take 4++(r.drop 4).take N:=by rw [List.take_add]
       rw [e5,e6]
       have e7:(y :: ys).take k=y :: ((y :: ys).take k).drop 1:=by
        cases k with
        | zero=>omega
        | succ k=>rfl
       conv=>rhs;rw [e7]
       simp only [List.cons_append,List.append_assoc]
     ·rw [if_neg hmask] at h
      by_cases hr:((y :: ys).drop k).length<N
      ·rw [if_pos hr] at h;injection h with _ e;injection e with _ e;cases e
      rw [if_neg hr] at h
      injection h with e1 e2
      injection e2 with e2 _
      obtain ⟨r,hrr⟩:∃ r,(y :: ys).drop k=r:=⟨_,rfl⟩
      have hra:(y :: ys).take k++r=y :: ys:=by rw [← hrr,List.take_append_drop]
      have hrl:r.length+k=ys.length+1:=by rw [← hrr,List.length_drop,List.length_cons];omega
      have hrs:∀ z∈r,z<256:=fun z hz=>hxs z (by rw [← hra];exact List.mem_append_right _ hz)
      rw [hrr] at e1 hr
      have hdl:(r.take N).length=N:=by rw [List.length_take];omega
      have hlow:y % 128=y:=by omega
      rw [hlow] at hlb
      subst e1 e2
      refine ⟨form_of ⟨?_,.inr rfl⟩,?_,by rw [List.length_cons,List.length_cons];omega,by omega,rfl,fun z hz=>by simp [zero4] at hz;omega,fun z hz=>hrs z (List.mem_of_mem_take hz),by show ((r.take N).length:Int)≤most;rw [hdl];omega⟩
      ·show ((0≤((x % 16:Nat):Int)∧((x % 16:Nat):Int)≤2)∨(8≤((x % 16:Nat):Int)∧((x % 16:Nat):Int)≤10∧decide (128≤x)=true∧(r.take N).length≤125))
       rw [hdl,decide_eq_true_eq]
       rcases hbad.2.1 with h | h
       ·exact .inl (by omega)
       ·exact .inr ⟨by omega,by omega,by omega,h125 h.1⟩
      ·unfold text headB
       rw [if_neg (by simp),if_neg (by simp)]
       simp only [hdl]
       rw [hb0,hlb]
       have e3:1+k+N=(k+N)+1:=by omega
       rw [e3,List.take_succ_cons]
       conv=>rhs;rw [← hra]
       have e4:((y :: ys).take k).length=k:=by rw [List.length_take];omega
       conv=>rhs;rw [show k+N=((y :: ys).take k).length+N by rw [e4],List.take_length_add_append]
       simp only [List.cons_append]
theorem chk_ok {f:Fr} (h:chk f=0):form f=true∧f.data.length≤65536:=by
 unfold chk at h
 by_cases h1:form f=false
 ·rw [if_pos h1] at h;cases h
 ·rw [if_neg h1] at h
  by_cases h2:65536<f.data.length
  ·rw [if_pos h2] at h;cases h
  ·exact ⟨by simpa using h1,by omega⟩
end FramePlain
namespace ClosePlain
open UtfPlain
def lets (l:List Nat):Bool:=decide (uend s0 l=some s0)
def valid (n:Int):Bool:=(decide (1000≤n)&&decide (n≤1003))||((decide (1007≤n)&&decide (n≤1011))||(decide (3000≤n)&&decide (n≤4999)))
theorem valid_iff (n:Int):valid n=true↔(1000≤n∧n≤1003)∨(1007≤n∧n≤1011)∨(3000≤n∧n≤4999):=by
 simp [valid]
theorem valid_pos {n:Int} (h:valid n=true):1000≤n∧n≤4999:=by
 have:=(valid_iff n).1 h;omega
def two (n:Nat):List Nat:=[n / 256,n % 256]
theorem two_small {n:Nat} (h:n<65536):∀ x∈two n,x<256:=fun x hx=>by
 simp only [two,List.mem_cons,List.not_mem_nil,or_false] at hx
 rcases hx with rfl | rfl<;>omega
def putC (n:Int) (l:List Nat):List Nat×Nat :=
 if n=0∧l=[] then ([],0)
 else if valid n=false∨123<l.length then ([],110)
 else if lets l=false then ([],111)
 else (two n.toNat++l,0)
def getC:List Nat→Int×List Nat×Nat
 | []=>(1005,[],0)
 | [_]=>(0,[],110)
 | x :: y :: l=>if 123<l.length∨valid ((256*x+y:Nat):Int)=false then (0,[],110) else if lets l=false then (0,[],111) else (((256*x+y:Nat):Int),l,0)
theorem getC_two (x y:Nat) (l:List Nat):getC (x :: y :: l)=if 123<l.length∨valid ((256*x+y:Nat):Int)=false then (0,[],110) else if lets l=false then (0,[],111) else (((256*x+y:Nat):Int),l,0):=rfl
def codeC (e:Int):Int:=if e=0 then 1000 else if e=91∨e=100∨e=110∨e=120 then 1002 else if e=111∨e=122 then 1007 else if e=92∨e=121 then 1009 else 1011
def acrossC (n:Int):Int:=if n=1005 then 0 else if valid n=true then n else 1011
theorem put_ok {n:Int} {l s:List Nat} (h:putC n l=(s,0)):(n=0∧l=[]∧s=[])∨(valid n=true∧l.length≤123∧lets l=true∧s=two n.toNat++l):=by
 unfold putC at h
 by_cases h1:n=0∧l=[]
 ·rw [if_pos h1] at h;injection h with h _;exact .inl ⟨h1.1,h1.2,h.symm⟩
 rw [if_neg h1] at h
 by_cases h2:valid n=false∨123<l.length
 ·rw [if_pos h2] at h;injection h with _ h;cases h
 rw [if_neg h2] at h
 by_cases h3:lets l=false
 ·rw [if_pos h3] at h;injection h with _ h;cases h
 rw [if_neg h3] at h
 injection h with h _
 exact .inr ⟨by by_cases hv:valid n=true;exact hv;exact absurd (.inl (by simpa using hv)) h2,by omega,by simpa using h3,h.symm⟩
theorem put_yes {n:Int} {l:List Nat} (h1:valid n=true) (h2:l.length≤123) (h3:lets l=true):putC n l=(two n.toNat++l,0):=by
 have:=valid_pos h1
 unfold putC
 rw [if_neg (by omega),if_neg (by rw [h1];intro h;rcases h with h | h;cases h;omega),if_neg (by rw [h3];decide)]
theorem put_err {n:Int} {l s:List Nat} {e:Nat} (h:putC n l=(s,e)) (he:e≠0):s=[]∧(e=110∨e=111):=by
 unfold putC at h
 split at h
 ·injection h with _ h;exact absurd h.symm he
 split at h
 ·injection h with h h';exact ⟨h.symm,.inl h'.symm⟩
 split at h
 ·injection h with h h';exact ⟨h.symm,.inr h'.symm⟩
 ·injection h with _ h;exact absurd h.symm he
theorem get_put {n:Int} {l s:List Nat} (hs:∀ y∈s,y<256) (h:getC s=(n,l,0)):putC (acrossC n) l=(s,0):=by
 match s,h with
 | [],h =>
   injection h with h1 h2
   injection h2 with h2 _
   subst h1 h2
   rfl
 | [_],h=>injection h with _ h;injection h with _ h;cases h
 | x :: y :: r,h =>
   rw [getC_two] at h
   by_cases h1:123<r.length∨valid ((256*x+y:Nat):Int)=false
   ·rw [if_pos h1] at h;injection h with _ h;injection h with _ h;cases h
   rw [if_neg h1] at h
   by_cases h2:lets r=false
   ·rw [if_pos h2] at h;injection h with _ h;injection h with _ h;cases h
   rw [if_neg h2] at h
   injection h with h3 h
   injection h with h4 _
   subst h4
   have hv:valid n=true:=by rw [← h3];by_cases hv:valid ((256*x+y:Nat):Int)=true;exact hv;exact absurd (.inr (by simpa using hv)) h1
   have hy:y<256:=hs y (by simp)
   have hp:=valid_pos hv
   have ha:acrossC n=n:=by
    unfold acrossC
    rw [if_neg (fun e=>by rw [e] at hv;exact absurd hv (by decide)),if_pos hv]
   have e:n.toNat=256*x+y:=by omega
   rw [ha,put_yes hv (by omega) (by simpa using h2),e]
   show ((256*x+y) / 256 :: (256*x+y) % 256 :: r,0)=_
   rw [show (256*x+y) / 256=x by omega,show (256*x+y) % 256=y by omega]
theorem get_err {s:List Nat} {n:Int} {l:List Nat} {e:Nat} (h:getC s=(n,l,e)) (he:e≠0):n=0∧l=[]∧(e=110∨e=111):=by
 match s,h with
 | [],h=>injection h with _ h;injection h with _ h;exact absurd h.symm he
 | [_],h=>injection h with h1 h;injection h with h2 h;exact ⟨h1.symm,h2.symm,.inl h.symm⟩
 | x :: y :: r,h =>
   rw [getC_two] at h
   split at h
   ·injection h with h1 h;injection h with h2 h;exact ⟨h1.symm,h2.symm,.inl h.symm⟩
   split at h
   ·injection h with h1 h;injection h with h2 h;exact ⟨h1.symm,h2.symm,.inr h.symm⟩
   ·injection h with _ h;injection h with _ h;exact absurd h.symm he
theorem put_sizes {n:Int} {l s:List Nat} (h:putC n l=(s,0)):s.length≤125∧((n=0∧s=[])∨(s.length=2+l.length∧s.drop 2=l)):=by
 rcases put_ok h with ⟨rfl,rfl,rfl⟩ | ⟨h1,h2,_,rfl⟩
 ·exact ⟨by simp,.inl ⟨rfl,rfl⟩⟩
 ·refine ⟨by simp [two];omega,.inr ⟨by simp [two];omega,rfl⟩⟩
theorem put_small {n:Int} {l s:List Nat} {e:Nat} (hl:∀ y∈l,y<256) (h:putC n l=(s,e)):∀ y∈s,y<256:=by
 by_cases he:e=0
 ·subst he
  rcases put_ok h with ⟨_,_,rfl⟩ | ⟨h1,_,_,rfl⟩
  ·intro y hy;cases hy
  ·intro y hy
   have:=valid_pos h1
   rcases List.mem_append.1 hy with hy | hy
   ·exact two_small (by omega) y hy
   ·exact hl y hy
 ·rw [(put_err h he).1];intro y hy;cases hy
theorem code_valid (e:Int):valid (codeC e)=true:=by
 unfold codeC
 split
 ·rfl
 split
 ·rfl
 split
 ·rfl
 split<;>rfl
theorem across_valid (n:Int):acrossC n=0∨valid (acrossC n)=true:=by
 unfold acrossC
 split
 ·exact .inl rfl
 split
 ·rename_i h;exact .inr h
 ·exact .inr rfl
end ClosePlain
namespace MsgPlain
open FramePlain (Fr form ctl zero4 form_cases form_of)
open ClosePlain (getC get_err)
open UtfPlain (s0 uright uend ustep uend_iff uright_le)
structure Ev where
 op:Int
 code:Int
 data:List Nat
deriving DecidableEq
structure Ms where
 err:Nat
 over:Bool
 begun:Bool
 op:Int
 text:List Nat
deriving DecidableEq
def M0:Ms:=⟨0,false,false,0,[]⟩
def bad (e:Nat):Ms:=⟨e,false,false,0,[]⟩
def done:Ms:=⟨0,true,false,0,[]⟩
def okT (op:Int) (fin:Bool) (t:List Nat):Bool:=!(decide (op=1)&&(decide (uright s0 t<t.length)||(fin&&!ClosePlain.lets t)))
def more (most:Int) (fin:Bool) (op:Int) (t:List Nat):Ms×Option Ev :=
 if most<(t.length:Int) then (bad 121,none)
 else if okT op fin t=false then (bad 122,none)
 else if fin=true then (M0,some ⟨op,0,t⟩) else (⟨0,false,true,op,t⟩,none)
def step (most:Int) (st:Ms) (f:Fr):Ms×Option Ev :=
 if form f=false then (bad 120,none)
 else if f.op=9∨f.op=10 then (st,some ⟨f.op,0,f.data⟩)
 else if f.op=8 then
  if (getC f.data).2.2=0 then (done,some ⟨8,(getC f.data).1,(getC f.data).2.1⟩) else (bad (getC f.data).2.2,none)
 else if decide (f.op=0)≠st.begun then (bad 120,none)
 else more most f.fin (if st.begun then st.op else f.op) (st.text++f.data)
def take (most:Int) (st:Ms) (f:Fr):Ms×Option Ev:=if st.err≠0∨st.over=true then (st,none) else step most st f
def run (most:Int) (st:Ms):List Fr→Ms×List Ev
 | []=>(st,[])
 | f :: l=>((run most (take most st f).1 l).1,(take most st f).2.toList++(run most (take most st f).1 l).2)
theorem run_cons (most:Int) (st:Ms) (f:Fr) (l:List Fr):run most st (f :: l)=((run most (take most st f).1 l).1,(take most st f).2.toList++(run most (take most st f).1 l).2):=rfl
theorem run_append (most:Int):∀ (a b:List Fr) (st:Ms),run most st (a++b)=((run most (run most st a).1 b).1,(run most st a).2++(run most (run most st a).1 b).2)
 | [],b,st=>by simp [run]
 | f :: a,b,st=>by rw [List.cons_append,run_cons,run_cons,run_append most a b,List.append_assoc]
theorem run_one (most:Int) (st:Ms) (f:Fr):run most st [f]=((take most st f).1,(take most st f).2.toList):=by simp [run]
structure Fit (most:Int) (st:Ms):Prop where
 err:st.err≠0→st=bad st.err
 over:st.over=true→st=done
 idle:st.begun=false→st.text=[]∧st.op=0
 op:st.begun=true→st.op=1∨st.op=2
 most:(st.text.length:Int)≤most
 small:∀ y∈st.text,y<256
 right:st.op=1→uright s0 st.text=st.text.length
theorem fit0 {most:Int} (h:0≤most):Fit most M0:=⟨fun h=>absurd rfl h,fun h=>(by cases h),fun _=>⟨rfl,rfl⟩,fun h=>(by cases h),h,fun _ hy=>(by cases hy),fun h=>(by cases h)⟩
theorem fit_bad {most:Int} (h:0≤most) (e:Nat):Fit most (bad e):=⟨fun _=>rfl,fun h=>(by cases h),fun _=>⟨rfl,rfl⟩,fun h=>(by cases h),h,fun _ hy=>(by cases hy),fun h=>(by cases h)⟩
theorem fit_done {most:Int} (h:0≤most):Fit most done:=⟨fun h=>absurd rfl h,fun _=>rfl,fun _=>⟨rfl,rfl⟩,fun h=>(by cases h),h,fun _ hy=>(by cases hy),fun h=>(by cases h)⟩
theorem okT_right {op:Int} {fin:Bool} {t:List Nat} (h:okT op fin t=true) (h1:op=1):uright s0 t=t.length:=by
 unfold okT at h
 rw [decide_eq_true h1,Bool.true_and,Bool.not_eq_true',Bool.or_eq_false_iff,decide_eq_false_iff_not] at h
 have:=uright_le t s0
 omega
theorem fit_more {most:Int} (h:0≤most) {fin:Bool} {op:Int} {t:List Nat} (ho:op=1∨op=2) (hs:∀ y∈t,y<256):Fit most (more most fin op t).1:=by
 unfold more
 split
 ·exact fit_bad h _
 split
 ·exact fit_bad h _
 split
 ·exact fit0 h
 ·rename_i h1 h2 _
  exact ⟨fun h=>absurd rfl h,fun h=>(by cases h),fun h=>(by cases h),fun _=>ho,by show ((t.length:Nat):Int)≤most;omega,hs,fun h=>okT_right (by simpa using h2) h⟩
theorem fit_take {most:Int} (h:0≤most) {st:Ms} {f:Fr} (hf:Fit most st) (hs:∀ y∈f.data,y<256):Fit most (take most st f).1:=by
 unfold take
 split
 ·exact hf
 unfold step
 split
 ·exact fit_bad h _
 rename_i hform
 split
 ·exact hf
 split
 ·split
  ·exact fit_done h
  ·exact fit_bad h _
 split
 ·exact fit_bad h _
 rename_i h1 h2 h3
 refine fit_more h ?_ (fun y hy=>?_)
 ·split
  ·rename_i hb;exact hf.op hb
  ·rename_i hb
   have hb':st.begun=false:=by simpa using hb
   rw [hb'] at h3
   have h0:f.op≠0:=fun e=>h3 (by rw [e];simp)
   have:=(form_cases (f:=f) (by simpa using hform)).1
   omega
 ·rcases List.mem_append.1 hy with hy | hy
  ·exact hf.small y hy
  ·exact hs y hy
theorem fit_run {most:Int} (h:0≤most):∀ (l:List Fr) {st:Ms},Fit most st→(∀ f∈l,∀ y∈f.data,y<256)→Fit most (run most st l).1
 | [],_,hf,_=>hf
 | f :: l,st,hf,hs=>fit_run h l (fit_take h hf (hs f (by simp))) (fun g hg=>hs g (by simp [hg]))
theorem take_stop (most:Int) {st:Ms} (h:st.err≠0∨st.over=true) (f:Fr):take most st f=(st,none):=if_pos h
theorem run_stop (most:Int) {st:Ms} (h:st.err≠0∨st.over=true):∀ l,run most st l=(st,[])
 | []=>rfl
 | f :: l=>by
   rw [run_cons,take_stop most h,run_stop most h l]
   rfl
theorem take_go (most:Int) {st:Ms} (h1:st.err=0) (h2:st.over=false) (f:Fr):take most st f=step most st f:=if_neg (by rw [h1,h2];simp)
theorem step_err {most:Int} {st:Ms} {f:Fr} (h0:st.err=0) (h:(step most st f).2≠none):(step most st f).1.err=0:=by
 unfold step at h ⊢
 by_cases a1:form f=false
 ·rw [if_pos a1] at h;exact absurd rfl h
 rw [if_neg a1] at h ⊢
 by_cases a2:f.op=9∨f.op=10
 ·rw [if_pos a2];exact h0
 rw [if_neg a2] at h ⊢
 by_cases a3:f.op=8
 ·rw [if_pos a3] at h ⊢
  by_cases a4:(getC f.data).2.2=0
  ·rw [if_pos a4];rfl
  ·rw [if_neg a4] at h;exact absurd rfl h
 rw [if_neg a3] at h ⊢
 by_cases a4:decide (f.op=0)≠st.begun
 ·rw [if_pos a4] at h;exact absurd rfl h
 rw [if_neg a4] at h ⊢
 unfold more at h ⊢
 by_cases a5:most<((st.text++f.data).length:Int)
 ·rw [if_pos a5] at h;exact absurd rfl h
 rw [if_neg a5] at h ⊢
 by_cases a6:okT (if st.begun then st.op else f.op) f.fin (st.text++f.data)=false
 ·rw [if_pos a6] at h;exact absurd rfl h
 rw [if_neg a6] at h ⊢
 by_cases a7:f.fin=true
 ·rw [if_pos a7];rfl
 ·rw [if_neg a7] at h;exact absurd rfl h
theorem step_ping (most:Int) (st:Ms) {op:Int} (ho:op=9∨op=10) (k:List Nat) (m:Bool) {d:List Nat} (hd:d.length≤125) (hk:m=true∨k=zero4):step most st ⟨true,op,m,k,d⟩=(st,some ⟨op,0,d⟩):=by
 unfold step
 rw [if_neg (by rw [form_of ⟨.inr ⟨by show 8≤op;omega,by show op≤10;omega,rfl,hd⟩,hk⟩];decide),if_pos ho]
theorem more_err (most:Int) (fin:Bool) (op:Int) (t:List Nat):(more most fin op t).1.err=0∨((more most fin op t).2=none∧((more most fin op t).1=bad 121∨(more most fin op t).1=bad 122)):=by
 unfold more
 split
 ·exact .inr ⟨rfl,.inl rfl⟩
 split
 ·exact .inr ⟨rfl,.inr rfl⟩
 split
 ·exact .inl rfl
 ·exact .inl rfl
end MsgPlain
namespace CutPlain
open FramePlain (Fr Fr0 form ctl zero4 form_of)
open MsgPlain
open UtfPlain (s0 uright)
def frsN:Nat→Nat→Int→List Nat→List Fr
 | 0,_,op,t=>[⟨true,op,false,zero4,t⟩]
 | n+1,most,op,t=>if t.length≤most then [⟨true,op,false,zero4,t⟩] else ⟨false,op,false,zero4,t.take most⟩ :: frsN n most 0 (t.drop most)
def frs (most:Nat) (op:Int) (t:List Nat):List Fr:=frsN t.length most op t
theorem frsN_more {most:Nat} (hm:1≤most):∀ (n k:Nat) (op:Int) (t:List Nat),t.length≤n→t.length≤k→frsN n most op t=frsN k most op t
 | 0,0,_,_,_,_=>rfl
 | 0,k+1,op,t,h,_=>by
   have:t=[]:=List.eq_nil_of_length_eq_zero (by omega)
   subst this
   simp [frsN]
 | n+1,0,op,t,_,h=>by
   have:t=[]:=List.eq_nil_of_length_eq_zero (by omega)
   subst this
   simp [frsN]
 | n+1,k+1,op,t,h1,h2=>by
   simp only [frsN]
   by_cases h:t.length≤most
   ·rw [if_pos h,if_pos h]
   ·rw [if_neg h,if_neg h,frsN_more hm n k 0 (t.drop most) (by rw [List.length_drop];omega) (by rw [List.length_drop];omega)]
theorem frs_last {most:Nat} {op:Int} {t:List Nat} (h:t.length≤most):frs most op t=[⟨true,op,false,zero4,t⟩]:=by
 unfold frs
 cases ht:t.length with
 | zero=>rfl
 | succ n=>simp only [frsN];rw [if_pos h]
theorem frs_more {most:Nat} (hm:1≤most) {op:Int} {t:List Nat} (h:¬ t.length≤most):frs most op t=⟨false,op,false,zero4,t.take most⟩ :: frs most 0 (t.drop most):=by
 unfold frs
 match hl:t.length with
 | 0=>omega
 | n+1 =>
   simp only [frsN]
   rw [if_neg h,frsN_more hm n (t.drop most).length 0 (t.drop most) (by rw [List.length_drop];omega) (Nat.le_refl _)]
theorem frs_pos (most:Nat) (hm:1≤most) (op:Int) (t:List Nat):0<(frs most op t).length:=by
 by_cases h:t.length≤most
 ·rw [frs_last h];exact Nat.one_pos
 ·rw [frs_more hm h];simp
def cnt (size most:Nat):Nat:=if size=0 then 1 else (size+most-1) / most
theorem cnt_one {size most:Nat} (hm:1≤most) (h:size≤most):cnt size most=1:=by
 unfold cnt
 by_cases h0:size=0
 ·rw [if_pos h0]
 ·rw [if_neg h0]
  refine Nat.div_eq_of_lt_le ?_ ?_<;>omega
theorem cnt_more {size most:Nat} (hm:1≤most) (h:¬ size≤most):cnt size most=cnt (size-most) most+1:=by
 unfold cnt
 rw [if_neg (by omega),if_neg (by omega)]
 have e:size+most-1=size-most+most-1+most:=by omega
 rw [e,Nat.add_div_right _ (by omega)]
theorem frs_length {most:Nat} (hm:1≤most):∀ (n:Nat) (op:Int) (t:List Nat),t.length≤n→(frs most op t).length=cnt t.length most
 | n,op,t,hn=>by
   by_cases h:t.length≤most
   ·rw [frs_last h,cnt_one hm h];rfl
   ·match n,hn with
    | 0,hn=>omega
    | n+1,hn =>
      rw [frs_more hm h,List.length_cons,frs_length hm n 0 (t.drop most) (by rw [List.length_drop];omega),List.length_drop,cnt_more hm h]
theorem cnt_enough {size most:Nat} (hm:1≤most):1≤cnt size most∧size≤cnt size most*most∧(cnt size most=1∨(cnt size most-1)*most<size)∧cnt size most≤size+1:=by
 unfold cnt
 by_cases h:size=0
 ·rw [if_pos h];omega
 ·rw [if_neg h]
  have h1:=Nat.div_add_mod (size+most-1) most
  have h2:=Nat.mod_lt (size+most-1) (show 0<most by omega)
  generalize (size+most-1) / most=q at *
  have hc:most*q=q*most:=Nat.mul_comm _ _
  have hq:1≤q:=by
   rcases Nat.eq_zero_or_pos q with h0 | h0
   ·subst h0;simp at h1;omega
   ·exact h0
  have hs:(q-1)*most=q*most-most:=by rw [Nat.sub_mul,Nat.one_mul]
  have hqm:q≤q*most:=Nat.le_mul_of_pos_right q hm
  refine ⟨hq,by omega,.inr (by omega),?_⟩
  have:q-1≤(q-1)*most:=Nat.le_mul_of_pos_right (q-1) hm
  omega
theorem frs_get {most:Nat} (hm:1≤most):∀ (i:Nat) (op:Int) (t:List Nat),i<(frs most op t).length →
 (frs most op t).getD i Fr0=⟨decide (i+1=(frs most op t).length),if i=0 then op else 0,false,zero4,(t.drop (i*most)).take most⟩
 | i,op,t,hi=>by
   by_cases h:t.length≤most
   ·rw [frs_last h] at hi ⊢
    obtain rfl:i=0:=by simpa using hi
    simp [List.take_of_length_le h]
   ·rw [frs_more hm h] at hi ⊢
    have hp:=frs_pos most hm 0 (t.drop most)
    match i,hi with
    | 0,_ =>
      rw [List.getD_cons_zero,if_pos rfl,Nat.zero_mul,List.drop_zero,decide_eq_false (by rw [List.length_cons];omega)]
    | i+1,hi =>
      have hi':i<(frs most 0 (t.drop most)).length:=by simpa using hi
      have hg:=frs_get hm i 0 (t.drop most) hi'
      rw [List.getD_cons_succ,hg]
      simp only [List.length_cons,List.drop_drop,Nat.add_right_cancel_iff,ite_self,Nat.add_eq_zero_iff,Nat.one_ne_zero,and_false,if_false]
      congr 3
      rw [Nat.succ_mul];omega
def dataOf (l:List Fr):List Nat:=l.flatMap Fr.data
def okJ:Bool→List Fr→Bool
 | _,[]=>false
 | first,[f]=>f.fin&&(if first then decide (f.op=1∨f.op=2) else decide (f.op=0))
 | first,f :: g :: l=>!f.fin&&(if first then decide (f.op=1∨f.op=2) else decide (f.op=0))&&okJ false (g :: l)
def join (l:List Fr):Int×List Nat×Bool:=if okJ true l then ((l.getD 0 Fr0).op,dataOf l,true) else (0,[],false)
end CutPlain
namespace StreamPlain
open MaskPlain FramePlain
def one (s:List Nat) (masked:Bool) (most:Int):Fr×Nat×Nat :=
 match s with
 | []=>(Fr0,0,90)
 | x :: xs =>
   if bad x then (Fr0,0,91)
   else if 0<xs.length∧decide (128≤xs.getD 0 0)≠masked then (Fr0,0,100)
   else getF (x :: xs) most
theorem one_cons (x:Nat) (xs:List Nat) (masked:Bool) (most:Int):one (x :: xs) masked most=if bad x then (Fr0,0,91) else if 0<xs.length∧decide (128≤xs.getD 0 0)≠masked then (Fr0,0,100) else getF (x :: xs) most:=rfl
theorem get_cons (x:Nat) (xs:List Nat) (most:Int):getF (x :: xs) most=if bad x then (Fr0,0,91)
 else if 0<xs.length∧8≤x % 16∧125<xs.getD 0 0 % 128 then (Fr0,0,91)
 else if (getL xs).2.2=81 then (Fr0,0,91)
 else if (getL xs).2.2=80 then (Fr0,0,90)
 else if most<((getL xs).1:Int) then (Fr0,0,92)
 else rest x (xs.getD 0 0) (getL xs).1 (getL xs).2.1 (xs.drop (getL xs).2.1):=rfl
theorem get_first (x:Nat) (most:Int):(getF [x] most).2.2=if bad x then 91 else 90:=by
 rw [get_cons]
 by_cases h:bad x=true
 ·rw [if_pos h,if_pos h]
 ·rw [if_neg h,if_neg h];rfl
theorem one_on {a:List Nat} (b:List Nat) (masked:Bool) (most:Int) (h:(one a masked most).2.2≠90):one (a++b) masked most=one a masked most:=by
 cases a with
 | nil=>exact absurd rfl h
 | cons x xs =>
   rw [List.cons_append,one_cons,one_cons]
   rw [one_cons] at h
   by_cases h1:bad x=true
   ·rw [if_pos h1,if_pos h1]
   rw [if_neg h1] at h ⊢
   rw [if_neg h1]
   by_cases h2:0<xs.length∧decide (128≤xs.getD 0 0)≠masked
   ·have hg:(xs++b).getD 0 0=xs.getD 0 0:=by
     rw [List.getD_eq_getElem?_getD,List.getElem?_append_left h2.1,← List.getD_eq_getElem?_getD]
    rw [if_pos h2,if_pos ⟨by rw [List.length_append];omega,by rw [hg];exact h2.2⟩]
   ·rw [if_neg h2] at h ⊢
    cases xs with
    | nil =>
      rw [get_first,if_neg h1] at h
      exact absurd rfl h
    | cons y ys =>
      have h3:¬ (0<(y :: ys++b).length∧decide (128≤(y :: ys++b).getD 0 0)≠masked):=fun hh=>h2 ⟨by simp,hh.2⟩
      rw [if_neg h3,← List.cons_append]
      exact get_on b most h
theorem one_err (a:List Nat) (masked:Bool) (most:Int):(one a masked most).2.2=0∨(∃ e,one a masked most=(Fr0,0,e)∧(e=90∨e=91∨e=92∨e=100)):=by
 cases a with
 | nil=>exact .inr ⟨90,rfl,.inl rfl⟩
 | cons x xs =>
   rw [one_cons]
   by_cases h1:bad x=true
   ·rw [if_pos h1];exact .inr ⟨91,rfl,by omega⟩
   rw [if_neg h1]
   by_cases h2:0<xs.length∧decide (128≤xs.getD 0 0)≠masked
   ·rw [if_pos h2];exact .inr ⟨100,rfl,by omega⟩
   ·rw [if_neg h2]
    rcases get_err (x :: xs) most with h | ⟨e,h,he⟩
    ·exact .inl h
    ·exact .inr ⟨e,h,by omega⟩
theorem one_ok {a:List Nat} {masked:Bool} {most:Int} {f:Fr} {n:Nat} (h:one a masked most=(f,n,0)):getF a most=(f,n,0)∧0<a.length:=by
 cases a with
 | nil=>injection h with _ h;injection h with _ h;cases h
 | cons x xs =>
   rw [one_cons] at h
   by_cases h1:bad x=true
   ·rw [if_pos h1] at h;injection h with _ h;injection h with _ h;cases h
   rw [if_neg h1] at h
   by_cases h2:0<xs.length∧decide (128≤xs.getD 0 0)≠masked
   ·rw [if_pos h2] at h;injection h with _ h;injection h with _ h;cases h
   ·rw [if_neg h2] at h;exact ⟨h,by simp⟩
def allN:Nat→List Nat→Bool→Int→List Fr×Nat×Nat
 | 0,s,_,_=>([],0,s.length)
 | k+1,s,masked,most =>
   if (one s masked most).2.2=90 then ([],0,s.length)
   else if (one s masked most).2.2≠0 then ([],(one s masked most).2.2,0)
   else ((one s masked most).1 :: (allN k (s.drop (one s masked most).2.1) masked most).1,(allN k (s.drop (one s masked most).2.1) masked most).2)
theorem allN_succ (k:Nat) (s:List Nat) (masked:Bool) (most:Int):allN (k+1) s masked most =
 if (one s masked most).2.2=90 then ([],0,s.length)
 else if (one s masked most).2.2≠0 then ([],(one s masked most).2.2,0)
 else ((one s masked most).1 :: (allN k (s.drop (one s masked most).2.1) masked most).1,(allN k (s.drop (one s masked most).2.1) masked most).2):=rfl
def all (s:List Nat) (masked:Bool) (most:Int):List Fr×Nat×Nat:=allN s.length s masked most
theorem one_len {a:List Nat} {masked:Bool} {most:Int} (hs:∀ y∈a,y<256) (h:(one a masked most).2.2=0):2≤(one a masked most).2.1∧(one a masked most).2.1≤a.length:=by
 obtain ⟨⟨f,n,e⟩,ho⟩:∃ r,one a masked most=r:=⟨_,rfl⟩
 rw [ho] at h ⊢
 simp only at h
 subst h
 obtain ⟨_,_,h3,h4,_⟩:=get_ok hs (one_ok ho).1
 exact ⟨h4,h3⟩
theorem allN_more (masked:Bool) (most:Int):∀ (k:Nat) (s:List Nat),(∀ y∈s,y<256)→s.length≤k→allN (k+1) s masked most=allN k s masked most
 | 0,s,_,h=>by
   obtain rfl:s=[]:=List.eq_nil_of_length_eq_zero (by omega)
   rfl
 | k+1,s,hs,h=>by
   have e1:=allN_succ (k+1) s masked most
   have e2:=allN_succ k s masked most
   rw [e1,e2]
   by_cases h1:(one s masked most).2.2=90
   ·rw [if_pos h1,if_pos h1]
   rw [if_neg h1,if_neg h1]
   by_cases h2:(one s masked most).2.2≠0
   ·rw [if_pos h2,if_pos h2]
   rw [if_neg h2,if_neg h2]
   have h3:=one_len hs (by omega:(one s masked most).2.2=0)
   have ih:=allN_more masked most k (s.drop (one s masked most).2.1) (fun y hy=>hs y (List.mem_of_mem_drop hy)) (by rw [List.length_drop];omega)
   rw [ih]
theorem allN_enough (masked:Bool) (most:Int) (s:List Nat) (hs:∀ y∈s,y<256):∀ k,s.length≤k→allN k s masked most=all s masked most:=by
 intro k hk
 obtain ⟨d,rfl⟩:∃ d,k=s.length+d:=⟨k-s.length,by omega⟩
 clear hk
 induction d with
 | zero=>rfl
 | succ d ih=>rw [← Nat.add_assoc,allN_more masked most _ s hs (by omega)];exact ih
theorem all_step (s:List Nat) (masked:Bool) (most:Int) (hs:∀ y∈s,y<256):all s masked most =
 if (one s masked most).2.2=90 then ([],0,s.length)
 else if (one s masked most).2.2≠0 then ([],(one s masked most).2.2,0)
 else ((one s masked most).1 :: (all (s.drop (one s masked most).2.1) masked most).1,(all (s.drop (one s masked most).2.1) masked most).2):=by
 rw [← allN_enough masked most s hs (s.length+1) (by omega),allN_succ]
 by_cases h1:(one s masked most).2.2=90
 ·rw [if_pos h1,if_pos h1]
 rw [if_neg h1,if_neg h1]
 by_cases h2:(one s masked most).2.2≠0
 ·rw [if_pos h2,if_pos h2]
 rw [if_neg h2,if_neg h2,allN_enough masked most _ (fun y hy=>hs y (List.mem_of_mem_drop hy)) _ (by rw [List.length_drop];omega)]
theorem all_left (masked:Bool) (most:Int):∀ (k:Nat) (s:List Nat),s.length≤k→(∀ y∈s,y<256)→(all s masked most).2.2≤s.length
 | 0,s,h,hs=>by
   obtain rfl:s=[]:=List.eq_nil_of_length_eq_zero (by omega)
   exact Nat.zero_le _
 | k+1,s,h,hs=>by
   rw [all_step s masked most hs]
   by_cases h1:(one s masked most).2.2=90
   ·rw [if_pos h1];exact Nat.le_refl _
   rw [if_neg h1]
   by_cases h2:(one s masked most).2.2≠0
   ·rw [if_pos h2];exact Nat.zero_le _
   rw [if_neg h2]
   have h3:=one_len hs (by omega:(one s masked most).2.2=0)
   have ih:=all_left masked most k (s.drop (one s masked most).2.1) (by rw [List.length_drop];omega) (fun y hy=>hs y (List.mem_of_mem_drop hy))
   rw [List.length_drop] at ih
   show (all (s.drop (one s masked most).2.1) masked most).2.2≤s.length
   omega
theorem all_append (masked:Bool) (most:Int) (b:List Nat) (hb:∀ y∈b,y<256):∀ (k:Nat) (a:List Nat),a.length≤k→(∀ y∈a,y<256)→all (a++b) masked most =
 if (all a masked most).2.1=0 then ((all a masked most).1++(all (a.drop (a.length-(all a masked most).2.2)++b) masked most).1,(all (a.drop (a.length-(all a masked most).2.2)++b) masked most).2) else all a masked most
 | 0,a,h,ha=>by
   obtain rfl:a=[]:=List.eq_nil_of_length_eq_zero (by omega)
   rfl
 | k+1,a,h,ha=>by
   have hab:∀ y∈a++b,y<256:=fun y hy=>by rcases List.mem_append.1 hy with hy | hy;exact ha y hy;exact hb y hy
   by_cases h1:(one a masked most).2.2=90
   ·have e:all a masked most=([],0,a.length):=by rw [all_step a masked most ha,if_pos h1]
    rw [e]
    simp
   ·have ho:=one_on b masked most h1
    by_cases h2:(one a masked most).2.2≠0
    ·have e:all a masked most=([],(one a masked most).2.2,0):=by rw [all_step a masked most ha,if_neg h1,if_pos h2]
     rw [e,if_neg h2,all_step _ masked most hab,ho,if_neg h1,if_pos h2]
    ·have h3:=one_len ha (by omega:(one a masked most).2.2=0)
     obtain ⟨n,hn⟩:∃ n,(one a masked most).2.1=n:=⟨_,rfl⟩
     have e:all a masked most=((one a masked most).1 :: (all (a.drop n) masked most).1,(all (a.drop n) masked most).2):=by rw [all_step a masked most ha,if_neg h1,if_neg h2,hn]
     have e2:all (a++b) masked most=((one a masked most).1 :: (all (a.drop n++b) masked most).1,(all (a.drop n++b) masked most).2):=by
      rw [all_step _ masked most hab,ho,if_neg h1,if_neg h2,hn,List.drop_append_of_le_length (by omega)]
     have ih:=all_append masked most b hb k (a.drop n) (by rw [List.length_drop];omega) (fun y hy=>ha y (List.mem_of_mem_drop hy))
     have hl:=all_left masked most (a.drop n).length (a.drop n) (Nat.le_refl _) (fun y hy=>ha y (List.mem_of_mem_drop hy))
     rw [List.length_drop] at hl
     rw [e2,ih,e]
     by_cases h4:(all (a.drop n) masked most).2.1=0
     ·rw [if_pos h4,if_pos h4]
      have h5:(a.drop n).drop ((a.drop n).length-(all (a.drop n) masked most).2.2)=a.drop (a.length-(all (a.drop n) masked most).2.2):=by
       rw [List.drop_drop,List.length_drop];congr 1;omega
      rw [h5];rfl
     ·rw [if_neg h4,if_neg h4]
theorem all_rest (masked:Bool) (most:Int):∀ (k:Nat) (s:List Nat),s.length≤k→(∀ y∈s,y<256)→(all s masked most).2.1=0→(one (s.drop (s.length-(all s masked most).2.2)) masked most).2.2=90
 | 0,s,h,hs,h0=>by
   obtain rfl:s=[]:=List.eq_nil_of_length_eq_zero (by omega)
   rfl
 | k+1,s,h,hs,h0=>by
   by_cases h1:(one s masked most).2.2=90
   ·rw [show all s masked most=([],0,s.length) by rw [all_step s masked most hs,if_pos h1]]
    simpa using h1
   by_cases h2:(one s masked most).2.2≠0
   ·rw [show all s masked most=([],(one s masked most).2.2,0) by rw [all_step s masked most hs,if_neg h1,if_pos h2]] at h0
    exact absurd h0 h2
   have h3:=one_len hs (by omega:(one s masked most).2.2=0)
   obtain ⟨n,hn⟩:∃ n,(one s masked most).2.1=n:=⟨_,rfl⟩
   rw [hn] at h3
   have e:all s masked most=((one s masked most).1 :: (all (s.drop n) masked most).1,(all (s.drop n) masked most).2):=by rw [all_step s masked most hs,if_neg h1,if_neg h2,hn]
   rw [e] at h0 ⊢
   have ih:=all_rest masked most k (s.drop n) (by rw [List.length_drop];omega) (fun y hy=>hs y (List.mem_of_mem_drop hy)) h0
   have hl:=all_left masked most (s.drop n).length (s.drop n) (Nat.le_refl _) (fun y hy=>hs y (List.mem_of_mem_drop hy))
   rw [List.length_drop] at hl
   rw [List.drop_drop,List.length_drop] at ih
   have h5:n+(s.length-n-(all (s.drop n) masked most).2.2)=s.length-(all (s.drop n) masked most).2.2:=by omega
   rw [h5] at ih
   exact ih
theorem one_text {f:Fr} {masked:Bool} {most:Int} (hf:form f=true) (hm:f.masked=masked) (hk:f.key.length=4) (hd:(f.data.length:Int)≤most) (hmo:most≤9223372036854775807) (more:List Nat):one (text f++more) masked most=(f,size f,0):=by
 have hn:f.data.length≤9223372036854775807:=by omega
 have hg:=get_text hf hn hk more most
 rw [if_neg (by omega)] at hg
 obtain ⟨b1,_⟩:=byte0_facts hf
 obtain ⟨l1,_⟩:=lenB_low hn
 have hpos:0<(lenB f.data.length).length:=by rw [lenB_length hn];split<;>(try split)<;>omega
 have ht:∃ y ys,text f=byte0 f :: y :: ys∧decide (128≤y)=f.masked:=by
  unfold text headB
  obtain ⟨L,hL⟩:∃ L,lenB f.data.length=L:=⟨_,rfl⟩
  rw [hL] at hpos l1 ⊢
  cases L with
  | nil=>cases hpos
  | cons y ys =>
    have hy:y<128:=l1
    by_cases h:f.masked=true
    ·rw [if_pos h,if_pos h]
     exact ⟨y+128,ys++f.key++turn f.key 0 f.data,by simp,by rw [h];exact decide_eq_true (by omega)⟩
    ·rw [if_neg h,if_neg h]
     exact ⟨y,ys++f.data,by simp,by rw [Bool.eq_false_iff.2 h];exact decide_eq_false (by omega)⟩
 obtain ⟨y,ys,e,hy⟩:=ht
 rw [e] at hg ⊢
 rw [List.cons_append] at hg ⊢
 rw [one_cons,if_neg (by rw [b1];decide),if_neg (fun hh=>hh.2 (by show decide (128≤y)=masked;rw [hy,hm]))]
 exact hg
end StreamPlain
namespace LegPlain
open FramePlain (Fr Fr0 form ctl zero4 text form_of form_cases)
open StreamPlain (one all all_append all_step one_text)
open MsgPlain (Ev Ms M0)
open CutPlain (frs)
structure Cf where
 out:Nat
 msg:Nat
 frm:Nat
 masked:Bool
structure Lg where
 gone:List Nat
 ring:List Nat
 tail:List Nat
 hist:List Fr
 ctl:List Fr
 rest:List Fr
 said:List (Int×List Nat)
 last:List Nat
 sent:Bool
 got:Bool
 wrong:Nat
 draw:Nat
 buf:List Nat
 serr:Nat
 ms:Ms
def L0 (draw:Nat):Lg:=⟨[],[],[],[],[],[],[],[],false,false,0,draw,[],0,M0⟩
def next (n:Nat):Nat:=(n*1664525+1013904223) % 4294967296
def keyB (n:Nat):List Nat:=[n / 16777216 % 256,n / 65536 % 256,n / 256 % 256,n % 256]
theorem keyB_length (n:Nat):(keyB n).length=4:=rfl
theorem keyB_small (n:Nat):∀ y∈keyB n,y<256:=fun y hy=>by
 simp only [keyB,List.mem_cons,List.not_mem_nil,or_false] at hy
 omega
def dress (c:Cf) (d:Nat) (f:Fr):Fr:=if c.masked then f else ⟨f.fin,f.op,true,keyB d,f.data⟩
def draws (c:Cf) (d:Nat):Nat:=if c.masked then d else next d
def fill (c:Cf) (l:Lg):Lg:={l with ring:=l.ring++l.tail.take (c.out-l.ring.length),tail:=l.tail.drop (c.out-l.ring.length)}
def put (c:Cf) (l:Lg) (f:Fr):Lg:={l with tail:=text (dress c (draws c l.draw) f),draw:=draws c l.draw,hist:=l.hist++[dress c (draws c l.draw) f]}
def mv (c:Cf):Nat→Lg→Lg
 | 0,l=>fill c l
 | n+1,l=>if (fill c l).tail≠[] then fill c l else
   match l.ctl,l.rest with
   | f :: cs,_=>mv c n (put c {fill c l with ctl:=cs} f)
   | [],f :: r=>mv c n (put c {fill c l with rest:=r} f)
   | [],[]=>fill c l
def move (c:Cf) (l:Lg):Lg:=mv c (l.ctl.length+l.rest.length) l
def core (f:Fr):Bool×Int×List Nat:=(f.fin,f.op,f.data)
theorem core_dress (c:Cf) (d:Nat) (f:Fr):core (dress c d f)=core f:=by unfold dress;split<;>rfl
def isD (f:Fr):Bool:=decide (f.op≤2)
theorem isD_dress (c:Cf) (d:Nat) (f:Fr):isD (dress c d f)=isD f:=by unfold dress;split<;>rfl
def dat (l:List Fr):List (Bool×Int×List Nat):=(l.filter isD).map core
def con (l:List Fr):List (Bool×Int×List Nat):=(l.filter (fun f=>!isD f)).map core
theorem dat_append (a b:List Fr):dat (a++b)=dat a++dat b:=by simp [dat]
theorem con_append (a b:List Fr):con (a++b)=con a++con b:=by simp [con]
theorem dat_one {f:Fr} (h:isD f=true):dat [f]=[core f]:=by simp [dat,h]
theorem dat_none {f:Fr} (h:isD f=false):dat [f]=[]:=by simp [dat,h]
theorem con_one {f:Fr} (h:isD f=false):con [f]=[core f]:=by simp [con,h]
theorem con_none {f:Fr} (h:isD f=true):con [f]=[]:=by simp [con,h]
structure IsC (f:Fr):Prop where
 fin:f.fin=true
 op:f.op=8∨f.op=9∨f.op=10
 masked:f.masked=false
 key:f.key=zero4
 len:f.data.length≤125
 small:∀ y∈f.data,y<256
structure IsR (most:Nat) (f:Fr):Prop where
 op:f.op=0∨f.op=1∨f.op=2
 masked:f.masked=false
 key:f.key=zero4
 len:f.data.length≤most
 small:∀ y∈f.data,y<256
structure IsO (c:Cf) (f:Fr):Prop where
 form:form f=true
 masked:f.masked=!c.masked
 key:f.key.length=4
 keys:∀ y∈f.key,y<256
 len:f.data.length≤max c.frm 125
 small:∀ y∈f.data,y<256
theorem IsC.isD {f:Fr} (h:IsC f):isD f=false:=by
 unfold LegPlain.isD
 rcases h.op with e | e | e<;>(rw [e];rfl)
theorem IsR.isD {most:Nat} {f:Fr} (h:IsR most f):isD f=true:=by
 unfold LegPlain.isD
 rcases h.op with e | e | e<;>(rw [e];rfl)
theorem zero4_small:∀ y∈zero4,y<256:=by decide
theorem IsC.out {c:Cf} {f:Fr} (h:IsC f) (d:Nat):IsO c (dress c d f):=by
 obtain ⟨h1,h2,h3,h4,h5,h6⟩:=h
 have ho:8≤f.op∧f.op≤10:=by rcases h2 with e | e | e<;>omega
 unfold dress
 by_cases hm:c.masked=true
 ·rw [if_pos hm]
  exact ⟨form_of ⟨.inr ⟨ho.1,ho.2,h1,h5⟩,.inr h4⟩,by rw [h3,hm];rfl,by rw [h4];rfl,by rw [h4];exact zero4_small,by omega,h6⟩
 ·rw [if_neg hm]
  exact ⟨form_of ⟨.inr ⟨ho.1,ho.2,h1,h5⟩,.inl rfl⟩,by simp only [Bool.not_eq_true] at hm;rw [hm];rfl,keyB_length d,keyB_small d,by show f.data.length≤_;omega,h6⟩
theorem IsR.out {c:Cf} {f:Fr} (h:IsR c.frm f) (d:Nat):IsO c (dress c d f):=by
 obtain ⟨h2,h3,h4,h5,h6⟩:=h
 have ho:0≤f.op∧f.op≤2:=by rcases h2 with e | e | e<;>omega
 unfold dress
 by_cases hm:c.masked=true
 ·rw [if_pos hm]
  exact ⟨form_of ⟨.inl ho,.inr h4⟩,by rw [h3,hm];rfl,by rw [h4];rfl,by rw [h4];exact zero4_small,by omega,h6⟩
 ·rw [if_neg hm]
  exact ⟨form_of ⟨.inl ho,.inl rfl⟩,by simp only [Bool.not_eq_true] at hm;rw [hm];rfl,keyB_length d,keyB_small d,by show f.data.length≤_;omega,h6⟩
structure Inv (c:Cf) (l:Lg):Prop where
 bytes:l.gone++l.ring++l.tail=l.hist.flatMap text
 hist:∀ f∈l.hist,IsO c f
 ctl:∀ f∈l.ctl,IsC f
 rest:∀ f∈l.rest,IsR c.frm f
 ring:l.ring.length≤c.out
structure Same (l m:Lg):Prop where
 dat:dat m.hist++dat m.rest=dat l.hist++dat l.rest
 con:con m.hist++con m.ctl=con l.hist++con l.ctl
 rest:∃ k,m.rest=l.rest.drop k
 gone:m.gone=l.gone
 said:m.said=l.said
 last:m.last=l.last
 sent:m.sent=l.sent
 got:m.got=l.got
 wrong:m.wrong=l.wrong
 buf:m.buf=l.buf
 serr:m.serr=l.serr
 ms:m.ms=l.ms
theorem Same.refl (l:Lg):Same l l:=⟨rfl,rfl,⟨0,rfl⟩,rfl,rfl,rfl,rfl,rfl,rfl,rfl,rfl,rfl⟩
theorem Same.trans {a b d:Lg} (h:Same a b) (k:Same b d):Same a d:=by
 obtain ⟨i,hi⟩:=h.rest
 obtain ⟨j,hj⟩:=k.rest
 exact ⟨k.dat.trans h.dat,k.con.trans h.con,⟨i+j,by rw [hj,hi,List.drop_drop]⟩,k.gone.trans h.gone,k.said.trans h.said,k.last.trans h.last,k.sent.trans h.sent,k.got.trans h.got,k.wrong.trans h.wrong,k.buf.trans h.buf,k.serr.trans h.serr,k.ms.trans h.ms⟩
theorem fill_inv {c:Cf} {l:Lg} (h:Inv c l):Inv c (fill c l) :=
 ⟨by show l.gone++(l.ring++l.tail.take _)++l.tail.drop _=_
     rw [List.append_assoc,List.append_assoc,List.take_append_drop,← List.append_assoc];exact h.bytes,h.hist,h.ctl,h.rest,by
  show (l.ring++l.tail.take _).length≤_
  rw [List.length_append,List.length_take]
  have:=h.ring
  omega⟩
theorem fill_same (c:Cf) (l:Lg):Same l (fill c l):=⟨rfl,rfl,⟨0,rfl⟩,rfl,rfl,rfl,rfl,rfl,rfl,rfl,rfl,rfl⟩
theorem mv_inv (c:Cf):∀ (n:Nat) (l:Lg),Inv c l→Inv c (mv c n l)∧Same l (mv c n l)
 | 0,l,h=>⟨fill_inv h,fill_same c l⟩
 | n+1,l,h=>by
   unfold mv
   by_cases ht:(fill c l).tail≠[]
   ·rw [if_pos ht];exact ⟨fill_inv h,fill_same c l⟩
   ·rw [if_neg ht]
    have hf:=fill_inv h
    have ht':(fill c l).tail=[]:=Classical.byContradiction ht
    have hb:=hf.bytes
    rw [ht',List.append_nil] at hb
    cases hc:l.ctl with
    | cons f cs =>
      have hfc:IsC f:=h.ctl f (by rw [hc];exact List.mem_cons_self)
      have i:=mv_inv c n (put c {fill c l with ctl:=cs} f) ⟨by
       show (fill c l).gone++(fill c l).ring++_=(l.hist++[_]).flatMap text
       rw [hb,List.flatMap_append];simp;rfl,fun g hg=>by
       rcases List.mem_append.1 hg with hg | hg
       ·exact h.hist g hg
       ·rw [List.mem_singleton] at hg;rw [hg];exact hfc.out _,fun g hg=>h.ctl g (by rw [hc];exact List.mem_cons_of_mem _ hg),h.rest,hf.ring⟩
      refine ⟨i.1,Same.trans ?_ i.2⟩
      refine ⟨?_,?_,⟨0,rfl⟩,rfl,rfl,rfl,rfl,rfl,rfl,rfl,rfl,rfl⟩
      ·show dat (l.hist++[_])++dat l.rest=_
       rw [dat_append,dat_none (by rw [isD_dress];exact hfc.isD),List.append_nil]
      ·show con (l.hist++[_])++con cs=con l.hist++con l.ctl
       rw [con_append,con_one (by rw [isD_dress];exact hfc.isD),core_dress,hc,show f :: cs=[f]++cs from rfl,con_append,con_one hfc.isD,List.append_assoc]
    | nil =>
      cases hr:l.rest with
      | cons f r =>
        have hfr:IsR c.frm f:=h.rest f (by rw [hr];exact List.mem_cons_self)
        have i:=mv_inv c n (put c {fill c l with rest:=r} f) ⟨by
         show (fill c l).gone++(fill c l).ring++_=(l.hist++[_]).flatMap text
         rw [hb,List.flatMap_append];simp;rfl,fun g hg=>by
         rcases List.mem_append.1 hg with hg | hg
         ·exact h.hist g hg
         ·rw [List.mem_singleton] at hg;rw [hg];exact hfr.out _,h.ctl,fun g hg=>h.rest g (by rw [hr];exact List.mem_cons_of_mem _ hg),hf.ring⟩
        refine ⟨i.1,Same.trans ?_ i.2⟩
        refine ⟨?_,?_,⟨1,by show r=l.rest.drop 1;rw [hr];rfl⟩,rfl,rfl,rfl,rfl,rfl,rfl,rfl,rfl,rfl⟩
        ·show dat (l.hist++[_])++dat r=dat l.hist++dat l.rest
         rw [dat_append,dat_one (by rw [isD_dress];exact hfr.isD),core_dress,hr,show f :: r=[f]++r from rfl,dat_append,dat_one hfr.isD,List.append_assoc]
        ·show con (l.hist++[_])++con l.ctl=_
         rw [con_append,con_none (by rw [isD_dress];exact hfr.isD),List.append_nil]
      | nil=>exact ⟨fill_inv h,fill_same c l⟩
theorem move_inv {c:Cf} {l:Lg} (h:Inv c l):Inv c (move c l)∧Same l (move c l):=mv_inv c _ l h
def Settled (c:Cf) (l:Lg):Prop:=(l.tail≠[]→l.ring.length=c.out)∧(l.tail=[]→l.ctl=[]∧l.rest=[])
theorem fill_full (c:Cf) (l:Lg) (h:l.ring.length≤c.out) (ht:(fill c l).tail≠[]):(fill c l).ring.length=c.out:=by
 have h1:(l.tail.drop (c.out-l.ring.length)).length≠0:=fun e=>ht (List.eq_nil_of_length_eq_zero e)
 rw [List.length_drop] at h1
 show (l.ring++l.tail.take _).length=_
 rw [List.length_append,List.length_take]
 omega
theorem mv_settled (c:Cf):∀ (n:Nat) (l:Lg),Inv c l→l.ctl.length+l.rest.length≤n→Settled c (mv c n l)
 | 0,l,h,hn=>by
   have h1:l.ctl=[]:=List.eq_nil_of_length_eq_zero (by omega)
   have h2:l.rest=[]:=List.eq_nil_of_length_eq_zero (by omega)
   exact ⟨fun ht=>fill_full c l h.ring ht,fun _=>⟨h1,h2⟩⟩
 | n+1,l,h,hn=>by
   unfold mv
   by_cases ht:(fill c l).tail≠[]
   ·rw [if_pos ht]
    exact ⟨fun _=>fill_full c l h.ring ht,fun e=>absurd e ht⟩
   ·rw [if_neg ht]
    have hf:=fill_inv h
    have ht':(fill c l).tail=[]:=Classical.byContradiction ht
    have hb:=hf.bytes
    rw [ht',List.append_nil] at hb
    cases hc:l.ctl with
    | cons f cs =>
      have hfc:IsC f:=h.ctl f (by rw [hc];exact List.mem_cons_self)
      refine mv_settled c n (put c {fill c l with ctl:=cs} f) ⟨by
       show (fill c l).gone++(fill c l).ring++_=(l.hist++[_]).flatMap text
       rw [hb,List.flatMap_append];simp;rfl,fun g hg=>by
       rcases List.mem_append.1 hg with hg | hg
       ·exact h.hist g hg
       ·rw [List.mem_singleton] at hg;rw [hg];exact hfc.out _,fun g hg=>h.ctl g (by rw [hc];exact List.mem_cons_of_mem _ hg),h.rest,hf.ring⟩ ?_
      rw [hc,List.length_cons] at hn
      show cs.length+l.rest.length≤n
      omega
    | nil =>
      cases hr:l.rest with
      | cons f r =>
        have hfr:IsR c.frm f:=h.rest f (by rw [hr];exact List.mem_cons_self)
        refine mv_settled c n (put c {fill c l with rest:=r} f) ⟨by
         show (fill c l).gone++(fill c l).ring++_=(l.hist++[_]).flatMap text
         rw [hb,List.flatMap_append];simp;rfl,fun g hg=>by
         rcases List.mem_append.1 hg with hg | hg
         ·exact h.hist g hg
         ·rw [List.mem_singleton] at hg;rw [hg];exact hfr.out _,h.ctl,fun g hg=>h.rest g (by rw [hr];exact List.mem_cons_of_mem _ hg),hf.ring⟩ ?_
        rw [hr,List.length_cons] at hn
        show l.ctl.length+r.length≤n
        rw [hc] at hn ⊢
        simp only [List.length_nil] at hn ⊢
        omega
      | nil =>
        refine ⟨fun e=>absurd ht' e,fun _=>⟨hc,hr⟩⟩
theorem move_settled {c:Cf} {l:Lg} (h:Inv c l):Settled c (move c l):=mv_settled c _ l h (Nat.le_refl _)
end LegPlain
namespace LegPlain
open FramePlain (Fr Fr0 form ctl zero4 text form_of form_cases)
open StreamPlain (one all all_append all_step one_text)
open MsgPlain (Ev Ms M0)
open CutPlain (frs)
open ClosePlain (putC getC codeC acrossC valid)
def free (l:Lg):Bool:=!l.sent&&!l.got&&decide (l.wrong=0)&&l.rest.isEmpty
def send (c:Cf) (l:Lg) (op:Int) (t:List Nat):Lg×Bool :=
 if free l=true∧(op=1∨op=2)∧t.length≤c.msg then (move c {l with rest:=frs c.frm op t,said:=l.said++[(op,t)]},true) else (l,false)
def ctlF (op:Int) (d:List Nat):Fr:=⟨true,op,false,zero4,d⟩
def control (c:Cf) (l:Lg) (op:Int) (d:List Nat):Lg:=move c {l with ctl:=l.ctl++[ctlF op d]}
def ping (c:Cf) (l:Lg) (d:List Nat):Lg×Bool:=if l.sent=true∨l.got=true∨l.wrong≠0∨125<d.length then (l,false) else (control c l 9 d,true)
def close (c:Cf) (l:Lg) (code:Int) (words:List Nat):Lg×Bool :=
 if l.sent=true∨(putC code words).2≠0 then (l,false) else (control c {l with sent:=true,rest:=[],last:=(putC code words).1} 8 (putC code words).1,true)
def repl (d:List Nat):List Fr→List Fr
 | []=>[]
 | f :: l=>if f.op=10 then {f with data:=d} :: l else f :: repl d l
def pong (c:Cf) (l:Lg) (d:List Nat):Lg :=
 if l.sent=true then l else if l.ctl.any (fun f=>decide (f.op=10))=true then move c {l with ctl:=repl d l.ctl} else control c l 10 d
def fail (c:Cf) (l:Lg) (e:Nat):Lg:=(close c {l with wrong:=e} (codeC (e:Int)) []).1
def react (c:Cf) (l:Lg) (x:Ev):Lg :=
 if x.op=9 then pong c l x.data else if x.op=8 then (close c {l with got:=true} (acrossC x.code) []).1 else l
def bound (c:Cf):Nat:=max c.msg 125
def came (c:Cf) (l:Lg) (b:List Nat):Lg :=
 {l with buf:=(if (all (l.buf++b) c.masked (bound c:Int)).2.1=0 then (l.buf++b).drop ((l.buf++b).length-(all (l.buf++b) c.masked (bound c:Int)).2.2) else []),serr:=(all (l.buf++b) c.masked (bound c:Int)).2.1,ms:=(MsgPlain.run (c.msg:Int) l.ms (all (l.buf++b) c.masked (bound c:Int)).1).1}
def evs (c:Cf) (l:Lg) (b:List Nat):List Ev:=(MsgPlain.run (c.msg:Int) l.ms (all (l.buf++b) c.masked (bound c:Int)).1).2
def errs (c:Cf) (l:Lg) (b:List Nat):Nat:=if (came c l b).ms.err≠0 then (came c l b).ms.err else if (came c l b).ms.over=true then 0 else (came c l b).serr
def feed (c:Cf) (l:Lg) (b:List Nat):Lg×List Ev :=
 if l.got=true∨l.wrong≠0 then (l,[]) else
  (if errs c l b≠0 then fail c ((evs c l b).foldl (react c) (came c l b)) (errs c l b) else (evs c l b).foldl (react c) (came c l b),(evs c l b).filter (fun x=>decide (x.op≠9)))
def takeN (c:Cf) (l:Lg) (n:Int):Lg×List Nat :=
 (move c {l with gone:=l.gone++l.ring.take n.toNat,ring:=l.ring.drop n.toNat},l.ring.take n.toNat)
def flat (c:Cf) (s:List (Int×List Nat)):List (Bool×Int×List Nat):=s.flatMap fun m=>(frs c.frm m.1 m.2).map core
def lastc (c:Cf) (s:List (Int×List Nat)):List (Bool×Int×List Nat):=match s.getLast? with
 | none=>[]
 | some m=>(frs c.frm m.1 m.2).map core
theorem flat_last (c:Cf) (s:List (Int×List Nat)):flat c s.dropLast++lastc c s=flat c s:=by
 rcases List.eq_nil_or_concat s with rfl | ⟨p,m,rfl⟩
 ·rfl
 ·unfold flat lastc
  rw [List.concat_eq_append,List.dropLast_concat,List.getLast?_append]
  simp
theorem lastc_snoc (c:Cf) (s:List (Int×List Nat)) (m:Int×List Nat):lastc c (s++[m])=(frs c.frm m.1 m.2).map core:=by unfold lastc;rw [List.getLast?_append];rfl
def NoE (l:List Fr):Prop:=∀ f∈l,f.op≠8
structure End (l:Lg):Prop where
 no:l.sent=false→NoE l.hist∧NoE l.ctl
 rest:l.sent=true→l.rest=[]
 yes:l.sent=true→(∃ p x,l.hist=p++[x]∧x.op=8∧x.data=l.last∧NoE p∧l.ctl=[])∨(∃ p x,l.ctl=p++[x]∧x.op=8∧x.data=l.last∧NoE p∧NoE l.hist)
theorem dress_op (c:Cf) (d:Nat) (f:Fr):(dress c d f).op=f.op∧(dress c d f).data=f.data∧(dress c d f).fin=f.fin:=by unfold dress;split<;>exact ⟨rfl,rfl,rfl⟩
theorem noe_snoc {l:List Fr} {f:Fr} (h:NoE l) (hf:f.op≠8):NoE (l++[f]):=fun g hg=>by
 rcases List.mem_append.1 hg with hg | hg
 ·exact h g hg
 ·rw [List.mem_singleton] at hg;rw [hg];exact hf
theorem mv_end (c:Cf):∀ (n:Nat) (l:Lg),(∀ f∈l.rest,IsR c.frm f)→End l→End (mv c n l)
 | 0,l,_,h=>⟨h.no,h.rest,h.yes⟩
 | n+1,l,hR,h=>by
   unfold mv
   by_cases ht:(fill c l).tail≠[]
   ·rw [if_pos ht];exact ⟨h.no,h.rest,h.yes⟩
   ·rw [if_neg ht]
    cases hc:l.ctl with
    | cons f cs =>
      refine mv_end c n _ hR ⟨fun hs=>?_,h.rest,fun hs=>?_⟩
      ·obtain ⟨h1,h2⟩:=h.no hs
       rw [hc] at h2
       exact ⟨noe_snoc h1 (by rw [(dress_op _ _ _).1];exact h2 f List.mem_cons_self),fun g hg=>h2 g (List.mem_cons_of_mem _ hg)⟩
      ·rcases h.yes hs with ⟨p,x,h1,h2,h3,h4,h5⟩ | ⟨p,x,h1,h2,h3,h4,h5⟩
       ·rw [hc] at h5;cases h5
       ·rw [hc] at h1
        cases p with
        | nil =>
          rw [List.nil_append] at h1
          injection h1 with e1 e2
          subst e1
          exact .inl ⟨l.hist,_,rfl,by rw [(dress_op _ _ _).1];exact h2,by rw [(dress_op _ _ _).2.1];exact h3,h5,e2⟩
        | cons g p =>
          rw [List.cons_append] at h1
          injection h1 with e1 e2
          subst e1
          exact .inr ⟨p,x,e2,h2,h3,fun g hg=>h4 g (List.mem_cons_of_mem _ hg),noe_snoc h5 (by rw [(dress_op _ _ _).1];exact h4 f List.mem_cons_self)⟩
    | nil =>
      cases hr:l.rest with
      | cons f r =>
        have hs:l.sent=false:=by
         cases hs:l.sent with
         | false=>rfl
         | true=>have:=h.rest hs;rw [hr] at this;cases this
        have hfr:IsR c.frm f:=hR f (by rw [hr];exact List.mem_cons_self)
        have hop:f.op≠8:=by rcases hfr.op with e | e | e<;>omega
        refine mv_end c n _ (fun g hg=>hR g (by rw [hr];exact List.mem_cons_of_mem _ hg)) ⟨fun _=>?_,fun hs'=>?_,fun hs'=>?_⟩
        ·obtain ⟨h1,h2⟩:=h.no hs
         exact ⟨noe_snoc h1 (by rw [(dress_op _ _ _).1];exact hop),h2⟩
        ·exact absurd (show l.sent=true from hs') (by rw [hs];decide)
        ·exact absurd (show l.sent=true from hs') (by rw [hs];decide)
      | nil=>exact ⟨h.no,h.rest,h.yes⟩
def Dat (c:Cf) (l:Lg):Prop:=∃ j,dat l.hist=flat c l.said.dropLast++(lastc c l.said).take j∧(l.sent=false→dat l.rest=(lastc c l.said).drop j)
theorem dat_rest {most:Nat} {l:List Fr} (h:∀ f∈l,IsR most f):dat l=l.map core:=by
 unfold dat
 rw [List.filter_eq_self.2 (fun f hf=>(h f hf).isD)]
theorem move_dat {c:Cf} {l:Lg} (hi:Inv c l) (he:End l) (h:Dat c l):Dat c (move c l):=by
 obtain ⟨hi2,hs⟩:=move_inv hi
 obtain ⟨j,h1,h2⟩:=h
 obtain ⟨k,hk⟩:=hs.rest
 unfold Dat
 rw [hs.said,hs.sent]
 cases hsn:l.sent with
 | true =>
   have hr:=he.rest hsn
   have hr2:(move c l).rest=[]:=by rw [hk,hr,List.drop_nil]
   refine ⟨j,?_,fun e=>(by cases e)⟩
   have hd:=hs.dat
   have hz:dat []=[]:=rfl
   rw [hr,hr2,hz,List.append_nil,List.append_nil] at hd
   rw [hd];exact h1
 | false =>
   have h2:=h2 hsn
   have hd:=hs.dat
   have e1:dat (move c l).rest=(lastc c l.said).drop (j+k):=by
    rw [hk,dat_rest (fun f hf=>hi.rest f (List.mem_of_mem_drop hf)),List.map_drop,← dat_rest hi.rest,h2,List.drop_drop]
   refine ⟨j+k,?_,fun _=>e1⟩
   rw [e1,h1,h2,List.append_assoc,List.take_append_drop] at hd
   have hx:flat c l.said.dropLast++lastc c l.said=(flat c l.said.dropLast++(lastc c l.said).take (j+k))++(lastc c l.said).drop (j+k):=by rw [List.append_assoc,List.take_append_drop]
   rw [hx] at hd
   exact List.append_cancel_right hd
structure Ok (c:Cf) (l:Lg):Prop where
 inv:Inv c l
 set:Settled c l
 fin:End l
 dats:Dat c l
 said:∀ m∈l.said,(m.1=1∨m.1=2)∧m.2.length≤c.msg∧∀ y∈m.2,y<256
theorem ok_move {c:Cf} {l:Lg} (hi:Inv c l) (he:End l) (hd:Dat c l) (hs:∀ m∈l.said,(m.1=1∨m.1=2)∧m.2.length≤c.msg∧∀ y∈m.2,y<256):Ok c (move c l) :=
 ⟨(move_inv hi).1,move_settled hi,mv_end c _ l hi.rest he,move_dat hi he hd,by rw [(move_inv hi).2.said];exact hs⟩
theorem ok_zero (c:Cf) (d:Nat):Ok c (L0 d) :=
 ⟨⟨rfl,fun f hf=>absurd hf List.not_mem_nil,fun f hf=>absurd hf List.not_mem_nil,fun f hf=>absurd hf List.not_mem_nil,Nat.zero_le _⟩,⟨fun h=>absurd rfl h,fun _=>⟨rfl,rfl⟩⟩,⟨fun _=>⟨fun f hf=>absurd hf List.not_mem_nil,fun f hf=>absurd hf List.not_mem_nil⟩,fun h=>(by cases h),fun h=>(by cases h)⟩,⟨0,rfl,fun _=>rfl⟩,fun m hm=>absurd hm List.not_mem_nil⟩
theorem ok_control {c:Cf} {l:Lg} (h:Ok c l) (hs:l.sent=false) (op:Int) (ho:op=9∨op=10) (d:List Nat) (hd:d.length≤125) (hsm:∀ y∈d,y<256):Ok c (control c l op d):=by
 refine ok_move (l:={l with ctl:=l.ctl++[ctlF op d]}) ⟨h.inv.bytes,h.inv.hist,fun f hf=>?_,h.inv.rest,h.inv.ring⟩ ⟨fun _=>⟨(h.fin.no hs).1,noe_snoc (h.fin.no hs).2 (by show op≠8;omega)⟩,fun e=>absurd (show l.sent=true from e) (by rw [hs];decide),fun e=>absurd (show l.sent=true from e) (by rw [hs];decide)⟩ h.dats h.said
 rcases List.mem_append.1 hf with hf | hf
 ·exact h.inv.ctl f hf
 ·rw [List.mem_singleton] at hf
  rw [hf]
  exact ⟨rfl,.inr ho,rfl,rfl,hd,hsm⟩
theorem ok_close {c:Cf} {l:Lg} (h:Ok c l) (code:Int) (words:List Nat) (hw:∀ y∈words,y<256):Ok c (close c l code words).1:=by
 unfold close
 by_cases hc:l.sent=true∨(putC code words).2≠0
 ·rw [if_pos hc];exact h
 ·rw [if_neg hc]
  have hs:l.sent=false:=by
   cases e:l.sent with
   | false=>rfl
   | true=>exact absurd (.inl e) hc
  have hp:(putC code words).2=0:=Classical.byContradiction fun e=>hc (.inr e)
  obtain ⟨s,hsd⟩:∃ s,(putC code words).1=s:=⟨_,rfl⟩
  have hpc:putC code words=(s,0):=by rw [← hsd,← hp]
  have hlen:=(ClosePlain.put_sizes hpc).1
  have hsm:=ClosePlain.put_small hw hpc
  rw [hsd]
  refine ok_move (l:={{l with sent:=true,rest:=[],last:=s} with ctl:=l.ctl++[ctlF 8 s]}) ⟨h.inv.bytes,h.inv.hist,fun f hf=>?_,fun f hf=>absurd hf List.not_mem_nil,h.inv.ring⟩ ⟨fun e=>(by cases e),fun _=>rfl,fun _=>.inr ⟨l.ctl,ctlF 8 s,rfl,rfl,rfl,(h.fin.no hs).2,(h.fin.no hs).1⟩⟩ ?_ h.said
  ·rcases List.mem_append.1 hf with hf | hf
   ·exact h.inv.ctl f hf
   ·rw [List.mem_singleton] at hf
    rw [hf]
    exact ⟨rfl,.inl rfl,rfl,rfl,hlen,hsm⟩
  ·obtain ⟨j,h1,_⟩:=h.dats
   exact ⟨j,h1,fun e=>(by cases e)⟩
theorem repl_mem {d:List Nat} : ∀ {l:List Fr} {f:Fr},f∈repl d l→(∃ g∈l,g.op=10∧f={g with data:=d})∨f∈l
 | g :: l,f,h=>by
   unfold repl at h
   by_cases hg:g.op=10
   ·rw [if_pos hg] at h
    rcases List.mem_cons.1 h with h | h
    ·exact .inl ⟨g,List.mem_cons_self,hg,h⟩
    ·exact .inr (List.mem_cons_of_mem _ h)
   ·rw [if_neg hg] at h
    rcases List.mem_cons.1 h with h | h
    ·rw [h];exact .inr List.mem_cons_self
    ·rcases repl_mem h with ⟨x,h1,h2,h3⟩ | h1
     ·exact .inl ⟨x,List.mem_cons_of_mem _ h1,h2,h3⟩
     ·exact .inr (List.mem_cons_of_mem _ h1)
theorem ok_pong {c:Cf} {l:Lg} (h:Ok c l) (d:List Nat) (hd:d.length≤125) (hsm:∀ y∈d,y<256):Ok c (pong c l d):=by
 unfold pong
 by_cases hs1:l.sent=true
 ·rw [if_pos hs1];exact h
 ·rw [if_neg hs1]
  have hs:l.sent=false:=by simpa using hs1
  by_cases hp:l.ctl.any (fun f=>decide (f.op=10))=true
  ·rw [if_pos hp]
   refine ok_move (l:={l with ctl:=repl d l.ctl}) ⟨h.inv.bytes,h.inv.hist,fun f hf=>?_,h.inv.rest,h.inv.ring⟩ ⟨fun _=>⟨(h.fin.no hs).1,fun f hf=>?_⟩,fun e=>absurd (show l.sent=true from e) (by rw [hs];decide),fun e=>absurd (show l.sent=true from e) (by rw [hs];decide)⟩ h.dats h.said
   ·rcases repl_mem hf with ⟨g,h1,h2,rfl⟩ | h1
    ·have:=h.inv.ctl g h1
     exact ⟨this.fin,.inr (.inr h2),this.masked,this.key,hd,hsm⟩
    ·exact h.inv.ctl f h1
   ·rcases repl_mem hf with ⟨g,h1,h2,rfl⟩ | h1
    ·show g.op≠8;omega
    ·exact (h.fin.no hs).2 f h1
  ·rw [if_neg hp]
   exact ok_control h hs 10 (.inr rfl) d hd hsm
theorem ok_ping {c:Cf} {l:Lg} (h:Ok c l) (d:List Nat) (hsm:∀ y∈d,y<256):Ok c (ping c l d).1:=by
 unfold ping
 by_cases hc:l.sent=true∨l.got=true∨l.wrong≠0∨125<d.length
 ·rw [if_pos hc];exact h
 ·rw [if_neg hc]
  have hs:l.sent=false:=by
   cases e:l.sent with
   | false=>rfl
   | true=>exact absurd (.inl e) hc
  exact ok_control h hs 9 (.inl rfl) d (by omega) hsm
theorem frs_isR {c:Cf} (hm:1≤c.frm) {op:Int} (ho:op=1∨op=2) (t:List Nat) (hs:∀ y∈t,y<256):∀ f∈frs c.frm op t,IsR c.frm f:=by
 have key:∀ (n:Nat) (op:Int) (t:List Nat),t.length≤n→(op=0∨op=1∨op=2)→(∀ y∈t,y<256)→∀ f∈frs c.frm op t,IsR c.frm f:=by
  intro n
  induction n with
  | zero =>
    intro op t hn ho hs f hf
    rw [CutPlain.frs_last (by omega),List.mem_singleton] at hf
    rw [hf]
    exact ⟨ho,rfl,rfl,by show t.length≤_;omega,hs⟩
  | succ n ih =>
    intro op t hn ho hs f hf
    by_cases h:t.length≤c.frm
    ·rw [CutPlain.frs_last h,List.mem_singleton] at hf
     rw [hf]
     exact ⟨ho,rfl,rfl,h,hs⟩
    ·rw [CutPlain.frs_more hm h] at hf
     rcases List.mem_cons.1 hf with hf | hf
     ·rw [hf]
      exact ⟨ho,rfl,rfl,by show (t.take c.frm).length≤_;rw [List.length_take];omega,fun y hy=>hs y (List.mem_of_mem_take hy)⟩
     ·exact ih 0 (t.drop c.frm) (by rw [List.length_drop];omega) (.inl rfl) (fun y hy=>hs y (List.mem_of_mem_drop hy)) f hf
 exact key t.length op t (Nat.le_refl _) (.inr ho) hs
theorem ok_send {c:Cf} (hm:1≤c.frm) {l:Lg} (h:Ok c l) (op:Int) (t:List Nat) (hsm:∀ y∈t,y<256):Ok c (send c l op t).1:=by
 unfold send
 by_cases hc:free l=true∧(op=1∨op=2)∧t.length≤c.msg
 ·rw [if_pos hc]
  obtain ⟨hf,ho,ht⟩:=hc
  unfold free at hf
  simp only [Bool.and_eq_true,Bool.not_eq_true',decide_eq_true_eq,List.isEmpty_iff] at hf
  obtain ⟨⟨⟨hs,_⟩,_⟩,hr⟩:=hf
  refine ok_move (l:={l with rest:=frs c.frm op t,said:=l.said++[(op,t)]}) ⟨h.inv.bytes,h.inv.hist,h.inv.ctl,frs_isR hm ho t hsm,h.inv.ring⟩ ⟨h.fin.no,fun e=>absurd (show l.sent=true from e) (by rw [hs];decide),fun e=>absurd (show l.sent=true from e) (by rw [hs];decide)⟩ ?_ (fun m hm2=>?_)
  ·obtain ⟨j,h1,h2⟩:=h.dats
   have h2:=h2 hs
   rw [hr] at h2
   have hz:(lastc c l.said).take j=lastc c l.said:=by
    have:=List.take_append_drop j (lastc c l.said)
    rw [← h2] at this
    simpa [dat] using this
   refine ⟨0,?_,fun _=>?_⟩
   ·show dat l.hist=flat c (l.said++[(op,t)]).dropLast++_
    rw [List.dropLast_concat,List.take_zero,List.append_nil,h1,hz,flat_last]
   ·show dat (frs c.frm op t)=(lastc c (l.said++[(op,t)])).drop 0
    rw [lastc_snoc,List.drop_zero,dat_rest (frs_isR hm ho t hsm)]
  ·rcases List.mem_append.1 hm2 with hm2 | hm2
   ·exact h.said m hm2
   ·rw [List.mem_singleton] at hm2
    rw [hm2]
    exact ⟨ho,ht,hsm⟩
 ·rw [if_neg hc];exact h
theorem ok_take {c:Cf} {l:Lg} (h:Ok c l) (n:Int):Ok c (takeN c l n).1:=by
 refine ok_move (l:={l with gone:=l.gone++l.ring.take n.toNat,ring:=l.ring.drop n.toNat}) ⟨?_,h.inv.hist,h.inv.ctl,h.inv.rest,?_⟩ ⟨h.fin.no,h.fin.rest,h.fin.yes⟩ h.dats h.said
 ·show l.gone++l.ring.take n.toNat++l.ring.drop n.toNat++l.tail=_
  rw [List.append_assoc l.gone,List.take_append_drop];exact h.inv.bytes
 ·show (l.ring.drop n.toNat).length≤_
  rw [List.length_drop];have:=h.inv.ring;omega
theorem ok_in {c:Cf} {l m:Lg} (h:Ok c l) (h1:m.gone=l.gone∧m.ring=l.ring∧m.tail=l.tail∧m.hist=l.hist∧m.ctl=l.ctl∧m.rest=l.rest∧m.said=l.said∧m.last=l.last∧m.sent=l.sent):Ok c m:=by
 obtain ⟨e1,e2,e3,e4,e5,e6,e7,e8,e9⟩:=h1
 obtain ⟨g,r,t,hi,ct,re,sa,la,se,x1,x2,x3,x4,x5,x6⟩:=m
 simp only at e1 e2 e3 e4 e5 e6 e7 e8 e9
 subst e1 e2 e3 e4 e5 e6 e7 e8 e9
 exact ⟨⟨h.inv.bytes,h.inv.hist,h.inv.ctl,h.inv.rest,h.inv.ring⟩,h.set,⟨h.fin.no,h.fin.rest,h.fin.yes⟩,h.dats,h.said⟩
end LegPlain
namespace LegPlain
open FramePlain (Fr Fr0 form ctl zero4 text headB lenB lenB_small lenB_low byte0_facts text_length)
open StreamPlain (one all all_append all_step one_text all_rest all_left)
open MsgPlain (Ev Ms M0 run run_append run_cons run_stop)
open ClosePlain (putC getC codeC acrossC valid)
theorem getD_small {l:List Nat} (h:∀ y∈l,y<256) (i:Nat):l.getD i 0<256:=by
 rw [List.getD_eq_getElem?_getD]
 cases hi:l[i]? with
 | none=>exact (by decide)
 | some y=>exact h y (List.mem_of_getElem? hi)
theorem text_bytes {f:Fr} (h1:form f=true) (hn:f.data.length≤9223372036854775807) (hk:∀ y∈f.key,y<256) (hd:∀ y∈f.data,y<256):∀ y∈text f,y<256:=by
 have hb:=(byte0_facts h1).2.2.2.1
 have hl:=lenB_small hn
 have hw:=(lenB_low hn).1
 unfold text headB
 by_cases hm:f.masked=true
 ·rw [if_pos hm,if_pos hm]
  intro x hx
  simp only [List.mem_append,List.mem_cons] at hx
  rcases hx with ((rfl | rfl | hx) | hx) | hx
  ·exact hb
  ·omega
  ·exact hl x (List.mem_of_mem_drop hx)
  ·exact hk x hx
  ·exact MaskPlain.turn_lt _ _ _ hd (getD_small hk) x hx
 ·rw [if_neg hm,if_neg hm]
  intro x hx
  simp only [List.mem_append,List.mem_cons] at hx
  rcases hx with (rfl | hx) | hx
  ·exact hb
  ·exact hl x hx
  ·exact hd x hx
theorem IsO.small' {c:Cf} {f:Fr} (h:IsO c f) (hf:c.frm≤65536):∀ y∈text f,y<256:=text_bytes h.form (by have:=h.len;omega) h.keys h.small
theorem all_out {c:Cf} (hf:c.frm≤65536):∀ (fs:List Fr),(∀ f∈fs,IsO c f)→all (fs.flatMap text) (!c.masked) 65536=(fs,0,0)∧∀ y∈fs.flatMap text,y<256
 | [],_=>⟨rfl,fun y hy=>absurd hy List.not_mem_nil⟩
 | f :: fs,h=>by
   have hf1:=h f List.mem_cons_self
   obtain ⟨i1,i2⟩:=all_out hf fs (fun g hg=>h g (List.mem_cons_of_mem _ hg))
   have hs:∀ y∈(f :: fs).flatMap text,y<256:=fun y hy=>by
    rw [List.flatMap_cons] at hy
    rcases List.mem_append.1 hy with hy | hy
    ·exact hf1.small' hf y hy
    ·exact i2 y hy
   have hl:=hf1.len
   have ho:=one_text (most:=65536) hf1.form hf1.masked hf1.key (by omega) (by decide) (fs.flatMap text)
   refine ⟨?_,hs⟩
   rw [all_step _ _ _ hs,List.flatMap_cons,ho,if_neg (show ¬ (0:Nat)=90 by decide),if_neg (show ¬ (0:Nat)≠0 by decide)]
   show (f :: (all ((text f++fs.flatMap text).drop (FramePlain.size f)) (!c.masked) 65536).1,_)=_
   rw [show (text f++fs.flatMap text).drop (FramePlain.size f)=fs.flatMap text from by
    rw [← text_length f (by omega) hf1.key,List.drop_left],i1]
def Quiet (l:Lg):Prop:=l.ring=[]∧l.tail=[]∧l.ctl=[]∧l.rest=[]
theorem quiet_of {c:Cf} {l:Lg} (h:Ok c l) (ho:1≤c.out) (hr:l.ring=[]):Quiet l:=by
 have ht:l.tail=[]:=Classical.byContradiction fun e=>by
  have:=h.set.1 e
  rw [hr] at this
  simp at this
  omega
 obtain ⟨h1,h2⟩:=h.set.2 ht
 exact ⟨hr,ht,h1,h2⟩
theorem said_all {c:Cf} {l:Lg} (hf:c.frm≤65536) (h:Ok c l) (hq:Quiet l):all l.gone (!c.masked) 65536=(l.hist,0,0):=by
 have hb:=h.inv.bytes
 rw [hq.1,hq.2.1,List.append_nil,List.append_nil] at hb
 rw [hb]
 exact (all_out hf l.hist h.inv.hist).1
theorem said_dat {c:Cf} {l:Lg} (h:Ok c l) (hq:Quiet l):(l.sent=false→dat l.hist=flat c l.said)∧∃ j,dat l.hist=flat c l.said.dropLast++(lastc c l.said).take j:=by
 obtain ⟨j,h1,h2⟩:=h.dats
 refine ⟨fun hs=>?_,j,h1⟩
 have h3:=h2 hs
 rw [hq.2.2.2] at h3
 have hz:(lastc c l.said).take j=lastc c l.said:=by
  have:=List.take_append_drop j (lastc c l.said)
  rw [← h3] at this
  simpa [dat] using this
 rw [h1,hz,flat_last]
theorem said_end {c:Cf} {l:Lg} (h:Ok c l) (hq:Quiet l):(l.sent=false→NoE l.hist)∧(l.sent=true→∃ p x,l.hist=p++[x]∧x.op=8∧x.data=l.last∧NoE p):=by
 refine ⟨fun hs=>(h.fin.no hs).1,fun hs=>?_⟩
 rcases h.fin.yes hs with ⟨p,x,h1,h2,h3,h4,_⟩ | ⟨p,x,h1,_⟩
 ·exact ⟨p,x,h1,h2,h3,h4⟩
 ·rw [hq.2.2.1] at h1;cases p<;>cases h1
structure Keep (l m:Lg):Prop where
 got:m.got=l.got
 wrong:m.wrong=l.wrong
 buf:m.buf=l.buf
 serr:m.serr=l.serr
 ms:m.ms=l.ms
theorem mv_keep (c:Cf):∀ (n:Nat) (l:Lg),Keep l (mv c n l)∧(mv c n l).sent=l.sent∧(mv c n l).said=l.said∧(mv c n l).last=l.last
 | 0,l=>⟨⟨rfl,rfl,rfl,rfl,rfl⟩,rfl,rfl,rfl⟩
 | n+1,l=>by
   unfold mv
   split
   ·exact ⟨⟨rfl,rfl,rfl,rfl,rfl⟩,rfl,rfl,rfl⟩
   ·split
    ·obtain ⟨k,h1,h2,h3⟩:=mv_keep c n (put c {fill c l with ctl:=_} _)
     exact ⟨⟨k.got,k.wrong,k.buf,k.serr,k.ms⟩,h1,h2,h3⟩
    ·obtain ⟨k,h1,h2,h3⟩:=mv_keep c n (put c {fill c l with rest:=_} _)
     exact ⟨⟨k.got,k.wrong,k.buf,k.serr,k.ms⟩,h1,h2,h3⟩
    ·exact ⟨⟨rfl,rfl,rfl,rfl,rfl⟩,rfl,rfl,rfl⟩
theorem control_keep (c:Cf) (l:Lg) (op:Int) (d:List Nat):Keep l (control c l op d)∧(control c l op d).sent=l.sent∧(control c l op d).last=l.last:=by
 obtain ⟨k,h1,_,h3⟩:=mv_keep c _ {l with ctl:=l.ctl++[ctlF op d]}
 exact ⟨⟨k.got,k.wrong,k.buf,k.serr,k.ms⟩,h1,h3⟩
theorem pong_keep (c:Cf) (l:Lg) (d:List Nat):Keep l (pong c l d)∧(pong c l d).sent=l.sent∧(pong c l d).last=l.last:=by
 unfold pong
 split
 ·exact ⟨⟨rfl,rfl,rfl,rfl,rfl⟩,rfl,rfl⟩
 ·split
  ·obtain ⟨k,h1,_,h3⟩:=mv_keep c _ {l with ctl:=repl d l.ctl}
   exact ⟨⟨k.got,k.wrong,k.buf,k.serr,k.ms⟩,h1,h3⟩
  ·exact control_keep c l 10 d
theorem close_keep (c:Cf) (l:Lg) (code:Int) (words:List Nat):Keep l (close c l code words).1:=by
 unfold close
 split
 ·exact ⟨rfl,rfl,rfl,rfl,rfl⟩
 ·obtain ⟨k,_⟩:=control_keep c {l with sent:=true,rest:=[],last:=(putC code words).1} 8 (putC code words).1
  exact ⟨k.got,k.wrong,k.buf,k.serr,k.ms⟩
theorem close_sent (c:Cf) (l:Lg) (code:Int) (hc:code=0∨valid code=true):(close c l code []).1.sent=true∧(l.sent=false→(close c l code []).1.last=(putC code []).1):=by
 have hp:(putC code []).2=0:=by
  rcases hc with rfl | hc
  ·rfl
  ·rw [ClosePlain.put_yes hc (Nat.zero_le _) rfl]
 unfold close
 by_cases hs:l.sent=true
 ·rw [if_pos (.inl hs)]
  exact ⟨hs,fun e=>absurd (e.symm.trans hs) (by decide)⟩
 ·rw [if_neg (fun e=>e.elim hs (fun e=>e hp))]
  obtain ⟨_,h1,h2⟩:=control_keep c {l with sent:=true,rest:=[],last:=(putC code []).1} 8 (putC code []).1
  exact ⟨h1,fun _=>h2⟩
theorem react_keep (c:Cf) (l:Lg) (x:Ev):(react c l x).wrong=l.wrong∧(react c l x).buf=l.buf∧(react c l x).serr=l.serr∧(react c l x).ms=l.ms∧(react c l x).got=(l.got||decide (x.op=8))∧(x.op≠8→(react c l x).sent=l.sent∧(react c l x).last=l.last)∧(x.op=8→(react c l x).sent=true∧(l.sent=false→(react c l x).last=(putC (acrossC x.code) []).1)):=by
 unfold react
 by_cases h9:x.op=9
 ·rw [if_pos h9]
  obtain ⟨k,h1,h2⟩:=pong_keep c l x.data
  exact ⟨k.wrong,k.buf,k.serr,k.ms,by rw [k.got,h9];simp,fun _=>⟨h1,h2⟩,fun e=>by omega⟩
 ·rw [if_neg h9]
  by_cases h8:x.op=8
  ·rw [if_pos h8]
   have k:=close_keep c {l with got:=true} (acrossC x.code) []
   have hv:=close_sent c {l with got:=true} (acrossC x.code) (ClosePlain.across_valid x.code)
   exact ⟨k.wrong,k.buf,k.serr,k.ms,by rw [k.got,h8];simp,fun e=>absurd h8 e,fun _=>hv⟩
  ·rw [if_neg h8]
   exact ⟨rfl,rfl,rfl,rfl,by simp [h8],fun _=>⟨rfl,rfl⟩,fun e=>absurd e h8⟩
theorem fold_keep (c:Cf):∀ (xs:List Ev) (l:Lg),(xs.foldl (react c) l).wrong=l.wrong∧(xs.foldl (react c) l).buf=l.buf∧(xs.foldl (react c) l).serr=l.serr∧(xs.foldl (react c) l).ms=l.ms∧(xs.foldl (react c) l).got=(l.got||xs.any (fun x=>decide (x.op=8)))
 | [],l=>⟨rfl,rfl,rfl,rfl,by simp⟩
 | x :: xs,l=>by
   obtain ⟨r1,r2,r3,r4,r5,_⟩:=react_keep c l x
   obtain ⟨i1,i2,i3,i4,i5⟩:=fold_keep c xs (react c l x)
   refine ⟨i1.trans r1,i2.trans r2,i3.trans r3,i4.trans r4,?_⟩
   rw [List.foldl_cons,i5,r5,List.any_cons,Bool.or_assoc]
theorem step_over (most:Int) {st:Ms} (h0:st.over=false) (h8:st.begun=true→st.op≠8) (f:Fr):((MsgPlain.step most st f).2.toList.any fun x=>decide (x.op=8))=(MsgPlain.step most st f).1.over:=by
 unfold MsgPlain.step
 by_cases a1:form f=false
 ·rw [if_pos a1];rfl
 rw [if_neg a1]
 by_cases a2:f.op=9∨f.op=10
 ·rw [if_pos a2]
  rcases a2 with e | e<;>simp [e,h0]
 rw [if_neg a2]
 by_cases a3:f.op=8
 ·rw [if_pos a3]
  by_cases a4:(getC f.data).2.2=0
  ·rw [if_pos a4];simp [MsgPlain.done]
  ·rw [if_neg a4];rfl
 rw [if_neg a3]
 by_cases a4:decide (f.op=0)≠st.begun
 ·rw [if_pos a4];rfl
 have hform:form f=true:=by simpa using a1
 have hop:f.op=0∨f.op=1∨f.op=2:=by
  rcases (FramePlain.form_cases hform).1 with h | h
  ·omega
  ·omega
 rw [if_neg a4]
 unfold MsgPlain.more
 by_cases a5:most<((st.text++f.data).length:Int)
 ·rw [if_pos a5];rfl
 rw [if_neg a5]
 obtain ⟨o,ho⟩:∃ o,(if st.begun=true then st.op else f.op)=o:=⟨_,rfl⟩
 have ho8:o≠8:=by
  rw [← ho]
  by_cases hb:st.begun=true
  ·rw [if_pos hb];exact h8 hb
  ·rw [if_neg hb];exact a3
 rw [ho]
 by_cases a6:MsgPlain.okT o f.fin (st.text++f.data)=false
 ·rw [if_pos a6];rfl
 rw [if_neg a6]
 by_cases a7:f.fin=true
 ·rw [if_pos a7];simp [ho8,M0]
 ·rw [if_neg a7];rfl
theorem run_over {most:Int} (hm:0≤most):∀ (fs:List Fr) {st:Ms},MsgPlain.Fit most st→st.err=0→st.over=false→(∀ f∈fs,∀ y∈f.data,y<256)→((run most st fs).2.any fun x=>decide (x.op=8))=(run most st fs).1.over
 | [],st,_,_,h0,_=>by show false=st.over;exact h0.symm
 | f :: fs,st,hf,he,h0,hs=>by
   rw [run_cons,List.any_append]
   have hst:MsgPlain.take most st f=MsgPlain.step most st f:=MsgPlain.take_go most he h0 f
   have h1:=step_over most h0 (fun hb=>by rcases hf.op hb with e | e<;>omega) f
   have hf2:=MsgPlain.fit_take hm (f:=f) hf (hs f List.mem_cons_self)
   rw [hst] at hf2 ⊢
   show (((MsgPlain.step most st f).2.toList.any fun x=>decide (x.op=8))||_)=(run most (MsgPlain.step most st f).1 fs).1.over
   rw [h1]
   by_cases hx:(MsgPlain.step most st f).1.err≠0∨(MsgPlain.step most st f).1.over=true
   ·rw [run_stop most hx];simp
   ·have he2:(MsgPlain.step most st f).1.err=0:=Classical.byContradiction fun e=>hx (.inl e)
    have ho2:(MsgPlain.step most st f).1.over=false:=by simpa using fun e=>hx (.inr e)
    rw [ho2,Bool.false_or]
    exact run_over hm fs hf2 he2 ho2 (fun g hg=>hs g (List.mem_cons_of_mem _ hg))
theorem fold_sent (c:Cf):∀ (xs:List Ev) (l:Lg),(xs.foldl (react c) l).sent=(l.sent||xs.any (fun x=>decide (x.op=8)))∧(l.sent=false→(xs.foldl (react c) l).sent=true→∃ k,(xs.foldl (react c) l).last=(putC (acrossC k) []).1)∧(l.sent=true→(∀ x∈xs,x.op=8→True)→(xs.foldl (react c) l).sent=true)
 | [],l=>⟨by simp,fun h1 h2=>absurd (h1.symm.trans h2) (by decide),fun h _=>h⟩
 | x :: xs,l=>by
   obtain ⟨_,_,_,_,_,r6,r7⟩:=react_keep c l x
   obtain ⟨i1,i2,i3⟩:=fold_sent c xs (react c l x)
   by_cases h8:x.op=8
   ·obtain ⟨s1,s2⟩:=r7 h8
    have hsent:(xs.foldl (react c) (react c l x)).sent=true:=by rw [i1,s1,Bool.true_or]
    refine ⟨by rw [List.foldl_cons,hsent];simp [h8],fun h1 _=>?_,fun _ _=>hsent⟩
    have hl:=fold_last c xs (react c l x) s1
    exact ⟨x.code,by rw [List.foldl_cons,hl,s2 h1]⟩
   ·obtain ⟨s1,s2⟩:=r6 h8
    refine ⟨by rw [List.foldl_cons,i1,s1];simp [h8],fun h1 h2=>?_,fun h1 _=>by rw [List.foldl_cons,i1,s1,h1,Bool.true_or]⟩
    exact i2 (by rw [s1];exact h1) h2
where
 fold_last (c:Cf):∀ (xs:List Ev) (l:Lg),l.sent=true→(xs.foldl (react c) l).last=l.last
  | [],_,_=>rfl
  | x :: xs,l,h=>by
    have hr:react c l x=l∨react c l x={l with got:=true}:=by
     unfold react
     split
     ·unfold pong;rw [if_pos h];exact .inl rfl
     ·split
      ·unfold close;rw [if_pos (.inl h)];exact .inr rfl
      ·exact .inl rfl
    rcases hr with e | e
    ·rw [List.foldl_cons,e];exact fold_last c xs l h
    ·rw [List.foldl_cons,e];exact fold_last c xs {l with got:=true} h
structure Reads (c:Cf) (l:Lg):Prop where
 got:l.got=false
 wrong:l.wrong=0
 serr:l.serr=0
 err:l.ms.err=0
 over:l.ms.over=false
 fit:MsgPlain.Fit (c.msg:Int) l.ms
 left:(one l.buf c.masked (bound c:Int)).2.2=90
 small:∀ y∈l.buf,y<256
theorem reads_zero (c:Cf) (d:Nat):Reads c (L0 d):=⟨rfl,rfl,rfl,rfl,rfl,MsgPlain.fit0 (by omega),rfl,fun y hy=>absurd hy List.not_mem_nil⟩
theorem all_small (masked:Bool) (most:Int):∀ (k:Nat) (s:List Nat),s.length≤k→(∀ y∈s,y<256)→∀ f∈(all s masked most).1,∀ y∈f.data,y<256
 | 0,s,h,hs,f,hf=>by
   obtain rfl:s=[]:=List.eq_nil_of_length_eq_zero (by omega)
   exact absurd hf List.not_mem_nil
 | k+1,s,h,hs,f,hf=>by
   by_cases h1:(one s masked most).2.2=90
   ·rw [all_step s masked most hs,if_pos h1] at hf;exact absurd hf List.not_mem_nil
   by_cases h2:(one s masked most).2.2≠0
   ·rw [all_step s masked most hs,if_neg h1,if_pos h2] at hf;exact absurd hf List.not_mem_nil
   rw [all_step s masked most hs,if_neg h1,if_neg h2] at hf
   have h0:(one s masked most).2.2=0:=Classical.byContradiction h2
   have hl:=StreamPlain.one_len hs h0
   rcases List.mem_cons.1 hf with hf | hf
   ·obtain ⟨⟨g,n,e⟩,ho⟩:∃ r,one s masked most=r:=⟨_,rfl⟩
    rw [ho] at h0 hf
    simp only at h0
    subst h0
    have hg:=FramePlain.get_ok hs (StreamPlain.one_ok ho).1
    rw [hf]
    exact hg.2.2.2.2.2.2.1
   ·exact all_small masked most k (s.drop (one s masked most).2.1) (by rw [List.length_drop];omega) (fun y hy=>hs y (List.mem_of_mem_drop hy)) f hf
theorem feed_in {c:Cf} {l:Lg} (h:Reads c l) (b:List Nat) (hb:∀ y∈b,y<256) :
 (feed c l b).1.got=(came c l b).ms.over∧(feed c l b).1.wrong=errs c l b∧(feed c l b).1.buf=(came c l b).buf∧(feed c l b).1.serr=(came c l b).serr∧(feed c l b).1.ms=(came c l b).ms∧(feed c l b).2=(evs c l b).filter (fun x=>decide (x.op≠9)) ∧
 (feed c l b).1.sent=(l.sent||(came c l b).ms.over||decide (errs c l b≠0))∧MsgPlain.Fit (c.msg:Int) (came c l b).ms:=by
 have hs:∀ y∈l.buf++b,y<256:=fun y hy=>by
  rcases List.mem_append.1 hy with hy | hy
  ·exact h.small y hy
  ·exact hb y hy
 have hfr:=all_small c.masked (bound c:Int) _ (l.buf++b) (Nat.le_refl _) hs
 have hov:(evs c l b).any (fun x=>decide (x.op=8))=(came c l b).ms.over:=run_over (by omega) _ h.fit h.err h.over hfr
 have hfit:MsgPlain.Fit (c.msg:Int) (came c l b).ms:=MsgPlain.fit_run (by omega) _ h.fit hfr
 obtain ⟨k1,k2,k3,k4,k5⟩:=fold_keep c (evs c l b) (came c l b)
 obtain ⟨s1,_,_⟩:=fold_sent c (evs c l b) (came c l b)
 have hgo:¬ (l.got=true∨l.wrong≠0):=fun e=>by
  rcases e with e | e
  ·rw [h.got] at e;cases e
  ·exact e h.wrong
 have hg2:((evs c l b).foldl (react c) (came c l b)).got=(came c l b).ms.over:=by rw [k5,hov];show (l.got||_)=_;rw [h.got,Bool.false_or]
 have hs2:((evs c l b).foldl (react c) (came c l b)).sent=(l.sent||(came c l b).ms.over):=by rw [s1,hov];rfl
 have hw2:((evs c l b).foldl (react c) (came c l b)).wrong=0:=k1.trans h.wrong
 unfold feed
 rw [if_neg hgo]
 by_cases he:errs c l b≠0
 ·have k:=close_keep c {(evs c l b).foldl (react c) (came c l b) with wrong:=errs c l b} (codeC (errs c l b:Int)) []
  have hv:=(close_sent c {(evs c l b).foldl (react c) (came c l b) with wrong:=errs c l b} (codeC (errs c l b:Int)) (.inr (ClosePlain.code_valid _))).1
  simp only [if_pos he]
  exact ⟨k.got.trans hg2,k.wrong,k.buf.trans k2,k.serr.trans k3,k.ms.trans k4,trivial,by unfold fail;rw [hv,decide_eq_true he,Bool.or_true],hfit⟩
 ·simp only [if_neg he]
  have he0:errs c l b=0:=Classical.byContradiction he
  exact ⟨hg2,hw2.trans he0.symm,k2,k3,k4,trivial,by rw [hs2,decide_eq_false he,Bool.or_false],hfit⟩
theorem feed_reads {c:Cf} {l:Lg} (h:Reads c l) (b:List Nat) (hb:∀ y∈b,y<256) (he:errs c l b=0) (ho:(came c l b).ms.over=false):Reads c (feed c l b).1:=by
 obtain ⟨f1,f2,f3,f4,f5,_,_,f8⟩:=feed_in h b hb
 have hs:∀ y∈l.buf++b,y<256:=fun y hy=>by
  rcases List.mem_append.1 hy with hy | hy
  ·exact h.small y hy
  ·exact hb y hy
 have hme:(came c l b).ms.err=0:=Classical.byContradiction fun e=>by
  unfold errs at he
  rw [if_pos e] at he
  exact e he
 have hse:(came c l b).serr=0:=by
  unfold errs at he
  rwa [if_neg (fun e=>e hme),if_neg (by rw [ho];decide)] at he
 have hse2:(all (l.buf++b) c.masked (bound c:Int)).2.1=0:=hse
 have hbuf:(came c l b).buf=(l.buf++b).drop ((l.buf++b).length-(all (l.buf++b) c.masked (bound c:Int)).2.2):=by show (if _ then _ else _)=_;rw [if_pos hse2]
 refine ⟨f1.trans ho,f2.trans he,f4.trans hse,by rw [f5];exact hme,by rw [f5];exact ho,by rw [f5];exact f8,?_,?_⟩
 ·rw [f3,hbuf];exact all_rest c.masked (bound c:Int) _ _ (Nat.le_refl _) hs hse2
 ·rw [f3,hbuf];exact fun y hy=>hs y (List.mem_of_mem_drop hy)
theorem feed_stop {c:Cf} {l:Lg} (b:List Nat) (h:l.got=true∨l.wrong≠0):feed c l b=(l,[]):=by
 unfold feed
 rw [if_pos h]
end LegPlain
