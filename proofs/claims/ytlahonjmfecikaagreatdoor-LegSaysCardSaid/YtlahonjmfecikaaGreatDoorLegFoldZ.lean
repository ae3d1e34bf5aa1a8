/- leg, plain: frames' messages, read off one by one, are those that were sent. -/
import Derived.Test.YtlahonjmfecikaaGreatDoorYl
namespace LegPlain
open FramePlain (Fr Fr0 form ctl zero4 text)
open CutPlain (frs)
structure Rd where
 got:List (Int×List Nat)
 data:List Nat
 begun:Bool
def rd1 (said:List (Int×List Nat)) (s:Rd) (f:Bool×Int×List Nat):Rd :=
 if f.1=true∧s.got.length<said.length then ⟨s.got++[((said.getD s.got.length (0,[])).1,s.data++f.2.2)],[],!f.1⟩ else ⟨s.got,s.data++f.2.2,!f.1⟩
def ok1 (most:Nat) (s:Rd) (f:Bool×Int×List Nat):Prop:=s.begun=decide (f.2.1=0)∧f.2.2.length≤most
def okAll (most:Nat) (said:List (Int×List Nat)):Rd→List (Bool×Int×List Nat)→Prop
 | _,[]=>True
 | s,f :: l=>ok1 most s f∧okAll most said (rd1 said s f) l
def rdAll (said:List (Int×List Nat)) (s:Rd) (l:List (Bool×Int×List Nat)):Rd:=l.foldl (rd1 said) s
theorem okAll_append {most:Nat} {said:List (Int×List Nat)} : ∀ (a b:List (Bool×Int×List Nat)) (s:Rd),okAll most said s (a++b)↔okAll most said s a∧okAll most said (rdAll said s a) b
 | [],b,s=>by simp [okAll,rdAll]
 | f :: a,b,s=>by
   show (_∧okAll most said (rd1 said s f) (a++b))↔(_∧okAll most said (rd1 said s f) a)∧_
   rw [okAll_append a b,and_assoc];rfl
theorem rdAll_append (said:List (Int×List Nat)) (a b:List (Bool×Int×List Nat)) (s:Rd):rdAll said s (a++b)=rdAll said (rdAll said s a) b:=List.foldl_append ..
theorem rd_frs {most:Nat} (hm:1≤most) {said:List (Int×List Nat)} {g:List (Int×List Nat)} {m:Int×List Nat} (hg:g.length<said.length) (hsd:said.getD g.length (0,[])=m) :
 ∀ (n:Nat) (op:Int) (u t:List Nat) (j:Nat),t.length≤n→u++t=m.2→(u=[]∧(op=1∨op=2)∧j=j∨u≠[]∧op=0) →
   okAll most said ⟨g,u,decide (u≠[])⟩ (((frs most op t).map core).take j) ∧
   (j<(frs most op t).length→∃ v,rdAll said ⟨g,u,decide (u≠[])⟩ (((frs most op t).map core).take j)=⟨g,u++v,decide (u++v≠[])⟩∧∃ w,v++w=t) ∧
   ((frs most op t).length≤j→rdAll said ⟨g,u,decide (u≠[])⟩ (((frs most op t).map core).take j)=⟨g++[m],[],false⟩):=by
 intro n
 induction n with
 | zero =>
   intro op u t j hn hu ho
   rw [CutPlain.frs_last (by omega)]
   cases j with
   | zero=>exact ⟨trivial,fun _=>⟨[],by rw [List.append_nil];rfl,t,rfl⟩,fun h=>absurd h (by simp)⟩
   | succ j =>
     have hr:rd1 said ⟨g,u,decide (u≠[])⟩ (core ⟨true,op,false,zero4,t⟩)=⟨g++[m],[],false⟩:=by
      unfold rd1
      rw [if_pos ⟨rfl,hg⟩,hsd]
      show (⟨g++[(m.1,u++t)],[],!true⟩:Rd)=_
      rw [hu];rfl
     refine ⟨⟨⟨?_,by show t.length≤most;omega⟩,by rw [List.map_nil,List.take_nil];trivial⟩,fun h=>absurd h (by simp),fun _=>?_⟩
     ·show decide (u≠[])=decide (op=0)
      rcases ho with ⟨h1,h2,_⟩ | ⟨h1,h2⟩
      ·rw [h1];symm;simp;omega
      ·rw [h2];simp [h1]
     ·show rdAll said (rd1 said _ (core _)) (List.take j [])=_
      rw [List.take_nil,hr];rfl
 | succ n ih =>
   intro op u t j hn hu ho
   have hb:decide (u≠[])=decide (op=0):=by
    rcases ho with ⟨h1,h2,_⟩ | ⟨h1,h2⟩
    ·rw [h1];symm;simp;omega
    ·rw [h2];simp [h1]
   cases j with
   | zero=>exact ⟨trivial,fun _=>⟨[],by rw [List.append_nil];rfl,t,rfl⟩,fun h=>absurd h (by have:=CutPlain.frs_pos most hm op t;omega)⟩
   | succ j =>
     by_cases h:t.length≤most
     ·rw [CutPlain.frs_last h]
      have hr:rd1 said ⟨g,u,decide (u≠[])⟩ (core ⟨true,op,false,zero4,t⟩)=⟨g++[m],[],false⟩:=by
       unfold rd1
       rw [if_pos ⟨rfl,hg⟩,hsd]
       show (⟨g++[(m.1,u++t)],[],!true⟩:Rd)=_
       rw [hu];rfl
      refine ⟨⟨⟨hb,h⟩,by rw [List.map_nil,List.take_nil];trivial⟩,fun h=>absurd h (by simp),fun _=>?_⟩
      show rdAll said (rd1 said _ (core _)) (List.take j [])=_
      rw [List.take_nil,hr];rfl
     ·rw [CutPlain.frs_more hm h]
      have hne:u++t.take most≠[]:=fun e=>by
       have:=congrArg List.length e
       rw [List.length_append,List.length_take,List.length_nil] at this
       omega
      have hr:rd1 said ⟨g,u,decide (u≠[])⟩ (core ⟨false,op,false,zero4,t.take most⟩)=⟨g,u++t.take most,decide (u++t.take most≠[])⟩:=by
       unfold rd1
       rw [if_neg (fun e=>by cases e.1),decide_eq_true hne];rfl
      obtain ⟨i1,i2,i3⟩:=ih 0 (u++t.take most) (t.drop most) j (by rw [List.length_drop];omega) (by rw [List.append_assoc,List.take_append_drop];exact hu) (.inr ⟨hne,rfl⟩)
      rw [← hr] at i1 i2 i3
      refine ⟨⟨⟨hb,by show (t.take most).length≤most;rw [List.length_take];omega⟩,i1⟩,fun hj=>?_,fun hj=>i3 (by rw [List.length_cons] at hj;omega)⟩
      obtain ⟨v,h1,w,h2⟩:=i2 (by rw [List.length_cons] at hj;omega)
      exact ⟨t.take most++v,by rw [← List.append_assoc];exact h1,w,by rw [List.append_assoc,h2,List.take_append_drop]⟩
theorem rd_flat {c:Cf} (hm:1≤c.frm) {said:List (Int×List Nat)} : ∀ (b g:List (Int×List Nat)),(∀ m∈b,m.1=1∨m.1=2)→(∀ i,i<b.length→g.length+i<said.length∧said.getD (g.length+i) (0,[])=b.getD i (0,[])) →
 okAll c.frm said ⟨g,[],false⟩ (flat c b)∧rdAll said ⟨g,[],false⟩ (flat c b)=⟨g++b,[],false⟩
 | [],g,_,_=>⟨trivial,by rw [List.append_nil];rfl⟩
 | m :: b,g,ho,hg=>by
   obtain ⟨g1,g2⟩:=hg 0 (by simp)
   have h0:=rd_frs hm (m:=m) g1 g2 m.2.length m.1 [] m.2 (frs c.frm m.1 m.2).length (Nat.le_refl _) rfl (.inl ⟨rfl,ho m List.mem_cons_self,rfl⟩)
   have ht:((frs c.frm m.1 m.2).map core).take (frs c.frm m.1 m.2).length=(frs c.frm m.1 m.2).map core:=List.take_of_length_le (by rw [List.length_map];exact Nat.le_refl _)
   rw [ht] at h0
   obtain ⟨i1,_,i3⟩:=h0
   have i3:=i3 (Nat.le_refl _)
   obtain ⟨k1,k2⟩:=rd_flat hm (said:=said) b (g++[m]) (fun x hx=>ho x (List.mem_cons_of_mem _ hx)) (fun i hi=>by
    have:=hg (i+1) (by rw [List.length_cons];omega)
    rw [List.length_append,List.length_singleton,Nat.add_assoc,Nat.add_comm 1 i]
    exact this)
   have hc:flat c (m :: b)=(frs c.frm m.1 m.2).map core++flat c b:=rfl
   refine ⟨?_,?_⟩
   ·rw [hc,okAll_append]
    refine ⟨i1,?_⟩
    show okAll _ _ (rdAll said ⟨g,[],decide (([]:List Nat)≠[])⟩ _) _
    rw [i3];exact k1
   ·rw [hc,rdAll_append]
    show rdAll said (rdAll said ⟨g,[],decide (([]:List Nat)≠[])⟩ _) _=_
    rw [i3,k2,List.append_assoc];rfl
theorem rd_said {c:Cf} (hm:1≤c.frm) (said:List (Int×List Nat)) (ho:∀ m∈said,m.1=1∨m.1=2) (j:Nat) :
 okAll c.frm said ⟨[],[],false⟩ (flat c said.dropLast++(lastc c said).take j) ∧
 ((rdAll said ⟨[],[],false⟩ (flat c said.dropLast++(lastc c said).take j)=⟨said,[],false⟩) ∨
  (j<(lastc c said).length∧∃ g m v w b,said=g++[m]∧v++w=m.2∧rdAll said ⟨[],[],false⟩ (flat c said.dropLast++(lastc c said).take j)=⟨g,v,b⟩)):=by
 rcases List.eq_nil_or_concat said with rfl | ⟨g,m,rfl⟩
 ·refine ⟨?_,.inl ?_⟩
  ·show okAll c.frm [] _ ([]++List.take j []);rw [List.take_nil];trivial
  ·show rdAll [] _ ([]++List.take j [])=_;rw [List.take_nil];rfl
 ·rw [List.concat_eq_append] at ho ⊢
  rw [List.dropLast_concat,lastc_snoc]
  obtain ⟨k1,k2⟩:=rd_flat hm (said:=g++[m]) g [] (fun x hx=>ho x (List.mem_append.2 (.inl hx))) (fun i hi=>⟨by rw [List.length_append];simp;omega,by
   simp only [List.length_nil,Nat.zero_add]
   rw [List.getD_eq_getElem?_getD,List.getD_eq_getElem?_getD,List.getElem?_append_left hi]⟩)
  rw [List.nil_append] at k2
  obtain ⟨i1,i2,i3⟩:=rd_frs hm (said:=g++[m]) (g:=g) (m:=m) (by simp) (by rw [List.getD_eq_getElem?_getD];simp) m.2.length m.1 [] m.2 j (Nat.le_refl _) rfl (.inl ⟨rfl,ho m (by simp),rfl⟩)
  refine ⟨(okAll_append ..).2 ⟨k1,by rw [k2];exact i1⟩,?_⟩
  rw [rdAll_append,k2]
  by_cases hj:j<(frs c.frm m.1 m.2).length
  ·obtain ⟨v,h1,w,h2⟩:=i2 hj
   exact .inr ⟨by rw [List.length_map];exact hj,g,m,v,w,_,rfl,h2,h1⟩
  ·exact .inl (i3 (by omega))
end LegPlain
