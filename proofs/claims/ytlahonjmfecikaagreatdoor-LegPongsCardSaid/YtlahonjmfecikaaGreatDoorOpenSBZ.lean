/- Slices of strings and of bytes that read as data, opened. -/
import Derived.Test.YtlahonjmfecikaaGreatDoorYl
import Derived.SliceStrings
import Derived.ProofKit
import Derived.ChangeSlices
import Derived.OpenShut
namespace Go.Proofs.YtlahonjmfecikaaGreatDoor
open Go.RowKit Go.WideShapes Go.ChangeShapes
theorem strsAt_of_trod7 {H:Type} {enc:TypeId×Value→H} {W:World} {ad:Option Addr} {len cap:Nat} {d:DataW H} {p:List MemPlace} (h:DataW.Trod enc Tryz.prog W 0 (fun _=>true) true 23 (.slice ad len cap) d p) :
 ∃ l,StrsAt W (.slice ad len cap) l:=by
 obtain ⟨fuel,hf⟩:=h
 rcases open_strings Tryz.underlying23 Tryz.underlying9 (by kernel_rfl) hf with ⟨hcs,_⟩ | ⟨a,len',cap',ss,hcs,_,hl,hm,hz,_,hcell,hws⟩
 ·simp [Value.cells] at hcs
  obtain ⟨rfl,rfl,rfl⟩:=hcs
  exact ⟨[],none,0,0,0,rfl,by simp,fun h=>by simp at h,fun i hi=>by simp at hi,fun i=>by simp [List.getD]⟩
 ·simp [Value.cells] at hcs
  obtain ⟨rfl,rfl,rfl⟩:=hcs
  have hlen:(ss.take len).length=len:=by simp at hz;simp;omega
  have hg:∀ i,i<len→(ss.take len).getD i ByteArray.empty=ss.getD i ByteArray.empty:=fun i hi=>by simp [List.getD,hi]
  refine ⟨ss.take len,some a,cap,a.block,a.off,by rw [hlen],by rw [hlen];omega,fun hp=>?_,fun i hi=>?_,fun i=>?_⟩
  ·rw [hlen] at hp
   have hc:=hcell 0 (by simp at hz;omega)
   obtain ⟨b,off,spot⟩:=a
   have hspot:spot=none:=by simpa [Addr.add] using World.cell?_spot hc
   rw [hspot]
  ·rw [hlen] at hi
   have hc:=hcell i (by simp at hz;omega)
   obtain ⟨b,off,spot⟩:=a
   have hspot:spot=none:=by simpa [Addr.add] using World.cell?_spot (hcell 0 (by simp at hz;omega))
   subst hspot
   rw [Addr.add_mid] at hc
   rw [hg i hi,hc]
  ·by_cases hi:i<len
   ·rw [hg i hi]
    have hi':i<ss.length:=by simp at hz;omega
    have:=hws ss[i] (List.getElem_mem hi')
    simpa [List.getD,List.getElem?_eq_getElem hi'] using this
   ·rw [List.getD,List.getElem?_eq_none (by rw [hlen];omega)]
    exact Nat.zero_le _
theorem bytesAt_of_trod7 {H:Type} {enc:TypeId×Value→H} {W:World} {ad:Option Addr} {len cap:Nat} {d:DataW H} {p:List MemPlace} (h:DataW.Trod enc Tryz.prog W 0 (fun _=>true) true 49 (.slice ad len cap) d p) :
 ∃ l,SrcAt W (.slice ad len cap) l∧Small 256 l∧l.length≤maxLen:=by
 obtain ⟨fuel,hf⟩:=h
 rcases open_ints Tryz.underlying49 Tryz.underlying5 (by kernel_rfl) hf with ⟨hcs,_⟩ | ⟨a,len',cap',ss,hcs,_,hl,hm,hz,_,hcell,hws⟩
 ·simp [Value.cells] at hcs
  obtain ⟨rfl,rfl,rfl⟩:=hcs
  exact ⟨[],⟨none,0,0,0,rfl,by simp,fun h=>by simp at h,fun i hi=>by simp at hi⟩,fun x hx=>by simp at hx,by simp⟩
 ·simp [Value.cells] at hcs
  obtain ⟨rfl,rfl,rfl⟩:=hcs
  obtain ⟨bs,hbs⟩:∃ bs:List Nat,bs=(ss.take len).map Int.toNat:=⟨_,rfl⟩
  have hlen:bs.length=len:=by simp at hz;rw [hbs];simp;omega
  have hpos:∀ n∈ss,0≤n∧n<256:=fun n hn=>by
   have:=bounds_u8 (hws n hn)
   exact ⟨this.1,by have:=this.2;omega⟩
  have hg:∀ i,i<len→((bs.getD i 0:Nat):Int)=ss.getD i 0:=fun i hi=>by
   have hi2:i<ss.length:=by simp at hz;omega
   have h1:=(hpos _ (List.getElem_mem hi2)).1
   rw [hbs]
   simp [List.getD,hi,hi2]
   omega
  refine ⟨bs,⟨some a,cap,a.block,a.off,by rw [hlen],by rw [hlen];omega,fun hp=>?_,fun i hi=>?_⟩,fun x hx=>?_,by rw [hlen];omega⟩
  ·rw [hlen] at hp
   have hc:=hcell 0 (by simp at hz;omega)
   obtain ⟨b,off,spot⟩:=a
   have hspot:spot=none:=by simpa [Addr.add] using World.cell?_spot hc
   rw [hspot]
  ·rw [hlen] at hi
   have hc:=hcell i (by simp at hz;omega)
   obtain ⟨b,off,spot⟩:=a
   have hspot:spot=none:=by simpa [Addr.add] using World.cell?_spot (hcell 0 (by simp at hz;omega))
   subst hspot
   rw [Addr.add_mid] at hc
   rw [hg i hi,hc]
  ·rw [hbs,List.mem_map] at hx
   obtain ⟨n,hn,rfl⟩:=hx
   have:=hpos n (List.mem_of_mem_take hn)
   omega
end Go.Proofs.YtlahonjmfecikaaGreatDoor
