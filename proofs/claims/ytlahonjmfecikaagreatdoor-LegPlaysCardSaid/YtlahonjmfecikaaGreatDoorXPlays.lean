/- LegPlays is proved for every input: whatever configuration, bool, number and acts come in, the law returns true and they read as they did. Conditions: the tables of packages head, mask and utf are as their text lays them (the card ties them). -/
import Derived.Test.YtlahonjmfecikaaGreatDoorXKP
import Derived.Test.YtlahonjmfecikaaGreatDoorXu
import Derived.Test.YtlahonjmfecikaaGreatDoorCards
import Derived.Test.YtlahonjmfecikaaGreatDoorTie
import Derived.ShutString
import Derived.ChangeOld
import Derived.SevenTiedAt
set_option maxRecDepth 100000
set_option maxHeartbeats 64000000
set_option linter.unusedVariables false
set_option linter.unusedSimpArgs false
open Go.Proofs.Tryz
namespace Go.Proofs.YtlahonjmfecikaaGreatDoor
open Go.ChangeShapes Go.WideShapes Go.ChangeAt Go.RowKit bP KU jo
open Go.ChangeMaps (open_string shut_string)
theorem NM:laidOutB prog=true:=by kernel_rfl
set_option maxRecDepth 100000 in
theorem plays_lifted (os:Os) (ln:os.Started) (H:Type) (enc:TypeId×Value→H) :
 ReturnsInHanded {} Tryz.checked os 3 .any (fun w args=>(Rows.legPlaysSpec.pre enc prog Tryz.f3 [] false w args∧laidMetH prog kM w)∧sizedMet enc prog Tryz.f3 (OpenSpec.ofChange Rows.legPlaysSpec) false w args)
  (Rows.legPlaysSpec.post enc prog Tryz.f3 false true false false):=by
 refine LU ln (by kernel_rfl) func3
  (ChangeSpec.witness_shaped (enc:=enc) (C:=Tryz.checked) (os:=os) (X:=fun w _=>laidMetH prog kM w) false (World.laidAll prog os kM) #[.agg #[.slice none 0 0,.slice none 0 0,.int .i64 0,.int .i64 0,.int .i64 0,.int .i64 0,.int .i64 0,.int .i64 0,.int .i64 0,.int .i64 0,.int .i64 0,.int .i64 0],.bool false,.int .u32 0,.slice none 0 0] 8 (World.laidAll_os _ _ _) (LP os _) (by kernel_rfl) (by kernel_rfl) (by kernel_rfl) (WW os _)) ?_
 intro W base args ds gs before M4 hW hG;have cK:∀ (j:Nat) t v,Tryz.f3.params[j]? = some t→args[j]? = some v→Value.okWide prog W .any base t v:=M4;have hW':=hW;obtain ⟨p,q,hA0,hV,rfl,px,hnd⟩:=hW;have hA:DataW.TrodAll enc prog W 0 (fun _=>true) true Tryz.f3.params.toList args.toList ds p:=hA0;rw [Tryz.params3] at hA cK;obtain ⟨v0,vs0,d0,ds0,p0,q0,aji,rfl,rfl,h0,r0⟩:=trodAll_cons hA;obtain ⟨v1,vs1,d1,ds1,p1,q1,rfl,rfl,rfl,h1,r1⟩:=trodAll_cons r0;obtain ⟨v2,vs2,d2,ds2,p2,q2,rfl,rfl,rfl,h2,r2⟩:=trodAll_cons r1;obtain ⟨v3,vs3,d3,ds3,p3,q3,rfl,rfl,rfl,h3,r3⟩:=trodAll_cons r2;obtain ⟨rfl,rfl,rfl⟩:=trodAll_nil r3;obtain rfl:args=#[v0,v1,v2,v3]:=by cases args;simp_all
 obtain ⟨rfl,rfl⟩:=trodVars_none hV;have k0:=h0;have ag3:∀ x∈p0,x.block<W.heap.size:=by obtain ⟨m,hm⟩:=k0;exact DataW.trod_lt m _ _ _ hm
 obtain ⟨ca0,cn0,cc0,da0,dn0,dc0,tb0,ms0,fr0,ct0,bs0,ot0,sh0,id0,po0,cl0,rs0,os0,rfl,wa0,wb0⟩:=JD h0;obtain ⟨x1,rfl,rfl,rfl⟩:=open_bool underlying4 (cK 1 4 v1 rfl rfl) h1;obtain ⟨x2,rfl,rfl,rfl,w2⟩:=open_int underlying26 (cK 2 26 v2 rfl rfl) h2;have bd2:0≤x2∧x2≤4294967295:=by simpa [Lit.wf,IntKind.min,IntKind.max,IntKind.signed,IntKind.bits] using w2
 obtain ⟨n2,rfl⟩:=JH bd2.1;have lt2:n2<4294967296:=by have:=bd2.2;omega
 obtain ⟨ad3,ag4,ag5,rfl⟩:=okWide_slice underlying27 (cK 3 27 v3 rfl rfl);have k3:=h3;have ag6:∀ x∈p3,x.block<W.heap.size:=by obtain ⟨m,hm⟩:=k3;exact DataW.trod_lt m _ _ _ hm
 obtain ⟨l3,wa3,wb3,wc3⟩:=Dv h3;clear hA0 M4;refine (LM ca0 cn0 cc0 da0 dn0 dc0 tb0 ms0 fr0 ct0 bs0 ot0 sh0 id0 po0 cl0 rs0 os0 x1 n2 (.slice ad3 ag4 ag5) l3 W hG wa0 wb0 lt2 wa3 wb3 wc3).mono fun e W' ⟨he,kj⟩=>?_
 subst he;exact ⟨_,rfl,_,_,_,[],_,[],hW',trodAll_mk1 (shut_bool underlying4 _),(trodAll_cons_mk (Below.trod NM (by kernel_rfl) (QE (by kernel_rfl)) k0 kj ag3) (trodAll_cons_mk (shut_bool underlying4 x1) (trodAll_cons_mk (shut_int underlying26 w2) (trodAll_cons_mk (Below.trod NM (by kernel_rfl) (QE (by kernel_rfl)) k3 kj ag6) trodAll_mk0)))),rfl,kj.frame _,fun h=>by cases h⟩
theorem plays_row:Rows.LegPlaysSaid :=
 OpenClaim.holds_of_wide 3 Tryz.f3 rfl rfl rfl rfl rfl rfl rfl ⟨rfl,rfl,rfl,rfl,rfl⟩ rfl rfl rfl rfl rfl (by kernel_rfl) func3 (by kernel_rfl)
  (QE (by kernel_rfl)) (by unfold Func.isWrapper;first | (rw [if_pos (by decide +kernel)];kernel_rfl) | (rw [if_neg (by decide +kernel)];exact ⟨rfl,rfl⟩))
  (fun os ln H enc _=>plays_lifted os ln H enc)
theorem plays_card:Rows.LegPlaysCardSaid :=
 Claim7.holds_tied_plain_at .later [] [.data,.data,.data] true Rows.legPlaysCard.stood.harness false
  plays_row (fun _ h=>by cases h) (by kernel_rfl) (fun _ h=>by cases h) legPlays_row_tie rfl ⟨rfl,rfl⟩ (by kernel_rfl) rfl
  (fun f fn hf My=>by
   obtain rfl:f=3:=QF ((show prog.funcNamed Rows.legPlaysRow.func=some 3 by kernel_rfl).symm.trans hf) |>.symm;obtain rfl:fn=Tryz.f3:=(QF (func3.symm.trans My)).symm;exact ⟨by kernel_rfl,fun j t ht=>by
    rw [Tryz.params3] at ht;have hm:t∈[25,4,26,27]:=by simpa using Array.mem_of_getElem? ht
    have dx:([25,4,26,27].all fun u=>!prog.wantsStandIn u)=true:=by kernel_rfl
    exact (show prog.wantsStandIn t=false by simpa using NR.1 dx t hm)⟩)
  (by kernel_rfl)
end Go.Proofs.YtlahonjmfecikaaGreatDoor
