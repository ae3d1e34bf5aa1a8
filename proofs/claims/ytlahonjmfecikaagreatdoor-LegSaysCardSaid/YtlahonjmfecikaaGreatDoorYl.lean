/- The texts below, joined. -/
import Derived.Test.YtlahonjmfecikaaGreatDoorYk
import Derived.Shelf.Strings.Shaped
import Derived.Shelf.LaysM
import Derived.Test.YtlahonjmfecikaaGreatDoorProg
import Derived.HandedShaped
import Derived.Lay
import Derived.ProofKit
import Derived.LaidMore
import Derived.Lib.LaidTab
import Derived.Stop.Joined
import Derived.Stop.LaidErr
import Derived.OpenShut
set_option maxRecDepth 100000
set_option linter.unusedVariables false
set_option linter.unusedSimpArgs false
set_option maxRecDepth 100000
namespace Go.Proofs.YtlahonjmfecikaaGreatDoor.Stm
open Go.RowKit MaskPlain FramePlain StreamPlain Mas Fra
theorem str_from {W:World} {ev:Operand→Value} {o:Oper} {x y:Operand} {s:ByteArray} {n:Nat} (ho:o.op=.slice 9 x (some y) none none) (hx:ev x=.string s) (hy:ev y=.int .i64 (n:Int)) (h:n≤s.size):(execOp ev o).run Tryz.prog W=.ok (.value (.string (s.extract n s.size))) W:=by
 simp only [execOp,ho,hx,hy,Option.map_some,Option.map_none]
 have h':(n:Int)≤(s.size:Int):=by omega
 go_simp
theorem bytes_one {s:ByteArray} {x:Nat} {xs:List Nat} (h:bytes s=x :: xs):bytes (s.extract 0 1)=[x]:=by
 rw [bytes_extract,h];rfl
set_option maxHeartbeats 4000000 in
theorem refone_any (s:ByteArray) (masked:Bool) (most:Int) (w:World) (hs:s.size≤100000) (hmo:most≤9223372036854775807):Calls Tryz.prog 63 #[.string s,.bool masked,.int .i64 most] w fun e w'=>e=.returned (resF (one (bytes s) masked most))∧Sl (Below w.heap.size w w'):=by
 obtain ⟨f,n,k,hgf⟩:∃ f n k,getF (bytes s) most=(f,n,k):=⟨_,_,_,rfl⟩
 obtain ⟨rf,ro,rm,ka,kb,kc,kd,rd,hval⟩:=val_parts f
 have FW:∀ V,Calls Tryz.prog 94 #[.string s,.int .i64 most] V fun e w'=>e=.returned (.tuple #[.agg #[.bool rf,.int .i64 ro,.bool rm,.int .u8 ((ka:Nat):Int),.int .u8 ((kb:Nat):Int),.int .u8 ((kc:Nat):Int),.int .u8 ((kd:Nat):Int),.string rd],.int .i64 (n:Int),.int .i64 (k:Int)])∧Sl (Below V.heap.size V w'):=fun V=>by
  have:=refgetf_any s most V hs hmo
  rw [hgf,resF,hval] at this
  exact this
 obtain ⟨w1,hw1⟩:∃ w1,w.alloc (.cells #[.bool false,.int .i64 0,.bool false,.int .u8 0,.int .u8 0,.int .u8 0,.int .u8 0,.string {data:=#[]}] 61)=w1:=⟨_,rfl⟩
 have HB1:Sl (Below w.heap.size w w1):=⟨by rw [← hw1];exact (bx_below w _).out⟩
 have HZ1:Sl (w1.heap[w.heap.size]? = some (.cells #[.bool false,.int .i64 0,.bool false,.int .u8 0,.int .u8 0,.int .u8 0,.int .u8 0,.string {data:=#[]}] 61 (0,0))):=⟨by rw [← hw1];exact bx_new _ _⟩
 by_cases h0:s.size=0
 ·have hb:bytes s=[]:=List.eq_nil_of_length_eq_zero (by rw [bytes_length];exact h0)
  have HQ:Sl (resF (one (bytes s) masked most)=.tuple #[.agg #[.bool rf,.int .i64 ro,.bool rm,.int .u8 ((ka:Nat):Int),.int .u8 ((kb:Nat):Int),.int .u8 ((kc:Nat):Int),.int .u8 ((kd:Nat):Int),.string rd],.int .i64 (n:Int),.int .i64 (k:Int)]):=⟨by
   rw [one_short (by rw [hb];decide),hgf,resF,hval]⟩
  have hq1:((s.size:Int)>0)=False:=eq_false (by omega)
  have hq1':(0<s.size)=False:=eq_false (by omega)
  have hq2:((s.size:Int)>1)=False:=eq_false (by omega)
  clear hgf hval hs hmo hb h0
  go_enter Tryz.func63,Tryz.ntmps63
  go_wp2_with fail
  refine (FW w1).mono ?_
  rintro e w4 ⟨rfl,HX4⟩
  have HB4:Sl (Below w.heap.size w w4):=⟨HB1.out.trans (HX4.out.mono HB1.out.size)⟩
  have HZ4:Sl (w4.heap[w.heap.size]? = some (.cells #[.bool false,.int .i64 0,.bool false,.int .u8 0,.int .u8 0,.int .u8 0,.int .u8 0,.string {data:=#[]}] 61 (0,0))):=⟨below_key HZ1.out HX4.out⟩
  clear FW HX4
  have HI:=fr_info (cs:=#[.bool rf,.int .i64 ro,.bool rm,.int .u8 ((ka:Nat):Int),.int .u8 ((kb:Nat):Int),.int .u8 ((kc:Nat):Int),.int .u8 ((kd:Nat):Int),.string rd]) rfl
  go_wp2_with (refine wpList_store_row rfl 61 (.tmp 6) (.tmp 41) rfl w.heap.size #[.bool rf,.int .i64 ro,.bool rm,.int .u8 ((ka:Nat):Int),.int .u8 ((kb:Nat):Int),.int .u8 ((kc:Nat):Int),.int .u8 ((kd:Nat):Int),.string rd] rfl rfl 61 #[.bool false,.int .i64 0,.bool false,.int .u8 0,.int .u8 0,.int .u8 0,.int .u8 0,.string {data:=#[]}] HZ4.out HI rfl (fr_all _ _ _ _ _ _ _ _) ?_)
  refine bodyPost_ret (ret_fr rfl _ _ w.heap.size 61 _ (0,0) rfl (setRow_heap _ _ _ _ _ _ HZ4.out) rfl) rfl ?_
  rw [HQ.out]
  exact ⟨rfl,⟨below_setRow HB4.out (Nat.le_refl _) _⟩⟩
 ·obtain ⟨x,xs,hb⟩:∃ x xs,bytes s=x :: xs:=by
   cases h:bytes s with
   | nil=>rw [← bytes_length,h] at h0;exact absurd rfl h0
   | cons x xs=>exact ⟨x,xs,rfl⟩
  have hx:x<256:=bytes_small s x (by rw [hb];simp)
  have hq1:((s.size:Int)>0)=True:=eq_true (by omega)
  have hq1':(0<s.size)=True:=eq_true (by omega)
  obtain ⟨f1,n1,k1,hg1⟩:∃ f n k,getF [x] most=(f,n,k):=⟨_,_,_,rfl⟩
  obtain ⟨rf1,ro1,rm1,ka1,kb1,kc1,kd1,rd1,hval1⟩:=val_parts f1
  have F1:∀ V,Calls Tryz.prog 94 #[.string (s.extract 0 1),.int .i64 most] V fun e w'=>e=.returned (.tuple #[.agg #[.bool rf1,.int .i64 ro1,.bool rm1,.int .u8 ((ka1:Nat):Int),.int .u8 ((kb1:Nat):Int),.int .u8 ((kc1:Nat):Int),.int .u8 ((kd1:Nat):Int),.string rd1],.int .i64 (n1:Int),.int .i64 (k1:Int)])∧Sl (Below V.heap.size V w'):=fun V=>by
   have:=refgetf_any (s.extract 0 1) most V (by rw [ByteArray.size_extract];omega) hmo
   rw [bytes_one hb,hg1,resF,hval1] at this
   exact this
  have hk1:=get_first x most
  rw [hg1] at hk1
  simp only at hk1
  have hle1:1≤s.size:=by omega
  by_cases hbad:bad x=true
  ·rw [if_pos hbad] at hk1
   subst hk1
   have HQ:Sl (resF (one (bytes s) masked most)=.tuple #[.agg #[.bool false,.int .i64 0,.bool false,.int .u8 0,.int .u8 0,.int .u8 0,.int .u8 0,.string {data:=#[]}],.int .i64 0,.int .i64 91]):=⟨by rw [hb,one_cons,if_pos hbad];rfl⟩
   have hq9:(((91:Nat):Int)==91)=true:=rfl
   clear hgf hval hs hmo hb h0 hx hg1 hval1 hbad FW
   go_enter Tryz.func63,Tryz.ntmps63
   go_wp2_with fail
   refine (F1 w1).mono ?_
   rintro e w2 ⟨rfl,HX2⟩
   obtain ⟨w3,hw3⟩:∃ V,(w2.alloc (.cells #[.bool false,.int .i64 0,.bool false,.int .u8 0,.int .u8 0,.int .u8 0,.int .u8 0,.string {data:=#[]}] 61)).setRow w2.heap.size #[.bool rf1,.int .i64 ro1,.bool rm1,.int .u8 ((ka1:Nat):Int),.int .u8 ((kb1:Nat):Int),.int .u8 ((kc1:Nat):Int),.int .u8 ((kd1:Nat):Int),.string rd1]=V:=⟨_,rfl⟩
   have HX3:Sl (Below w2.heap.size w2 w3):=⟨by rw [← hw3];exact laid_self w2 #[.bool rf1,.int .i64 ro1,.bool rm1,.int .u8 ((ka1:Nat):Int),.int .u8 ((kb1:Nat):Int),.int .u8 ((kc1:Nat):Int),.int .u8 ((kd1:Nat):Int),.string rd1]⟩
   have HB3:Sl (Below w.heap.size w w3):=⟨(HB1.out.trans (HX2.out.mono HB1.out.size)).trans (HX3.out.mono (HB1.out.trans (HX2.out.mono HB1.out.size)).size)⟩
   have HZ3:Sl (w3.heap[w.heap.size]? = some (.cells #[.bool false,.int .i64 0,.bool false,.int .u8 0,.int .u8 0,.int .u8 0,.int .u8 0,.string {data:=#[]}] 61 (0,0))):=⟨below_key (below_key HZ1.out HX2.out) HX3.out⟩
   have HI1:=fr_info (cs:=#[.bool rf1,.int .i64 ro1,.bool rm1,.int .u8 ((ka1:Nat):Int),.int .u8 ((kb1:Nat):Int),.int .u8 ((kc1:Nat):Int),.int .u8 ((kd1:Nat):Int),.string rd1]) rfl
   clear F1 HX2 HX3
   go_upto_region 3 with (refine wpList_store_row rfl 61 (.tmp 9) (.tmp 20) rfl w2.heap.size #[.bool rf1,.int .i64 ro1,.bool rm1,.int .u8 ((ka1:Nat):Int),.int .u8 ((kb1:Nat):Int),.int .u8 ((kc1:Nat):Int),.int .u8 ((kd1:Nat):Int),.string rd1] rfl rfl 61 #[.bool false,.int .i64 0,.bool false,.int .u8 0,.int .u8 0,.int .u8 0,.int .u8 0,.string {data:=#[]}] (bx_new w2 _) HI1 rfl (fr_all _ _ _ _ _ _ _ _) ?_)
   clear HI1
   have HI:=fr_info (cs:=#[.bool false,.int .i64 0,.bool false,.int .u8 0,.int .u8 0,.int .u8 0,.int .u8 0,.string {data:=#[]}]) rfl
   go_wp2_with (refine wpList_store_row rfl 61 (.tmp 6) (.tmp 25) rfl w.heap.size #[.bool false,.int .i64 0,.bool false,.int .u8 0,.int .u8 0,.int .u8 0,.int .u8 0,.string {data:=#[]}] rfl rfl 61 #[.bool false,.int .i64 0,.bool false,.int .u8 0,.int .u8 0,.int .u8 0,.int .u8 0,.string {data:=#[]}] HZ3.out HI rfl (fr_all _ _ _ _ _ _ _ _) ?_)
   refine bodyPost_ret (ret_fr rfl _ _ w.heap.size 61 _ (0,0) rfl (setRow_heap _ _ _ _ _ _ HZ3.out) rfl) rfl ?_
   rw [HQ.out]
   exact ⟨rfl,⟨below_setRow HB3.out (Nat.le_refl _) _⟩⟩
  ·rw [if_neg hbad] at hk1
   subst hk1
   have hq9:(((90:Nat):Int)==91)=false:=rfl
   have hbf:bad x=false:=by simpa using hbad
   by_cases h1:s.size=1
   ·have hq2:((s.size:Int)>1)=False:=eq_false (by omega)
    have HQ:Sl (resF (one (bytes s) masked most)=.tuple #[.agg #[.bool rf,.int .i64 ro,.bool rm,.int .u8 ((ka:Nat):Int),.int .u8 ((kb:Nat):Int),.int .u8 ((kc:Nat):Int),.int .u8 ((kd:Nat):Int),.string rd],.int .i64 (n:Int),.int .i64 (k:Int)]):=⟨by
     rw [one_short (by rw [bytes_length];omega),hgf,resF,hval]⟩
    clear hgf hval hs hmo hb h0 hx hg1 hval1 hbad hbf h1
    go_enter Tryz.func63,Tryz.ntmps63
    go_wp2_with fail
    refine (F1 w1).mono ?_
    rintro e w2 ⟨rfl,HX2⟩
    obtain ⟨w3,hw3⟩:∃ V,(w2.alloc (.cells #[.bool false,.int .i64 0,.bool false,.int .u8 0,.int .u8 0,.int .u8 0,.int .u8 0,.string {data:=#[]}] 61)).setRow w2.heap.size #[.bool rf1,.int .i64 ro1,.bool rm1,.int .u8 ((ka1:Nat):Int),.int .u8 ((kb1:Nat):Int),.int .u8 ((kc1:Nat):Int),.int .u8 ((kd1:Nat):Int),.string rd1]=V:=⟨_,rfl⟩
    have HX3:Sl (Below w2.heap.size w2 w3):=⟨by rw [← hw3];exact laid_self w2 #[.bool rf1,.int .i64 ro1,.bool rm1,.int .u8 ((ka1:Nat):Int),.int .u8 ((kb1:Nat):Int),.int .u8 ((kc1:Nat):Int),.int .u8 ((kd1:Nat):Int),.string rd1]⟩
    have HB3:Sl (Below w.heap.size w w3):=⟨(HB1.out.trans (HX2.out.mono HB1.out.size)).trans (HX3.out.mono (HB1.out.trans (HX2.out.mono HB1.out.size)).size)⟩
    have HZ3:Sl (w3.heap[w.heap.size]? = some (.cells #[.bool false,.int .i64 0,.bool false,.int .u8 0,.int .u8 0,.int .u8 0,.int .u8 0,.string {data:=#[]}] 61 (0,0))):=⟨below_key (below_key HZ1.out HX2.out) HX3.out⟩
    have HI1:=fr_info (cs:=#[.bool rf1,.int .i64 ro1,.bool rm1,.int .u8 ((ka1:Nat):Int),.int .u8 ((kb1:Nat):Int),.int .u8 ((kc1:Nat):Int),.int .u8 ((kd1:Nat):Int),.string rd1]) rfl
    clear F1 HX2 HX3
    go_upto_region 3 with (refine wpList_store_row rfl 61 (.tmp 9) (.tmp 20) rfl w2.heap.size #[.bool rf1,.int .i64 ro1,.bool rm1,.int .u8 ((ka1:Nat):Int),.int .u8 ((kb1:Nat):Int),.int .u8 ((kc1:Nat):Int),.int .u8 ((kd1:Nat):Int),.string rd1] rfl rfl 61 #[.bool false,.int .i64 0,.bool false,.int .u8 0,.int .u8 0,.int .u8 0,.int .u8 0,.string {data:=#[]}] (bx_new w2 _) HI1 rfl (fr_all _ _ _ _ _ _ _ _) ?_)
    clear HI1
    go_wp2_with fail
    refine (FW w3).mono ?_
    rintro e w4 ⟨rfl,HX4⟩
    have HB4:Sl (Below w.heap.size w w4):=⟨HB3.out.trans (HX4.out.mono HB3.out.size)⟩
    have HZ4:Sl (w4.heap[w.heap.size]? = some (.cells #[.bool false,.int .i64 0,.bool false,.int .u8 0,.int .u8 0,.int .u8 0,.int .u8 0,.string {data:=#[]}] 61 (0,0))):=⟨below_key HZ3.out HX4.out⟩
    clear FW HX4
    have HI:=fr_info (cs:=#[.bool rf,.int .i64 ro,.bool rm,.int .u8 ((ka:Nat):Int),.int .u8 ((kb:Nat):Int),.int .u8 ((kc:Nat):Int),.int .u8 ((kd:Nat):Int),.string rd]) rfl
    go_wp2_with (refine wpList_store_row rfl 61 (.tmp 6) (.tmp 41) rfl w.heap.size #[.bool rf,.int .i64 ro,.bool rm,.int .u8 ((ka:Nat):Int),.int .u8 ((kb:Nat):Int),.int .u8 ((kc:Nat):Int),.int .u8 ((kd:Nat):Int),.string rd] rfl rfl 61 #[.bool false,.int .i64 0,.bool false,.int .u8 0,.int .u8 0,.int .u8 0,.int .u8 0,.string {data:=#[]}] HZ4.out HI rfl (fr_all _ _ _ _ _ _ _ _) ?_)
    refine bodyPost_ret (ret_fr rfl _ _ w.heap.size 61 _ (0,0) rfl (setRow_heap _ _ _ _ _ _ HZ4.out) rfl) rfl ?_
    rw [HQ.out]
    exact ⟨rfl,⟨below_setRow HB4.out (Nat.le_refl _) _⟩⟩
   ·have hq2:((s.size:Int)>1)=True:=eq_true (by omega)
    obtain ⟨y,ys,hb2⟩:∃ y ys,bytes s=x :: y :: ys:=by
     cases xs with
     | nil=>have:=congrArg List.length hb;rw [bytes_length] at this;exact absurd this h1
     | cons y ys=>exact ⟨y,ys,hb⟩
    have hy:y<256:=bytes_small s y (by rw [hb2];simp)
    have h1s:1<s.size:=by omega
    have hyd:(s[1]'h1s).toNat=y:=by
     have h:=bytes_getD s 1 h1s
     rw [hb2] at h
     exact h.symm
    obtain ⟨u,hu⟩:∃ u,(decide (128≤y) != masked)=u:=⟨_,rfl⟩
    have hud:(decide ((128:Int)≤(y:Int)))=decide (128≤y):=decide_eq_decide.2 (by omega)
    obtain ⟨dd,hdd⟩:∃ d,decide (128≤y)=d:=⟨_,rfl⟩
    rw [hdd] at hud
    cases u with
    | false =>
      have HQ:Sl (resF (one (bytes s) masked most)=.tuple #[.agg #[.bool rf,.int .i64 ro,.bool rm,.int .u8 ((ka:Nat):Int),.int .u8 ((kb:Nat):Int),.int .u8 ((kc:Nat):Int),.int .u8 ((kd:Nat):Int),.string rd],.int .i64 (n:Int),.int .i64 (k:Int)]):=⟨by
       rw [hb2,one_like hu,← hb2,hgf,resF,hval]⟩
      rw [hdd] at hu
      have hu2:(!(dd==masked))=false:=hu
      clear hgf hval hs hmo hb hb2 h0 hx hg1 hval1 hbad hbf h1 hdd hu
      go_enter Tryz.func63,Tryz.ntmps63
      go_wp2_with fail
      refine (F1 w1).mono ?_
      rintro e w2 ⟨rfl,HX2⟩
      obtain ⟨w3,hw3⟩:∃ V,(w2.alloc (.cells #[.bool false,.int .i64 0,.bool false,.int .u8 0,.int .u8 0,.int .u8 0,.int .u8 0,.string {data:=#[]}] 61)).setRow w2.heap.size #[.bool rf1,.int .i64 ro1,.bool rm1,.int .u8 ((ka1:Nat):Int),.int .u8 ((kb1:Nat):Int),.int .u8 ((kc1:Nat):Int),.int .u8 ((kd1:Nat):Int),.string rd1]=V:=⟨_,rfl⟩
      have HX3:Sl (Below w2.heap.size w2 w3):=⟨by rw [← hw3];exact laid_self w2 #[.bool rf1,.int .i64 ro1,.bool rm1,.int .u8 ((ka1:Nat):Int),.int .u8 ((kb1:Nat):Int),.int .u8 ((kc1:Nat):Int),.int .u8 ((kd1:Nat):Int),.string rd1]⟩
      have HB3:Sl (Below w.heap.size w w3):=⟨(HB1.out.trans (HX2.out.mono HB1.out.size)).trans (HX3.out.mono (HB1.out.trans (HX2.out.mono HB1.out.size)).size)⟩
      have HZ3:Sl (w3.heap[w.heap.size]? = some (.cells #[.bool false,.int .i64 0,.bool false,.int .u8 0,.int .u8 0,.int .u8 0,.int .u8 0,.string {data:=#[]}] 61 (0,0))):=⟨below_key (below_key HZ1.out HX2.out) HX3.out⟩
      have HI1:=fr_info (cs:=#[.bool rf1,.int .i64 ro1,.bool rm1,.int .u8 ((ka1:Nat):Int),.int .u8 ((kb1:Nat):Int),.int .u8 ((kc1:Nat):Int),.int .u8 ((kd1:Nat):Int),.string rd1]) rfl
      clear F1 HX2 HX3
      go_upto_region 3 with (refine wpList_store_row rfl 61 (.tmp 9) (.tmp 20) rfl w2.heap.size #[.bool rf1,.int .i64 ro1,.bool rm1,.int .u8 ((ka1:Nat):Int),.int .u8 ((kb1:Nat):Int),.int .u8 ((kc1:Nat):Int),.int .u8 ((kd1:Nat):Int),.string rd1] rfl rfl 61 #[.bool false,.int .i64 0,.bool false,.int .u8 0,.int .u8 0,.int .u8 0,.int .u8 0,.string {data:=#[]}] (bx_new w2 _) HI1 rfl (fr_all _ _ _ _ _ _ _ _) ?_)
      clear HI1
      go_wp2_with fail
      refine (FW w3).mono ?_
      rintro e w4 ⟨rfl,HX4⟩
      have HB4:Sl (Below w.heap.size w w4):=⟨HB3.out.trans (HX4.out.mono HB3.out.size)⟩
      have HZ4:Sl (w4.heap[w.heap.size]? = some (.cells #[.bool false,.int .i64 0,.bool false,.int .u8 0,.int .u8 0,.int .u8 0,.int .u8 0,.string {data:=#[]}] 61 (0,0))):=⟨below_key HZ3.out HX4.out⟩
      clear FW HX4
      have HI:=fr_info (cs:=#[.bool rf,.int .i64 ro,.bool rm,.int .u8 ((ka:Nat):Int),.int .u8 ((kb:Nat):Int),.int .u8 ((kc:Nat):Int),.int .u8 ((kd:Nat):Int),.string rd]) rfl
      go_wp2_with (refine wpList_store_row rfl 61 (.tmp 6) (.tmp 41) rfl w.heap.size #[.bool rf,.int .i64 ro,.bool rm,.int .u8 ((ka:Nat):Int),.int .u8 ((kb:Nat):Int),.int .u8 ((kc:Nat):Int),.int .u8 ((kd:Nat):Int),.string rd] rfl rfl 61 #[.bool false,.int .i64 0,.bool false,.int .u8 0,.int .u8 0,.int .u8 0,.int .u8 0,.string {data:=#[]}] HZ4.out HI rfl (fr_all _ _ _ _ _ _ _ _) ?_)
      refine bodyPost_ret (ret_fr rfl _ _ w.heap.size 61 _ (0,0) rfl (setRow_heap _ _ _ _ _ _ HZ4.out) rfl) rfl ?_
      rw [HQ.out]
      exact ⟨rfl,⟨below_setRow HB4.out (Nat.le_refl _) _⟩⟩
    | true =>
      have HQ:Sl (resF (one (bytes s) masked most)=.tuple #[.agg #[.bool false,.int .i64 0,.bool false,.int .u8 0,.int .u8 0,.int .u8 0,.int .u8 0,.string {data:=#[]}],.int .i64 0,.int .i64 100]):=⟨by rw [hb2,one_unlike hbf hu];rfl⟩
      rw [hdd] at hu
      have hu2:(!(dd==masked))=true:=hu
      clear hgf hval hs hmo hb hb2 h0 hx hg1 hval1 hbad hbf h1 hdd hu FW
      go_enter Tryz.func63,Tryz.ntmps63
      go_wp2_with fail
      refine (F1 w1).mono ?_
      rintro e w2 ⟨rfl,HX2⟩
      obtain ⟨w3,hw3⟩:∃ V,(w2.alloc (.cells #[.bool false,.int .i64 0,.bool false,.int .u8 0,.int .u8 0,.int .u8 0,.int .u8 0,.string {data:=#[]}] 61)).setRow w2.heap.size #[.bool rf1,.int .i64 ro1,.bool rm1,.int .u8 ((ka1:Nat):Int),.int .u8 ((kb1:Nat):Int),.int .u8 ((kc1:Nat):Int),.int .u8 ((kd1:Nat):Int),.string rd1]=V:=⟨_,rfl⟩
      have HX3:Sl (Below w2.heap.size w2 w3):=⟨by rw [← hw3];exact laid_self w2 #[.bool rf1,.int .i64 ro1,.bool rm1,.int .u8 ((ka1:Nat):Int),.int .u8 ((kb1:Nat):Int),.int .u8 ((kc1:Nat):Int),.int .u8 ((kd1:Nat):Int),.string rd1]⟩
      have HB3:Sl (Below w.heap.size w w3):=⟨(HB1.out.trans (HX2.out.mono HB1.out.size)).trans (HX3.out.mono (HB1.out.trans (HX2.out.mono HB1.out.size)).size)⟩
      have HZ3:Sl (w3.heap[w.heap.size]? = some (.cells #[.bool false,.int .i64 0,.bool false,.int .u8 0,.int .u8 0,.int .u8 0,.int .u8 0,.string {data:=#[]}] 61 (0,0))):=⟨below_key (below_key HZ1.out HX2.out) HX3.out⟩
      have HI1:=fr_info (cs:=#[.bool rf1,.int .i64 ro1,.bool rm1,.int .u8 ((ka1:Nat):Int),.int .u8 ((kb1:Nat):Int),.int .u8 ((kc1:Nat):Int),.int .u8 ((kd1:Nat):Int),.string rd1]) rfl
      clear F1 HX2 HX3
      go_upto_region 3 with (refine wpList_store_row rfl 61 (.tmp 9) (.tmp 20) rfl w2.heap.size #[.bool rf1,.int .i64 ro1,.bool rm1,.int .u8 ((ka1:Nat):Int),.int .u8 ((kb1:Nat):Int),.int .u8 ((kc1:Nat):Int),.int .u8 ((kd1:Nat):Int),.string rd1] rfl rfl 61 #[.bool false,.int .i64 0,.bool false,.int .u8 0,.int .u8 0,.int .u8 0,.int .u8 0,.string {data:=#[]}] (bx_new w2 _) HI1 rfl (fr_all _ _ _ _ _ _ _ _) ?_)
      clear HI1
      have HI:=fr_info (cs:=#[.bool false,.int .i64 0,.bool false,.int .u8 0,.int .u8 0,.int .u8 0,.int .u8 0,.string {data:=#[]}]) rfl
      go_wp2_with (refine wpList_store_row rfl 61 (.tmp 6) (.tmp 37) rfl w.heap.size #[.bool false,.int .i64 0,.bool false,.int .u8 0,.int .u8 0,.int .u8 0,.int .u8 0,.string {data:=#[]}] rfl rfl 61 #[.bool false,.int .i64 0,.bool false,.int .u8 0,.int .u8 0,.int .u8 0,.int .u8 0,.string {data:=#[]}] HZ3.out HI rfl (fr_all _ _ _ _ _ _ _ _) ?_)
      refine bodyPost_ret (ret_fr rfl _ _ w.heap.size 61 _ (0,0) rfl (setRow_heap _ _ _ _ _ _ HZ3.out) rfl) rfl ?_
      rw [HQ.out]
      exact ⟨rfl,⟨below_setRow HB3.out (Nat.le_refl _) _⟩⟩
theorem grown_then_of {w w1 w2:World} {r:Option Nat} (k:Below w.heap.size w w1) (h:w1.grownBy w2 r):w.grownBy w2 r :=
 ⟨h.os.trans k.os,h.tape.trans k.tape,h.output.trans k.output,Nat.le_trans k.size h.size,fun j hj hne=>(h.block j (Nat.lt_of_lt_of_le hj k.size) hne).trans (k.block j hj)⟩
def strL (v:Value):Nat:=match v with | .string s=>s.size | _=>0
set_option maxHeartbeats 4000000 in
theorem refall_any (s:ByteArray) (masked:Bool) (most:Int) (w:World) (hs:s.size≤100000) (hmo:most≤9223372036854775807) (gs:List Fr) (e lf:Nat) (hall:all (bytes s) masked most=(gs,e,lf)) :
 Calls Tryz.prog 26 #[.string s,.bool masked,.int .i64 most] w fun x w'=>∃ vf,x=.returned (.tuple #[vf,.int .i64 (e:Int),.int .i64 (lf:Int)])∧Sl (OwnR w' w.heap.size vf gs)∧Sl (Below w.heap.size w w'):=by
 have HALL:=Sl.mk hall
 have HS:=Sl.mk hs
 have HMO:=Sl.mk hmo
 have HO0:Sl (OwnR (w.alloc (.cells #[] 61)) w.heap.size (.slice (some ⟨w.heap.size,0,none⟩) 0 0) []):=⟨World.ownsRow_lit w #[] 0 (Nat.le_refl _) (by decide) rfl⟩
 have HB0:Sl (Below w.heap.size w (w.alloc (.cells #[] 61))):=⟨(Below.refl _ _).alloc (Nat.le_refl _) _⟩
 clear hall hs hmo
 go_enter Tryz.func26,Tryz.ntmps26
 go_wp2
 go_loopw [0,9] (fun y u0 wr=>∃ (S0:ByteArray) (u:Value) (fs:List Fr),y=.string S0∧u=u0∧Sl (all (bytes s) masked most=(fs++(all (bytes S0) masked most).1,(all (bytes S0) masked most).2))∧Sl (S0.size≤s.size∧2*fs.length+S0.size≤s.size)∧Sl (OwnR wr w.heap.size u fs)∧Sl (Below w.heap.size w wr)) (fun y _ _=>strL y)
 case atStart=>exact ⟨s,_,[],rfl,rfl,⟨rfl⟩,⟨Nat.le_refl _,by simp⟩,HO0,HB0⟩
 case round =>
  obtain ⟨S0,u,fs,rfl,rfl,HA,HSZ,HO,HB⟩:=hrel
  obtain ⟨f,n,k,hone⟩:∃ f n k,one (bytes S0) masked most=(f,n,k):=⟨_,_,_,rfl⟩
  have CO:=refone_any S0 masked most wr (by have:=HSZ.out.1;have:=HS.out;omega) HMO.out
  obtain ⟨rf,ro,rm,ka,kb,kc,kd,rd,hval⟩:=val_parts f
  rw [hone,resF,hval] at CO
  have hcv:(cv f).toArray=#[.bool rf,.int .i64 ro,.bool rm,.int .u8 ((ka:Nat):Int),.int .u8 ((kb:Nat):Int),.int .u8 ((kc:Nat):Int),.int .u8 ((kd:Nat):Int),.string rd]:=by have h:=hval;rw [cv_val] at h;injection h
  have hst:=all_step (bytes S0) masked most (bytes_small S0)
  rw [hone] at hst
  simp only at hst
  have hn:=one_n (bytes_small S0) hone
  rw [bytes_length] at hn
  clear hval hone
  go_wp2_with fail
  refine CO.mono ?_
  rintro e2 w2 ⟨rfl,HX2⟩
  clear CO
  obtain ⟨w3,hw3⟩:∃ V,(w2.alloc (.cells #[.bool false,.int .i64 0,.bool false,.int .u8 0,.int .u8 0,.int .u8 0,.int .u8 0,.string {data:=#[]}] 61)).setRow w2.heap.size #[.bool rf,.int .i64 ro,.bool rm,.int .u8 ((ka:Nat):Int),.int .u8 ((kb:Nat):Int),.int .u8 ((kc:Nat):Int),.int .u8 ((kd:Nat):Int),.string rd]=V:=⟨_,rfl⟩
  have HX3:Sl (Below w2.heap.size w2 w3):=⟨by rw [← hw3];exact laid_self w2 #[.bool rf,.int .i64 ro,.bool rm,.int .u8 ((ka:Nat):Int),.int .u8 ((kb:Nat):Int),.int .u8 ((kc:Nat):Int),.int .u8 ((kd:Nat):Int),.string rd]⟩
  have HXX:Sl (Below wr.heap.size wr w3):=⟨HX2.out.trans (HX3.out.mono HX2.out.size)⟩
  have HB3:Sl (Below w.heap.size w w3):=⟨HB.out.trans (HXX.out.mono HB.out.size)⟩
  have HY3:Sl (w3.heap[w2.heap.size]? = some (.cells #[.bool rf,.int .i64 ro,.bool rm,.int .u8 ((ka:Nat):Int),.int .u8 ((kb:Nat):Int),.int .u8 ((kc:Nat):Int),.int .u8 ((kd:Nat):Int),.string rd] 61 (0,0))):=⟨by rw [← hw3];exact (laid_fr #[.bool rf,.int .i64 ro,.bool rm,.int .u8 ((ka:Nat):Int),.int .u8 ((kb:Nat):Int),.int .u8 ((kc:Nat):Int),.int .u8 ((kd:Nat):Int),.string rd] (Below.refl _ _)).2⟩
  have HO3:=Sl.mk (HO.out.below HXX.out)
  have HI1:=fr_info (cs:=#[.bool rf,.int .i64 ro,.bool rm,.int .u8 ((ka:Nat):Int),.int .u8 ((kb:Nat):Int),.int .u8 ((kc:Nat):Int),.int .u8 ((kd:Nat):Int),.string rd]) rfl
  clear HX2 HX3 HXX HO HB
  by_cases h9:k=90
  ·subst h9
   rw [if_pos rfl,bytes_length] at hst
   have ha:=HA.out
   rw [hst,HALL.out] at ha
   injection ha with ha1 ha
   injection ha with ha2 ha3
   subst ha2 ha3
   have hO4:Sl (OwnR w3 w.heap.size u gs):=⟨by rw [ha1,List.append_nil];exact HO3.out⟩
   have hq9:(((90:Nat):Int)==90)=true:=rfl
   clear hst hn HA HSZ HO3 HALL ha1 hcv HY3
   go_wp2_with (refine wpList_store_row rfl 61 (.tmp 10) (.tmp 19) rfl w2.heap.size #[.bool rf,.int .i64 ro,.bool rm,.int .u8 ((ka:Nat):Int),.int .u8 ((kb:Nat):Int),.int .u8 ((kc:Nat):Int),.int .u8 ((kd:Nat):Int),.string rd] rfl rfl 61 #[.bool false,.int .i64 0,.bool false,.int .u8 0,.int .u8 0,.int .u8 0,.int .u8 0,.string {data:=#[]}] (bx_new w2 _) HI1 rfl (fr_all _ _ _ _ _ _ _ _) ?_)
   go_ret3
   exact ⟨u,rfl,hO4,HB3⟩
  ·have hq9:((k:Int)==90)=false:=by simp;omega
   rw [if_neg h9] at hst
   by_cases h0:k=0
   ·subst h0
    have hq0:(((0:Nat):Int) != 0)=false:=rfl
    rw [if_neg (by decide)] at hst
    have hn2:=hn.2.2 rfl
    have HNL:Sl (n≤S0.size):=⟨hn.1⟩
    have HA':Sl (all (bytes s) masked most=((fs++[f])++(all (bytes (S0.extract n S0.size)) masked most).1,(all (bytes (S0.extract n S0.size)) masked most).2)):=⟨by
     have h:=HA.out
     rw [hst] at h
     rw [h,bytes_extract,List.take_of_length_le (by rw [bytes_length];exact Nat.le_refl _)]
     simp⟩
    have hsz2:(S0.extract n S0.size).size=S0.size-n:=by rw [ByteArray.size_extract];omega
    have HSZ':Sl ((S0.extract n S0.size).size≤s.size∧2*(fs++[f]).length+(S0.extract n S0.size).size≤s.size):=⟨by
     have h1:=HSZ.out
     have h2:=HNL.out
     rw [hsz2,List.length_append]
     simp only [List.length_singleton]
     omega⟩
    have HLEN:Sl (fs.length+[f].length≤1000000):=⟨by have:=HSZ.out.2;have:=HS.out;simp;omega⟩
    have HDEC:Sl ((S0.extract n S0.size).size<S0.size):=⟨by have:=HNL.out;omega⟩
    clear hst hn HA hn2 h9 hsz2
    go_upto_region 7 with (refine wpList_store_row rfl 61 (.tmp 10) (.tmp 19) rfl w2.heap.size #[.bool rf,.int .i64 ro,.bool rm,.int .u8 ((ka:Nat):Int),.int .u8 ((kb:Nat):Int),.int .u8 ((kc:Nat):Int),.int .u8 ((kd:Nat):Int),.string rd] rfl rfl 61 #[.bool false,.int .i64 0,.bool false,.int .u8 0,.int .u8 0,.int .u8 0,.int .u8 0,.string {data:=#[]}] (bx_new w2 _) HI1 rfl (fr_all _ _ _ _ _ _ _ _) ?_)
    obtain ⟨Rw,hRw⟩:∃ R,w3.drew=R:=⟨_,rfl⟩
    have HS0:Below w3.heap.size w3 Rw:=by rw [← hRw];exact (Below.refl _ _).drew
    refine wp_region_noPanic ?_
    refine wp_region_held (S:=fun _=>True) (by kernel_rfl) ?_
    change wpAnyH _ _ _ _ _ _ _ _ w3.drew
    rw [hRw]
    clear hRw
    have HYR:=below_key HY3.out HS0
    have HOR:=HO3.out.below HS0
    obtain ⟨A7,hA7⟩:∃ V,Rw.alloc (.cells #[.bool rf,.int .i64 ro,.bool rm,.int .u8 ((ka:Nat):Int),.int .u8 ((kb:Nat):Int),.int .u8 ((kc:Nat):Int),.int .u8 ((kd:Nat):Int),.string rd] 61)=V:=⟨_,rfl⟩
    have BA7:Below Rw.heap.size Rw A7:=by rw [← hA7];exact (Below.refl _ _).alloc (Nat.le_refl _) _
    have HOA:=HOR.below BA7
    have hNA:w.heap.size≤A7.heap.size:=Nat.le_trans (Nat.le_trans HB3.out.size HS0.size) BA7.size
    obtain ⟨u',w8,hap,HO8,HG8,_⟩:=add_frs HOA (frs_one (W:=A7) (g:=Rw.heap.size) (f:=f) (by rw [← hA7];exact alloc_new _ _ _ rfl) hcv.symm) HLEN.out hNA
    refine heldTake (d:=some 31) (op:=.move (Operand.tmp 9)) (g:=none) 0 ?v0a rfl (by kernel_rfl) (by kernel_rfl) (by kernel_rfl) (by kernel_rfl) ?y0a trivial ?_
    case y0a=>intro o' ho W hS;simp only [execOp,ho];go_simp;try rfl
    simp only [Act.put,List.setIfInBounds_toArray,List.set_cons_zero,List.set_cons_succ]
    refine heldTake (d:=some 35) (op:=.move (Operand.tmp 0)) (g:=none) 4 ?v4a rfl (by kernel_rfl) (by kernel_rfl) (by kernel_rfl) (by kernel_rfl) ?y4a trivial ?_
    case y4a=>intro o' ho W hS;simp only [execOp,ho];go_simp;try rfl
    simp only [Act.put,List.setIfInBounds_toArray,List.set_cons_zero,List.set_cons_succ]
    refine heldTake (d:=some 36) (op:=.move (Operand.tmp 11)) (g:=none) 5 ?v5a rfl (by kernel_rfl) (by kernel_rfl) (by kernel_rfl) (by kernel_rfl) ?y5a trivial ?_
    case y5a=>intro o' ho W hS;simp only [execOp,ho];go_simp;try rfl
    simp only [Act.put,List.setIfInBounds_toArray,List.set_cons_zero,List.set_cons_succ]
    refine heldTake (d:=some 37) (op:=.slice 9 (Operand.tmp 35) (some (Operand.tmp 36)) none none) (g:=none) 6 (.string (S0.extract n S0.size)) rfl (by kernel_rfl) (by kernel_rfl) (by kernel_rfl) (by kernel_rfl) ?y6a trivial ?_
    case y6a=>intro o' ho W hS;exact str_from ho (by rfl) (by rfl) HNL.out
    simp only [Act.put,List.setIfInBounds_toArray,List.set_cons_zero,List.set_cons_succ]
    refine heldRunT (d:=some 32) (op:=.load 61 (Operand.tmp 10)) (g:=none) (t:=61) 1 (.agg #[.bool rf,.int .i64 ro,.bool rm,.int .u8 ((ka:Nat):Int),.int .u8 ((kb:Nat):Int),.int .u8 ((kc:Nat):Int),.int .u8 ((kd:Nat):Int),.string rd]) Rw rfl (by kernel_rfl) (by kernel_rfl) ?y1a trivial ?_
    case y1a=>intro o' ho ht;exact loadbox8 ho (by rfl) rfl HYR
    simp only [Act.put,List.setIfInBounds_toArray,List.set_cons_zero,List.set_cons_succ]
    refine heldRunT (d:=some 33) (op:=.buildSlice 34 1 #[(0,Operand.tmp 32)]) (g:=none) (t:=34) 2 (.slice (some ⟨Rw.heap.size,0,none⟩) 1 1) A7 rfl (by kernel_rfl) (by kernel_rfl) ?y2a trivial ?_
    case y2a=>intro o' ho ht;simp only [execOp,ho];go_simp;first | done | rw [hA7] | rfl
    simp only [Act.put,List.setIfInBounds_toArray,List.set_cons_zero,List.set_cons_succ]
    refine heldRunT (d:=some 34) (op:=.call {callee:=Callee.builtin Builtin.append,args:=#[Operand.tmp 31,Operand.tmp 33],argTypes:=#[34,34]}) (g:=none) (t:=34) 3 u' w8 rfl (by kernel_rfl) (by kernel_rfl) ?y3a trivial ?_
    case y3a=>intro o' ho ht;exact run_appB ho ht (by rfl) (by rfl) hap
    simp only [Act.put,List.setIfInBounds_toArray,List.set_cons_zero,List.set_cons_succ]
    refine heldTake (d:=some 9) (op:=.assign (Operand.tmp 34)) (g:=none) 7 ?v7a rfl (by kernel_rfl) (by kernel_rfl) (by kernel_rfl) (by kernel_rfl) ?y7a trivial ?_
    case y7a=>intro o' ho W hS;simp only [execOp,ho];go_simp;try rfl
    simp only [Act.put,List.setIfInBounds_toArray,List.set_cons_zero,List.set_cons_succ]
    refine heldTake (d:=some 0) (op:=.assign (Operand.tmp 37)) (g:=none) 8 ?v8a rfl (by kernel_rfl) (by kernel_rfl) (by kernel_rfl) (by kernel_rfl) ?y8a trivial ?_
    case y8a=>intro o' ho W hS;simp only [execOp,ho];go_simp;try rfl
    simp only [Act.put,List.setIfInBounds_toArray,List.set_cons_zero]
    refine wpAnyH_done (by kernel_rfl) ?_ _
    refine NoPanic.normal ?_
    have HO8':=Sl.mk HO8
    have HB8:Sl (Below w.heap.size w w8):=⟨(HB3.out.trans ((HS0.mono HB3.out.size))).grown ((grown_then_of BA7 HG8)) (Nat.le_trans HB3.out.size HS0.size) (fun g hg=>HOA.ge hg)⟩
    clear HS0 HYR HOR BA7 HOA hNA hap HO8 HG8 hA7 HY3 HO3 HB3
    go_wp2
    exact ⟨⟨S0.extract n S0.size,u',fs++[f],rfl,rfl,HA',HSZ',HO8',HB8⟩,HDEC.out⟩
   ·have hq0:((k:Int) != 0)=true:=by simp;omega
    rw [if_pos h0] at hst
    have ha:=HA.out
    rw [hst,HALL.out] at ha
    injection ha with ha1 ha
    injection ha with ha2 ha3
    subst ha2 ha3
    have hO4:Sl (OwnR w3 w.heap.size u gs):=⟨by rw [ha1,List.append_nil];exact HO3.out⟩
    clear hst hn HA HSZ HO3 HALL ha1 hcv HY3 h0 h9
    go_wp2_with (refine wpList_store_row rfl 61 (.tmp 10) (.tmp 19) rfl w2.heap.size #[.bool rf,.int .i64 ro,.bool rm,.int .u8 ((ka:Nat):Int),.int .u8 ((kb:Nat):Int),.int .u8 ((kc:Nat):Int),.int .u8 ((kd:Nat):Int),.string rd] rfl rfl 61 #[.bool false,.int .i64 0,.bool false,.int .u8 0,.int .u8 0,.int .u8 0,.int .u8 0,.string {data:=#[]}] (bx_new w2 _) HI1 rfl (fr_all _ _ _ _ _ _ _ _) ?_)
    go_ret3
    exact ⟨u,rfl,hO4,HB3⟩
end Go.Proofs.YtlahonjmfecikaaGreatDoor.Stm
set_option maxRecDepth 100000
namespace Go.Proofs.YtlahonjmfecikaaGreatDoor.Leg
open Go.RowKit Stm
open FramePlain (Fr Fr0)
open LegPlain (Cf Lg)
open Msg (Kept MacS Mine)
open LegPlain (Inv Few CfOk Good came evs errs react bound feed fail L0 takeN pend wts)
open MsgPlain (Ev Ms M0 run)
open Evt
theorem control_gone (c:Cf) (l:Lg) (op:Int) (d:List Nat):(LegPlain.control c l op d).gone=l.gone:=mv_gone c _ _
theorem send_gone (c:Cf) (l:Lg) (op:Int) (t:List Nat):(LegPlain.send c l op t).1.gone=l.gone:=by
 unfold LegPlain.send
 split
 ·exact mv_gone c _ _
 ·rfl
theorem ping_gone (c:Cf) (l:Lg) (d:List Nat):(LegPlain.ping c l d).1.gone=l.gone:=by
 unfold LegPlain.ping
 split
 ·rfl
 ·exact control_gone c l 9 d
theorem close_gone (c:Cf) (l:Lg) (code:Int) (w:List Nat):(LegPlain.close c l code w).1.gone=l.gone:=by
 unfold LegPlain.close
 split
 ·rfl
 ·exact control_gone c _ 8 _
theorem pong_gone (c:Cf) (l:Lg) (d:List Nat):(LegPlain.pong c l d).gone=l.gone:=by
 unfold LegPlain.pong
 split
 ·rfl
 ·split
  ·exact mv_gone c _ _
  ·exact control_gone c l 10 d
theorem react_gone (c:Cf) (l:Lg) (x:Ev):(react c l x).gone=l.gone:=by
 unfold LegPlain.react
 split
 ·exact pong_gone c l _
 ·split
  ·exact close_gone c _ _ _
  ·rfl
theorem fold_gone (c:Cf):∀ (xs:List Ev) (l:Lg),(xs.foldl (react c) l).gone=l.gone
 | [],_=>rfl
 | x :: xs,l=>(fold_gone c xs (react c l x)).trans (react_gone c l x)
theorem feed_gone (c:Cf) (l:Lg) (b:List Nat):(feed c l b).1.gone=l.gone:=by
 unfold LegPlain.feed
 split
 ·rfl
 ·show (if errs c l b≠0 then fail c ((evs c l b).foldl (react c) (came c l b)) (errs c l b) else (evs c l b).foldl (react c) (came c l b)).gone=_
  split
  ·unfold LegPlain.fail
   rw [close_gone]
   exact fold_gone c _ _
  ·exact fold_gone c _ _
set_option maxHeartbeats 8000000 in
theorem out2_any {w0 W:World} {L:Nat} {S:Nat→Prop} {c:Cf} {l:Lg} {k:Nat} (h:LegH w0 W L S c l k) (hp:pend l≤100000):Calls Tryz.prog 25 #[.pointer (some ⟨L,0,none⟩)] W fun e w'=>∃ m s S',e=.returned (.string (strOf s))∧Sl (LegH w0 w' L S' c m k)∧Sl (FGoes W w' S S')∧Sl (LegPlain.Quiet m∧Drain l m s∧s.length≤pend l):=by
 obtain ⟨M,hM⟩:∃ M,(100000:Nat)=M:=⟨_,rfl⟩
 rw [hM] at hp
 have HM:=Sl.mk hM
 have HP:=Sl.mk hp
 have H0:Sl (LegH w0 W L S c l k∧FGoes W W S S∧Drain l l []):=⟨h,FGoes.refl _ _,Drain.refl l⟩
 have HT:Sl (l.tail.length≤14+max c.frm 125):=⟨h.good.few.tail⟩
 have HC:=Sl.mk h.cf
 clear h hp hM
 go_enter Tryz.func25,Tryz.ntmps25
 go_wp2
 go_loopw [3,4] (fun u3 u4 wr=>∃ (i:Nat) (m:Lg) (S1:Nat→Prop) (s:List Nat),u3=.string (strOf s)∧u4=.int .i64 (i:Int)∧i≤M∧i+pend m≤pend l∧s.length≤1000*i∧Sl (s.length+pend m≤pend l)∧Sl (LegH w0 wr L S1 c m k∧FGoes W wr S S1∧Drain l m s)) (fun _ u4 _=>M-(intOf u4).toNat)
 case atStart=>exact ⟨0,l,S,[],by rw [Cut.strOf_nil],rfl,by omega,by omega,by simp,⟨by simp⟩,H0⟩
 case round =>
  obtain ⟨i,m,S1,s,rfl,rfl,hi,him,hsl,HLN,HR⟩:=hrel
  clear H0
  have HI:=Sl.mk him
  have HSL:=Sl.mk hsl
  clear him hsl
  by_cases hlt:i<M
  ·have hq:decide ((i:Int)<100000)=true:=decide_eq_true (by have:=HM.out;omega)
   have hi2:(i:Int)<100000:=by have:=HM.out;omega
   by_cases hr:m.ring=[]
   ·have QT:=quiet_ex HR.out.1 true (decide_eq_true hr)
    have HQ:Sl (LegPlain.Quiet m):=⟨LegPlain.quiet_of HR.out.1.good.few.ok HC.out.o1 hr⟩
    clear hr
    go_wp2_with fail
    refine QT.mono ?_
    rintro e w1 ⟨rfl,rfl⟩
    clear QT
    go_wp2
    go_ret
    exact ⟨m,s,S1,rfl,⟨HR.out.1⟩,⟨HR.out.2.1⟩,⟨HQ.out,HR.out.2.2,by have:=HLN.out;omega⟩⟩
   ·have QT:=quiet_ex HR.out.1 false (decide_eq_false hr)
    have HPD:Sl (i+1+pend (takeN c m 1000).1≤pend l):=⟨by
     have:=(LegPlain.take_pend HC.out.f2 HR.out.1.good.few.low (n:=1000) (by decide)).1 hr
     have:=HI.out
     omega⟩
    obtain ⟨tl,htl⟩:∃ t,m.ring.take (1000:Int).toNat=t:=⟨_,rfl⟩
    obtain ⟨n,hn⟩:∃ n,tl.length=n:=⟨_,rfl⟩
    have TK:=take_ex HR.out.1 1000 tl htl n hn _ rfl
    have HDR:Sl (Drain m (takeN c m 1000).1 tl):=⟨by rw [← htl];exact drain_take c m 1000⟩
    have HNN:=Sl.mk hn
    have HTL:Sl (tl.length≤1000):=⟨by rw [← htl,List.length_take];exact Nat.le_trans (Nat.min_le_left _ _) (by decide)⟩
    have HTK:Sl (m.ring.take (1000:Int).toNat=tl):=⟨htl⟩
    clear htl hn
    obtain ⟨m',hm'⟩:∃ m',(takeN c m 1000).1=m':=⟨_,rfl⟩
    have HLN2:Sl ((s++tl).length+pend m'≤pend l):=⟨by
     have p2:=take_pend2 HC.out.f2 HR.out.1.good.few.low 1000
     rw [hm',HTK.out] at p2
     have:=HLN.out
     rw [List.length_append];omega⟩
    rw [hm'] at TK HDR HPD
    clear hm'
    have HP2:=HP.out
    clear hr HI
    go_wp2_with fail
    refine QT.mono ?_
    rintro e w1 ⟨rfl,rfl⟩
    clear QT
    go_wp2_with fail
    refine TK.mono ?_
    rintro e w2 ⟨S2,rfl,HRB,HL,HG⟩
    clear TK
    have CV:=HRB.out.str HNN.out
    have AD:(Op.stringOp .add (strOf s) (strOf tl)).run Tryz.prog w2=.ok (.string (strOf s++strOf tl)) w2:=run_string_add_sum _ _ _ (by
     have:=HSL.out;have:=HTL.out;have:=HM.out
     rw [strOf_size,strOf_size];omega)
    have HN:Sl (LegH w0 w2 L S2 c m' k∧FGoes W w2 S S2∧Drain l m' (s++tl)):=⟨HL.out,HR.out.2.1.trans HG.out,HR.out.2.2.trans HDR.out⟩
    go_wp2
    exact ⟨⟨i+1,_,S2,_,by rw [Fra.strOf_app],by go_num,by omega,HPD.out,by rw [List.length_append];have:=HSL.out;have:=HTL.out;omega,HLN2,HN⟩,by simp [intOf];omega⟩
  ·have hq:decide ((i:Int)<100000)=false:=decide_eq_false (by have:=HM.out;omega)
   have HQ:Sl (LegPlain.Quiet m):=⟨LegPlain.quiet_pend (by have:=HI.out;have:=HP.out;omega)⟩
   go_wp2
   go_ret
   exact ⟨m,s,S1,rfl,⟨HR.out.1⟩,⟨HR.out.2.1⟩,⟨HQ.out,HR.out.2.2,by have:=HLN.out;omega⟩⟩
theorem hist_ok {c:Cf} (hf:c.frm≤65536) {l:Lg} (h:LegPlain.Ok c l):∀ f∈l.hist,FrOk f:=fun f hf2=>by
 have h1:=h.inv.hist f hf2
 have h2:=FramePlain.form_cases h1.form
 exact ⟨h1.key,h1.keys,h1.small,by have:=h1.len;unfold maxLen;omega,by rcases h2.1 with e | e<;>omega⟩
end Go.Proofs.YtlahonjmfecikaaGreatDoor.Leg
namespace Go.Proofs
open Go.Shelf
def Tryz.laysM144_ren:Go.Shelf.Ren:=⟨fun | 144=>129 | 143=>153 | 219=>167 | 217=>168 | 225=>174 | 224=>175 | 267=>176 | 266=>177 | 314=>179 | n=>n,fun | 9=>9 | 4=>4 | 3=>3 | 5=>5 | 46=>150 | 146=>222 | 51=>26 | n=>n,fun | 1=>2 | n=>n⟩
theorem Tryz.laysM144:Go.Proofs.LaysM.n144 Tryz.prog Tryz.laysM144_ren:={
 mixed:=by kernel_rfl
 f143:=Tryz.func153.trans (congrArg some (by kernel_rfl))
 f144:=Tryz.func129.trans (congrArg some (by kernel_rfl))
 f217:=Tryz.func168.trans (congrArg some (by kernel_rfl))
 f219:=Tryz.func167.trans (congrArg some (by kernel_rfl))
 f224:=Tryz.func175.trans (congrArg some (by kernel_rfl))
 f225:=Tryz.func174.trans (congrArg some (by kernel_rfl))
 f266:=Tryz.func177.trans (congrArg some (by kernel_rfl))
 f267:=Tryz.func176.trans (congrArg some (by kernel_rfl))
 f314:=Tryz.func179.trans (congrArg some (by kernel_rfl))
 t3:=Tryz.underlying3
 a3:=Tryz.isAgg3
 z3:=Tryz.sizeOf3
 v3:=Tryz.zeroValue3
 t4:=Tryz.underlying4
 a4:=Tryz.isAgg4
 z4:=Tryz.sizeOf4
 v4:=Tryz.zeroValue4
 t5:=Tryz.underlying5
 a5:=Tryz.isAgg5
 z5:=Tryz.sizeOf5
 v5:=Tryz.zeroValue5
 t9:=Tryz.underlying9
 a9:=Tryz.isAgg9
 z9:=Tryz.sizeOf9
 v9:=Tryz.zeroValue9
 t46:=Tryz.underlying150
 a46:=Tryz.isAgg150
 z46:=Tryz.sizeOf150
 v46:=Tryz.zeroValue150
 t51:=Tryz.underlying26
 a51:=Tryz.isAgg26
 z51:=Tryz.sizeOf26
 v51:=Tryz.zeroValue26
 t146:=Tryz.underlying222
 a146:=Tryz.isAgg222
 z146:=Tryz.sizeOf222
 v146:=Tryz.zeroValue222
 g1:=by kernel_rfl
 i3:=by kernel_rfl
 i4:=by kernel_rfl
 i5:=by kernel_rfl
 i9:=by kernel_rfl
 i46:=by kernel_rfl
 i51:=by kernel_rfl
 i146:=by kernel_rfl
 m1:=by kernel_rfl
 s1_3:=fun w h=>Go.Proofs.cell_of_shapedOpen_int (zero:=#[.int .i64 0]) (t:=3) h (of_decide_eq_true (by kernel_rfl)) (by kernel_rfl) rfl (by kernel_rfl) (by kernel_rfl) Tryz.underlying3}
end Go.Proofs
set_option maxRecDepth 100000
namespace Go.Proofs.YtlahonjmfecikaaGreatDoor.LaidM
open Go.ChangeShapes Go.WideShapes Go.ChangeAt Go.RowKit Mas
def rowData (r:Row):DataW Unit:=.agg [.lit (.int .u8 (r.first:Int)),.lit (.int .i64 (r.behind:Int)),.lit (.int .u64 (r.least:Int)),.lit (.int .u64 (r.most:Int))]
theorem row_cells {enc:TypeId×Value→Unit} {w:World} {base:Nat} {sp:Nat→Bool} {held:Bool} {fuel:Nat} {cs:List Value} {r:Row} {p:List MemPlace}
 (h:DataW.trod enc Tryz.prog w base sp held fuel 214 cs=some (rowData r,p)):cs=r.cells:=by
 obtain ⟨xs,n,_,hx,hl,hlen,hf⟩:=DataW.trod_struct Tryz.underlying214 h
 have cw:Tryz.prog.cellsOf 214=4:=by kernel_rfl
 have cu:Tryz.prog.cellsOf 162=1:=by kernel_rfl
 have c3:Tryz.prog.cellsOf 3=1:=by kernel_rfl
 have c5:Tryz.prog.cellsOf 5=1:=by kernel_rfl
 rw [cw] at hl
 match xs,hlen with
 | [y0,y1,y2,y3],_ =>
   have h0:=hf 0 _ rfl
   have h1:=hf 1 _ rfl
   have h2:=hf 2 _ rfl
   have h3:=hf 3 _ rfl
   simp only [List.getElem?_cons_zero,List.getElem?_cons_succ] at h0 h1 h2 h3
   have hx1:=congrArg Prod.fst hx
   simp only [rowData,List.map_cons,List.map_nil,DataW.agg.injEq,List.cons.injEq,and_true] at hx1
   obtain ⟨e0,e1,e2,e3⟩:=hx1
   obtain ⟨d0,p0⟩:=y0
   obtain ⟨d1,p1⟩:=y1
   obtain ⟨d2,p2⟩:=y2
   obtain ⟨d3,p3⟩:=y3
   simp only at e0 e1 e2 e3
   subst e0 e1 e2 e3
   obtain ⟨z0,g0,hz0,_⟩:=DataW.trod_int Tryz.underlying5 h0
   obtain ⟨z1,g1,hz1,_⟩:=DataW.trod_int Tryz.underlying3 h1
   obtain ⟨z2,g2,hz2,_⟩:=DataW.trod_int Tryz.underlying162 h2
   obtain ⟨z3,g3,hz3,_⟩:=DataW.trod_int Tryz.underlying162 h3
   match cs,hl with
   | [a0,a1,a2,a3],_ =>
     simp [c3,c5,cu] at g0 g1 g2 g3 hz0 hz1 hz2 hz3
     subst g0 g1 g2 g3
     rw [← hz0.1,← hz1.1,← hz2.1,← hz3.1]
     rfl
theorem table_cells {enc:TypeId×Value→Unit} {w:World} {base:Nat} {sp:Nat→Bool} {held:Bool} {fuel:Nat} {cs:List Value} {p:List MemPlace}
 (h:DataW.trod enc Tryz.prog w base sp held fuel 215 cs=some (.agg [rowData row0,rowData row1],p)):cs=table:=by
 obtain ⟨xs,n,_,hx,hl,hlen,hf⟩:=DataW.trod_array Tryz.underlying215 h
 have ct:Tryz.prog.cellsOf 215=8:=by kernel_rfl
 have cw:Tryz.prog.cellsOf 214=4:=by kernel_rfl
 rw [ct] at hl
 rw [cw] at hf
 have hx1:=congrArg Prod.fst hx
 simp only [DataW.agg.injEq] at hx1
 match xs,hlen with
 | [y0,y1],_ =>
   obtain ⟨d0,p0⟩:=y0
   obtain ⟨d1,p1⟩:=y1
   simp only [List.map_cons,List.map_nil,List.cons.injEq,and_true] at hx1
   obtain ⟨rfl,rfl⟩:=hx1
   have k0:=row_cells (hf 0 (by decide))
   have k1:=row_cells (hf 1 (by decide))
   simp only [Nat.zero_mul,Nat.one_mul,List.drop_zero] at k0 k1
   rw [← List.take_append_drop 4 cs,k0,← List.take_of_length_le (l:=cs.drop 4) (i:=4) (by rw [List.length_drop,hl];decide),k1]
   rfl
end Go.Proofs.YtlahonjmfecikaaGreatDoor.LaidM
namespace Go.Proofs.YtlahonjmfecikaaGreatDoor.LaidU
open Go.ChangeShapes Go.WideShapes Go.ChangeAt Go.RowKit UtfPlain Utf
def rowData (r:Row):DataW Unit:=.agg [Lib.tabData .u8 [(r.lo:Int),(r.hi:Int)],.lit (.int .i64 (r.more:Int)),Lib.tabData .u8 [(r.slo:Int),(r.shi:Int)]]
theorem row_cells {enc:TypeId×Value→Unit} {w:World} {base:Nat} {sp:Nat→Bool} {held:Bool} {fuel:Nat} {cs:List Value} {r:Row} {p:List MemPlace}
 (h:DataW.trod enc Tryz.prog w base sp held fuel 220 cs=some (rowData r,p)):cs=r.cells:=by
 obtain ⟨xs,n,_,hx,hl,hlen,hf⟩:=DataW.trod_struct Tryz.underlying220 h
 have c51:Tryz.prog.cellsOf 220=5:=by kernel_rfl
 have c43:Tryz.prog.cellsOf 208=2:=by kernel_rfl
 have c3:Tryz.prog.cellsOf 3=1:=by kernel_rfl
 have c5:Tryz.prog.cellsOf 5=1:=by kernel_rfl
 rw [c51] at hl
 match xs,hlen with
 | [y0,y1,y2],_ =>
   have h0:=hf 0 _ rfl
   have h1:=hf 1 _ rfl
   have h2:=hf 2 _ rfl
   simp only [List.getElem?_cons_zero,List.getElem?_cons_succ] at h0 h1 h2
   have hx1:=congrArg Prod.fst hx
   simp only [rowData,List.map_cons,List.map_nil,DataW.agg.injEq,List.cons.injEq,and_true] at hx1
   obtain ⟨e0,e1,e2⟩:=hx1
   obtain ⟨d0,p0⟩:=y0
   obtain ⟨d1,p1⟩:=y1
   obtain ⟨d2,p2⟩:=y2
   simp only at e0 e1 e2
   subst e0 e1 e2
   have g0:=Lib.cells_of_tab Tryz.underlying208 Tryz.underlying5 c5 c43 h0
   have g2:=Lib.cells_of_tab Tryz.underlying208 Tryz.underlying5 c5 c43 h2
   obtain ⟨z,g1,hz,_⟩:=DataW.trod_int Tryz.underlying3 h1
   match cs,hl with
   | [a0,a1,a2,a3,a4],_ =>
     simp [c3] at g0 g1 g2 hz
     obtain ⟨rfl,rfl⟩:=g0
     obtain ⟨rfl,rfl⟩:=g2
     subst g1
     rw [← hz.1]
     rfl
theorem table_cells {enc:TypeId×Value→Unit} {w:World} {base:Nat} {sp:Nat→Bool} {held:Bool} {fuel:Nat} {cs:List Value} {p:List MemPlace}
 (h:DataW.trod enc Tryz.prog w base sp held fuel 221 cs=some (.agg (rows.map rowData),p)):cs=table:=by
 obtain ⟨xs,n,_,hx,hl,hlen,hf⟩:=DataW.trod_array Tryz.underlying221 h
 have c52:Tryz.prog.cellsOf 221=45:=by kernel_rfl
 have c51:Tryz.prog.cellsOf 220=5:=by kernel_rfl
 rw [c52] at hl
 rw [c51] at hf
 have hx1:=congrArg Prod.fst hx
 simp only [DataW.agg.injEq] at hx1
 have key:∀ i,i<9→(cs.drop (i*5)).take 5=(row i).cells:=by
  intro i hi
  have h1:=hf i hi
  have h2:(xs.map (·.1))[i]? = some (rowData (row i)):=by
   rw [← hx1,List.getElem?_map]
   have:rows[i]? = some (row i):=by
    unfold row;rw [List.getD];have hr:i<rows.length:=hi
    rw [List.getElem?_eq_getElem hr];rfl
   rw [this];rfl
  rw [List.getElem?_map,Option.map_eq_some_iff] at h2
  obtain ⟨⟨d,q⟩,h3,h4⟩:=h2
  rw [h3] at h1
  simp only at h4
  subst h4
  exact row_cells h1
 have k0:=key 0 (by decide)
 have k1:=key 1 (by decide)
 have k2:=key 2 (by decide)
 have k3:=key 3 (by decide)
 have k4:=key 4 (by decide)
 have k5:=key 5 (by decide)
 have k6:=key 6 (by decide)
 have k7:=key 7 (by decide)
 have k8:=key 8 (by decide)
 have e:cs=cs.take 5++((cs.drop 5).take 5++((cs.drop 10).take 5++((cs.drop 15).take 5++((cs.drop 20).take 5++((cs.drop 25).take 5++((cs.drop 30).take 5++((cs.drop 35).take 5++(cs.drop 40).take 5))))))):=by
  have st:∀ k,cs.drop k=(cs.drop k).take 5++cs.drop (k+5):=fun k=>by
   conv=>lhs;rw [← List.take_append_drop 5 (cs.drop k)]
   rw [List.drop_drop]
  have l40:(cs.drop 40).take 5=cs.drop 40:=List.take_of_length_le (by rw [List.length_drop,hl];decide)
  rw [l40,← st 35,← st 30,← st 25,← st 20,← st 15,← st 10,← st 5,List.take_append_drop]
 simp only [Nat.zero_mul,Nat.one_mul,List.drop_zero,Nat.reduceMul] at k0 k1 k2 k3 k4 k5 k6 k7 k8
 rw [e,k0,k1,k2,k3,k4,k5,k6,k7,k8]
 rfl
end Go.Proofs.YtlahonjmfecikaaGreatDoor.LaidU
namespace Go.Proofs.YtlahonjmfecikaaGreatDoor
open Go.ChangeShapes Go.WideShapes Go.ChangeAt Go.RowKit
theorem ownKnobs:ownKnob Tryz.prog.godebug=none:=by kernel_rfl
def laidList:List (String×DataW Unit):=Rows.legReadsRow.laid
theorem lay_met (os:Os) (args:Array Value):laidMetH Tryz.prog laidList ((World.laidAll Tryz.prog os laidList).forCall (fun _ _=>0) ⟨#[],args,[]⟩).memory:=by
 rw [MakeChecks.laidMetH_plain _ _ _ (by kernel_rfl)]
 exact laidMet_laidAll _ (by kernel_rfl) (by kernel_rfl)
theorem lay_shaped (os:Os) (args:Array Value):((World.laidAll Tryz.prog os laidList).forCall (fun _ _=>0) ⟨#[],args,[]⟩).Shaped Tryz.prog :=
 World.shaped_of_ZipB (by kernel_rfl) (by kernel_rfl)
def spanData:DataW Unit:=.agg [Lib.tabData .u8 [97,122],Lib.tabData .u8 [65,90],Lib.tabData .u8 [48,57]]
theorem span_cells {enc:TypeId×Value→Unit} {w:World} {base:Nat} {sp:Nat→Bool} {held:Bool} {fuel:Nat} {cs:List Value} {p:List MemPlace}
 (h:DataW.trod enc Tryz.prog w base sp held fuel 200 cs=some (spanData,p)):cs=spans:=by
 obtain ⟨xs,n,_,hx,hl,hlen,hf⟩:=DataW.trod_array Tryz.underlying200 h
 have c200:Tryz.prog.cellsOf 200=6:=by kernel_rfl
 have c52:Tryz.prog.cellsOf 199=2:=by kernel_rfl
 have c5:Tryz.prog.cellsOf 5=1:=by kernel_rfl
 rw [c200] at hl
 rw [c52] at hf
 have hx1:=congrArg Prod.fst hx
 simp only [spanData,DataW.agg.injEq] at hx1
 match xs,hlen with
 | [y0,y1,y2],_ =>
   simp only [List.map_cons,List.map_nil,List.cons.injEq,and_true] at hx1
   obtain ⟨e0,e1,e2⟩:=hx1
   have h0:=hf 0 (by decide)
   have h1:=hf 1 (by decide)
   have h2:=hf 2 (by decide)
   simp only [List.getElem?_cons_zero,List.getElem?_cons_succ] at h0 h1 h2
   obtain ⟨d0,p0⟩:=y0
   obtain ⟨d1,p1⟩:=y1
   obtain ⟨d2,p2⟩:=y2
   simp only at e0 e1 e2
   subst e0 e1 e2
   have g0:=Lib.cells_of_tab Tryz.underlying199 Tryz.underlying5 c5 c52 h0
   have g1:=Lib.cells_of_tab Tryz.underlying199 Tryz.underlying5 c5 c52 h1
   have g2:=Lib.cells_of_tab Tryz.underlying199 Tryz.underlying5 c5 c52 h2
   match cs,hl with
   | [a0,a1,a2,a3,a4,a5],_ =>
     simp at g0 g1 g2
     obtain ⟨rfl,rfl⟩:=g0
     obtain ⟨rfl,rfl⟩:=g1
     obtain ⟨rfl,rfl⟩:=g2
     rfl
theorem globs_of_laid {W:World} (h:laidMetH Tryz.prog laidList W) (hsh:W.ShapedOpen Tryz.prog):Leg.G3 W:=by
 rw [MakeChecks.laidMetH_plain _ _ _ (by kernel_rfl)] at h
 have h2:=laidMet.tail h
 have h3:=laidMet.tail h2
 refine ⟨?_,?_,?_⟩
 ·obtain ⟨ps,⟨g',t',cs,fuel,p,q,hg',ht',hvar,hd,_⟩,_⟩:=h3
  obtain rfl := Option.some.inj ((show Tryz.prog.globalNamed "pendentive/head.tokenSpans" = some 0 by kernel_rfl).symm.trans hg')
  obtain rfl:=Option.some.inj ((show (Tryz.prog.globals[0]?).map (·.type)=some 200 by kernel_rfl).symm.trans ht')
  have hc:=span_cells hd
  refine ⟨fun j v hv=>?_,Tryz.laysM144.s1_3 W hsh⟩
  rw [Nat.zero_add,World.var?_cell hg' hvar j,← hv,← hc]
  simp
 ·obtain ⟨ps,⟨g',t',cs,fuel,p,q,hg',ht',hvar,hd,_,_⟩,_⟩:=h
  obtain rfl := Option.some.inj ((show Tryz.prog.globalNamed "pendentive/mask.wides" = some 1 by kernel_rfl).symm.trans hg')
  obtain rfl:=Option.some.inj ((show (Tryz.prog.globals[1]?).map (·.type)=some 215 by kernel_rfl).symm.trans ht')
  have hc:=LaidM.table_cells hd
  refine ⟨fun j v hv=>?_⟩
  rw [Nat.zero_add,World.var?_cell hg' hvar j,← hv,← hc]
  simp
 ·obtain ⟨ps,⟨g',t',cs,fuel,p,q,hg',ht',hvar,hd,_,_⟩,_⟩:=h2
  obtain rfl := Option.some.inj ((show Tryz.prog.globalNamed "pendentive/utf.starts" = some 3 by kernel_rfl).symm.trans hg')
  obtain rfl:=Option.some.inj ((show (Tryz.prog.globals[3]?).map (·.type)=some 221 by kernel_rfl).symm.trans ht')
  have hc:=LaidU.table_cells hd
  refine ⟨fun j v hv=>?_⟩
  rw [Nat.zero_add,World.var?_cell hg' hvar j,← hv,← hc]
  simp
theorem handed_leg {H:Type} {enc:TypeId×Value→H} {os:Os} {f:FuncId} {fn:Func} {s:ChangeSpec}
 (started:os.Started) (noInit:Tryz.prog.inits.idxOf? f=none) (hfn:Tryz.prog.funcs[f]? = some fn)
 (witness:∃ (w:World) (tape:Tape) (i:Input),w.os=os∧(w.forCall tape i).Shaped Tryz.prog∧i.vars=[]∧Input.okWide Tryz.prog (w.forCall tape i) .any w.heap.size f i ∧
  ((s.pre enc Tryz.prog fn [] false (w.forCall tape i).memory i.args∧laidMetH Tryz.prog laidList (w.forCall tape i).memory)∧sizedMet enc Tryz.prog fn (OpenSpec.ofChange s) false (w.forCall tape i).memory i.args)∧({} : Assume).holds Tryz.prog (lone (Frame.enter Tryz.prog f i.args .normal) [] (w.forCall tape i)))
 (contract:∀ (W:World) (base:Nat) (args:Array Value) (ds gs:List (DataW H)) (before:List MemPlace),
  (∀ (j:Nat) t v,fn.params[j]? = some t→args[j]? = some v→Value.okWide Tryz.prog W .any base t v) →
  DataW.Whole enc Tryz.prog fn.params.toList s.vars false W args.toList ds gs before→Leg.G3 W →
  Calls Tryz.prog f args W fun e W'=>∃ v,e=.returned v∧s.post enc Tryz.prog fn false true false false W args v W') :
 ReturnsInHanded {} Tryz.checked os f .any (fun w args=>(s.pre enc Tryz.prog fn [] false w args∧laidMetH Tryz.prog laidList w)∧sizedMet enc Tryz.prog fn (OpenSpec.ofChange s) false w args) (s.post enc Tryz.prog fn false true false false):=by
 refine returnsInHanded_of_calls (C:=Tryz.checked) ownKnobs started noInit witness ?_
 intro w tape i _ hsh _ hok hpre _
 obtain ⟨_,_,_,fn',hfn',_,_,_,_,hval⟩:=hok
 have e:fn'=fn:=Option.some.inj (hfn'.symm.trans hfn)
 subst e
 obtain ⟨⟨⟨ds,gs,before,hw,_⟩,hx⟩,_⟩:=hpre
 have hw':=DataW.Whole.of_heap (w':=w.forCall tape i) (by rfl) hw
 have hx':laidMetH Tryz.prog laidList (w.forCall tape i):=hx.of_heap (by rfl)
 refine (contract (w.forCall tape i) w.heap.size i.args ds gs before hval hw' (globs_of_laid hx' hsh)).mono fun e W' ⟨v,he,hp⟩=>?_
 subst he
 exact ChangeSpec.post_blind hp
end Go.Proofs.YtlahonjmfecikaaGreatDoor
