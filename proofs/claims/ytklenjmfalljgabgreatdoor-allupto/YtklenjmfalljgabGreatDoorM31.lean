/- The texts Wqd. -/
import Derived.Test.YtklenjmfalljgabGreatDoorM28
import Derived.Test.YtklenjmfalljgabGreatDoorM30
namespace Go.Proofs.YtklenjmfalljgabGreatDoor
set_option maxRecDepth 100000
set_option maxHeartbeats 8000000
section
open Go.RowKit
attribute [local go_sem] Go.World.cell?_alloc_some
theorem xQ(a:Art)(tv sv:Value)(w:World)(n:ShpAt w)(d:ProgAt w (.agg #[tv]) a.prog)(f:IntsAt w.heap.size w sv a.sch)(m:artE a≠0):
  Calls Tryz.prog 39 #[artA tv sv a.ver] w fun e w'=>e= .returned (.tuple #[.string ⟨#[]⟩,.int .i64 (artE a)])/\w.grownBy w' none:=by
 have r:=d.form;obtain⟨j,k,l⟩:=r;simp only [Value.agg.injEq,Array.mk.injEq,List.cons.injEq,and_true]at l;obtain⟨h,i,q⟩:=f.form;subst l q;have b:w.grownBy (w.alloc (.cells #[.slice j a.prog.length k,.slice h a.sch.length i,.int .i64 a.ver.1,.int .i64 a.ver.2.1,.int .i64 a.ver.2.2] 56)) none:=iq (ir _ _);have c:=ij (oe a (.slice j a.prog.length k) (.slice h a.sch.length i) _ (ShpAt.pres n (ip b)) (d.pres (ip b)) ((f.pres (ip b)).mono b.size));clear n d f;unfold artA at*;generalize artE a=ee at*;have hne:(ee !=0)=true:=by simpa using m
 clear m;go_enter Tryz.func39,Tryz.ntmps39
 go_wp2_with fail
 generalize w.alloc (.cells #[.slice j a.prog.length k,.slice h a.sch.length i,.int .i64 a.ver.1,.int .i64 a.ver.2.1,.int .i64 a.ver.2.2] 56)=W at b c ⊢;refine c.out.mono ?_;rintro e w2 ⟨rfl,o⟩;have p:=ij (il b o);clear o b c;go_wp2_with fail
 refine bodyPost_ret (v:= .tuple #[.string ⟨#[]⟩,.int .i64 ee]) (by simp [results,Tryz.results39,go_sem]) rfl ?_;exact⟨rfl,p.out⟩
theorem tK(p:List (List Ins))(s:List Int)(k0 k1 k2:Int)(tv sv:Value)(w:World)(j:ShpAt w)(f:ProgAt w (.agg #[tv]) p)(h:IntsAt w.heap.size w sv s)(m:∀ c∈p,∀ i∈c,nInt i):
  Calls Tryz.prog 39 #[.agg #[tv,sv,.int .i64 k0,.int .i64 k1,.int .i64 k2]] w fun e w'=>e= .returned (refAns ⟨p,s,(k0,k1,k2)⟩)/\w.grownBy w' none:=by
 by_cases a:artE ⟨p,s,(k0,k1,k2)⟩=0
 ·have b:refAns ⟨p,s,(k0,k1,k2)⟩= .tuple #[.string (bs (encB ⟨p,s,(k0,k1,k2)⟩)),.int .i64 0]:=by unfold refAns;rw [if_pos a]
  rw [b];refine xR ⟨p,s,(k0,k1,k2)⟩ tv sv w j f h a (fun c hc i hi'=>?_);have k:=(m8 a).1;simp only [vProg,Bool.and_eq_true,List.all_eq_true]at k;have d:=k.2.2 c hc;simp only [vCode,Bool.and_eq_true,List.all_eq_true,decide_eq_true_eq]at d;obtain⟨g1,g2,l⟩:=mw (d.2 i hi');exact qr ⟨g1,g2,l,m c hc i hi'⟩
 ·have b:refAns ⟨p,s,(k0,k1,k2)⟩= .tuple #[.string ⟨#[]⟩,.int .i64 (artE ⟨p,s,(k0,k1,k2)⟩)]:=by unfold refAns;rw [if_neg a]
  rw [b];exact xQ ⟨p,s,(k0,k1,k2)⟩ tv sv w j f h a
theorem sR(a:Art):∃ S E,refAns a= .tuple #[.string S,.int .i64 E]:=by
 unfold refAns;by_cases h:artE a=0
 ·rw [if_pos h];exact⟨_,_,rfl⟩
 ·rw [if_neg h];exact⟨_,_,rfl⟩
end
end Go.Proofs.YtklenjmfalljgabGreatDoor
