/- The texts Wqd. -/
import Derived.Test.YtklenjmfalljgabGreatDoorM26
import Derived.Test.YtklenjmfalljgabGreatDoorM27
namespace Go.Proofs.YtklenjmfalljgabGreatDoor
set_option maxRecDepth 100000
set_option maxHeartbeats 8000000
section
open Go.RowKit
attribute [local go_sem] Go.World.cell?_alloc_some
theorem BP(a:Art)(tv sv:Value)(w:World)(o:ShpAt w)(f:ProgAt w (.agg #[tv]) a.prog)(d:IntsAt w.heap.size w sv a.sch)(l:jI a≠0):
  Calls Tryz.prog 39 #[pO tv sv a.ver] w fun e w'=>e= .returned (.tuple #[.string ⟨#[]⟩,.int .i64 (jI a)])/\w.grownBy w' none:=by
 have q:=f.form;obtain⟨c,j,n⟩:=q;simp only [Value.agg.injEq,Array.mk.injEq,List.cons.injEq,and_true]at n;obtain⟨k,i,r⟩:=d.form;subst n r;have b:w.grownBy (w.alloc (.cells #[.slice c a.prog.length j,.slice k a.sch.length i,.int .i64 a.ver.1,.int .i64 a.ver.2.1,.int .i64 a.ver.2.2] 56)) none:=ir (iu _ _);have h:=il (tC a (.slice c a.prog.length j) (.slice k a.sch.length i) _ (ShpAt.pres o (iq b)) (f.pres (iq b)) ((d.pres (iq b)).mono b.size));clear o f d;unfold pO at*;generalize jI a=ee at*;have hne:(ee !=0)=true:=by simpa using l
 clear l;go_enter Tryz.func39,Tryz.ntmps39
 go_wp2_with fail
 generalize w.alloc (.cells #[.slice c a.prog.length j,.slice k a.sch.length i,.int .i64 a.ver.1,.int .i64 a.ver.2.1,.int .i64 a.ver.2.2] 56)=W at b h ⊢;refine h.out.mono ?_;rintro e w2 ⟨rfl,m⟩;have p:=il (ip b m);clear m b h;go_wp2_with fail
 refine bodyPost_ret (v:= .tuple #[.string ⟨#[]⟩,.int .i64 ee]) (by simp [results,Tryz.results39,go_sem]) rfl ?_;exact⟨rfl,p.out⟩
theorem yT(p:List (List Ins))(s:List Int)(k0 k1 k2:Int)(tv sv:Value)(w:World)(d:ShpAt w)(k:ProgAt w (.agg #[tv]) p)(j:IntsAt w.heap.size w sv s)(l:∀ c∈p,∀ i∈c,Db i):
  Calls Tryz.prog 39 #[.agg #[tv,sv,.int .i64 k0,.int .i64 k1,.int .i64 k2]] w fun e w'=>e= .returned (kh ⟨p,s,(k0,k1,k2)⟩)/\w.grownBy w' none:=by
 by_cases a:jI ⟨p,s,(k0,k1,k2)⟩=0
 ·have b:kh ⟨p,s,(k0,k1,k2)⟩= .tuple #[.string (bs (mJ ⟨p,s,(k0,k1,k2)⟩)),.int .i64 0]:=by unfold kh;rw [if_pos a]
  rw [b];refine Cx ⟨p,s,(k0,k1,k2)⟩ tv sv w d k j a (fun c hc i hi'=>?_);have h:=(qU a).1;simp only [iV,Bool.and_eq_true,List.all_eq_true]at h;have f:=h.2.2 c hc;simp only [kU,Bool.and_eq_true,List.all_eq_true,decide_eq_true_eq]at f;obtain⟨g1,g2,m⟩:=pM (f.2 i hi');exact uD ⟨g1,g2,m,l c hc i hi'⟩
 ·have b:kh ⟨p,s,(k0,k1,k2)⟩= .tuple #[.string ⟨#[]⟩,.int .i64 (jI ⟨p,s,(k0,k1,k2)⟩)]:=by unfold kh;rw [if_neg a]
  rw [b];exact BP ⟨p,s,(k0,k1,k2)⟩ tv sv w d k j a
theorem xm(a:Art):∃ S E,kh a= .tuple #[.string S,.int .i64 E]:=by
 unfold kh;by_cases h:jI a=0
 ·rw [if_pos h];exact⟨_,_,rfl⟩
 ·rw [if_neg h];exact⟨_,_,rfl⟩
end
end Go.Proofs.YtklenjmfalljgabGreatDoor
