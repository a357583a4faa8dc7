/- The second form's card of All: where what is read is of bulk at most the bound, every call, one behind the other, and again, is as the reference says, whatever the owner does with what came out and with what was lent. -/
import Derived.Test.YtklenjmfalljgabGreatDoorM38
import Derived.Test.YtklenjmfalljgabGreatDoorCards
import Derived.Test.YtklenjmfalljgabGreatDoorTie
import Derived.ChangeMaps5
import Derived.Lib.LaidTab
namespace Go.Proofs.YtklenjmfalljgabGreatDoor
set_option maxRecDepth 100000
set_option maxHeartbeats 8000000
section
open Go.ChangeShapes Go.WideShapes Go.ChangeAt Go.RowKit Go.Joins
theorem Cc:Tryz.prog.globalNamed "internal/strconv.uint64pow10" =some 2:=by kernel_rfl
theorem Ci:(Tryz.prog.globals[2]?).map (·.type)=some 275:=by kernel_rfl
theorem Ca:Tryz.prog.cellsOf 275=20:=by kernel_rfl
theorem Cb:Tryz.prog.cellsOf 142=1:=by kernel_rfl
theorem qC{W:World}(h:laidMetH Tryz.prog Rows.allUptoRow.laid W):Tab W/\ShpAt W:=by
 have a:laidMet Tryz.prog Rows.allUptoRow.laid W:=h;obtain⟨ps,⟨_,_,_,_,_,_,_,_,_,_,⟨_,_,_,_,_,_,_,_,_,_,⟨g,t,cs,fuel,p,q,e,i,k,b,⟨g0,t0,cs0,f0,p0,q0,f,j,l,d,_⟩,_⟩,_⟩,_⟩,_,_⟩:=a;refine⟨?_,A7 f j l d⟩;obtain rfl:=Option.some.inj (Cc.symm.trans e);obtain rfl:=Option.some.inj (Ci.symm.trans i);have c:DataW.trod (fun _=>()) Tryz.prog W 0 (fun _=>true) false fuel 275 cs.toList=some (Lib.tabData .u64 Lib.pow10Tab,p):=b;have hc:=Lib.cells_of_tab Tryz.underlying275 Tryz.underlying142 Cb Ca c;unfold Tab Lib.TabIs;rw [k,<-hc]
theorem qE(H:Type)(enc:TypeId × Value->H)(W:World)(base:Nat)(args:Array Value)(m z:List (DataW H))(Y:List MemPlace)
  (d:∀ (j:Nat) t v,Tryz.f3.params[j]?=some t->args[j]?=some v->Value.okWide Tryz.prog W .any base t v)
  (G:DataW.Whole enc Tryz.prog Tryz.f3.params.toList Rows.allSpec.vars false W args.toList m z Y) (hk:Rows.uptoSmall H (m++z)=true) (hL:laidMetH Tryz.prog Rows.allUptoRow.laid W):
  Calls Tryz.prog 3 args W fun e W'=>∃ v,e= .returned v/\Rows.allSpec.post enc Tryz.prog Tryz.f3 false true false false W args v W':=by
 have I:=G;obtain⟨p,q,F,hV,rfl,hfz,hnd⟩:=G;have a:DataW.TrodAll enc Tryz.prog W 0 (fun _=>true) true Tryz.f3.params.toList args.toList m p:=F;rw [Tryz.params3]at a d;obtain⟨o,vs0,d0,ds0,J,q0,n,rfl,rfl,A,a⟩:=trodAll_cons a;obtain⟨r,vs1,d1,ds1,K,q1,rfl,rfl,rfl,B,a⟩:=trodAll_cons a;obtain⟨u,vs2,d2,ds2,L,q2,rfl,rfl,rfl,C,a⟩:=trodAll_cons a;obtain⟨w,vs3,d3,ds3,M,q3,rfl,rfl,rfl,D,a⟩:=trodAll_cons a;obtain⟨O,Q,d4,y,N,q4,rfl,rfl,rfl,E,a⟩:=trodAll_cons a;obtain⟨rfl,rfl,rfl⟩:Q=[]/\y=[]/\q4=[]:=by
  cases Q<;>cases y<;>simp [DataW.TrodAll]at a
  exact⟨rfl,rfl,a⟩
 obtain rfl:args=#[o,r,u,w,O]:=by
  obtain⟨l⟩:=args;simp at n;rw [n]
 obtain⟨rfl,rfl⟩:=trodVars_none hV;clear F a n;have ag:=of_decide_eq_true hk;simp only [List.append_nil,Rows.uptoBulkAll]at ag;obtain⟨P,U,a2,k⟩:=wL (d 0 22 o rfl rfl) A;obtain⟨S,V,b2,X⟩:=zh (d 1 23 r rfl rfl) B;obtain⟨R,c1,c2,Z⟩:=tp (d 2 24 u rfl rfl) C;obtain⟨T,aa,d2',ab⟩:=tp (d 3 24 w rfl rfl) D;obtain⟨fuel,rfl,ah⟩:=Ar (d 4 3 O rfl rfl) E;obtain⟨hT,hS⟩:=qC hL;refine(B3 W o r u w fuel P S R T hS hT U V c1 aa ah.2 (by omega) (fun p hp=>⟨by have:=(k p hp).1;omega,fun c hc=>⟨by have:=((k p hp).2 c hc).1;omega,fun i hi=>((k p hp).2 c hc).2 i hi⟩⟩) (fun s hs=>by have:=X s hs;omega) (fun x hx=>by have:=Z x hx;omega) (fun x hx=>by have:=ab x hx;omega)).mono fun e W' ⟨he,hg⟩=>?_
 subst he;have b:=sj hg;have f:∀ x∈J++(K++(L++(M++(N++[])))),x.block<W.heap.size:=fun x hx=>by simpa using I.lt x (by simpa using hx)
 refine⟨_,rfl,_,_,_,[]++[],J++(K++(L++(M++(N++[])))),[],I,trodAll_cons_mk (shut_bool Tryz.underlying4 _) trodAll_mk0,?_,rfl,b.frame _,fun h=>by cases h⟩;rw [Tryz.params3];exact trodAll_cons_mk (Below.trod mM (by kernel_rfl) (of_decide_eq_true (by kernel_rfl)) A b (fun x hx=>f x (by simp [hx])))
  (trodAll_cons_mk (Below.trod mM (by kernel_rfl) (of_decide_eq_true (by kernel_rfl)) B b (fun x hx=>f x (by simp [hx])))
  (trodAll_cons_mk (Below.trod mM (by kernel_rfl) (of_decide_eq_true (by kernel_rfl)) C b (fun x hx=>f x (by simp [hx])))
  (trodAll_cons_mk (Below.trod mM (by kernel_rfl) (of_decide_eq_true (by kernel_rfl)) D b (fun x hx=>f x (by simp [hx])))
  (trodAll_cons_mk (Below.trod mM (by kernel_rfl) (of_decide_eq_true (by kernel_rfl)) E b (fun x hx=>f x (by simp [hx])))
   trodAll_mk0))))
theorem xt(os:Os):laidMetH Tryz.prog Rows.allUptoRow.laid ((World.doorLaid Tryz.prog 400 os).forCall (fun _ _=>0) ⟨#[],#[.slice none 0 0,.slice none 0 0,.slice none 0 0,.slice none 0 0,.int .i64 0],[]⟩).memory:=
 laidMetH_of_parts3 (fuel:=8) (laidMet_of_run' 8 (by kernel_rfl) (by kernel_rfl)) (by kernel_rfl) (by kernel_rfl)
theorem vp(os:Os){H:Type}(enc:TypeId × Value->H):∃ places,DataW.whole enc Tryz.prog ((World.doorLaid Tryz.prog 400 os).forCall (fun _ _=>0) ⟨#[],#[.slice none 0 0,.slice none 0 0,.slice none 0 0,.slice none 0 0,.int .i64 0],[]⟩).memory Tryz.f3.params.toList Rows.allSpec.vars false #[Value.slice none 0 0,.slice none 0 0,.slice none 0 0,.slice none 0 0,.int .i64 0].toList 8=some ([.nil,.nil,.nil,.nil,.lit (.int .i64 0)],[],places):=
 ⟨[],by kernel_rfl⟩
theorem tu(a:Os)(l:a.Started)(H:Type)(enc:TypeId × Value->H)(F:Stop.Interp):
  ReturnsInHanded {} Tryz.checked a 3 .any ((Rows.OpenSpec.upto Rows.allSpec).preRow enc Tryz.prog Tryz.f3 Rows.allUptoRow.domain false Rows.allUptoRow.laid) (((Rows.OpenSpec.upto Rows.allSpec).at F).post enc Tryz.prog Tryz.f3 false true false false):=by
 obtain⟨places,j⟩:=vp a enc;refine returnsInHanded_of_row (C:=Tryz.checked) (s:=Rows.OpenSpec.upto Rows.allSpec) own l (by kernel_rfl) Tryz.func3
  (witness_row_atRef (enc:=enc) (C:=Tryz.checked) false (World.doorLaid Tryz.prog 400 a) #[.slice none 0 0,.slice none 0 0,.slice none 0 0,.slice none 0 0,.int .i64 0] rfl (by kernel_rfl) (by kernel_rfl) (by kernel_rfl)
   (OpenSpec.preRow_of_cond 8 j (by kernel_rfl) (fun k hk=>by cases hk;kernel_rfl) (by kernel_rfl) (xt a))) ?_
 intro W base args c d b i f _ h _ e _ _;exact qE H enc W base args c d b i f (h _ rfl) e
theorem xu:Rows.AllUptoSaid:=
 OpenClaim.holds_of_cond 3 Tryz.f3 rfl rfl rfl rfl rfl rfl rfl ⟨rfl,rfl,rfl,rfl,rfl⟩ rfl rfl rfl rfl rfl (by kernel_rfl) Tryz.func3 (by kernel_rfl)
  (of_decide_eq_true (by kernel_rfl)) (by unfold Func.isWrapper;first | (rw [if_pos (by decide+kernel)];kernel_rfl) | (rw [if_neg (by decide+kernel)];exact⟨rfl,rfl⟩))
  (fun os started H enc _ F=>by rw [OpenClaim.pre_eq_preRow];exact tu os started H enc F)
theorem vo(f:FuncId)(a:Func)(c:Tryz.pinned.checked.prog.funcNamed "rerun/rerunlaw.All" =some f)(d:Tryz.pinned.checked.prog.funcs[f]?=some a):
  Rows.allUptoCard.stood.looks=Tryz.pinned.checked.prog.looks []/\∀ (j:Nat) t,a.params[j]?=some t->Tryz.pinned.checked.prog.wantsStandIn t=false:=by
 obtain rfl:f=3:=Option.some.inj ((show Tryz.prog.funcNamed "rerun/rerunlaw.All" =some 3 by kernel_rfl).symm.trans c) |>.symm
 obtain rfl:a=Tryz.f3:=(Option.some.inj (Tryz.func3.symm.trans d)).symm;refine⟨by kernel_rfl,fun j t ht=>?_⟩;rw [Tryz.params3]at ht;have e:t∈[22,23,24,24,3]:=by simpa using Array.mem_of_getElem? ht
 have b:([22,23,24,24,3].all fun u=>!Tryz.prog.wantsStandIn u)=true:=by kernel_rfl
 exact(show Tryz.prog.wantsStandIn t=false by simpa using List.all_eq_true.1 b t e)
theorem all_card:Rows.AllUptoCardSaid:=
 Claim7.holds_tied_plain_at .later [] _ _ _ _ xu (fun _ h=>by cases h) (by kernel_rfl) (fun _ h=>by cases h) allUpto_row_tie rfl ⟨rfl,rfl⟩ (by kernel_rfl) rfl vo (by kernel_rfl)
#print axioms all_card
end
end Go.Proofs.YtklenjmfalljgabGreatDoor
