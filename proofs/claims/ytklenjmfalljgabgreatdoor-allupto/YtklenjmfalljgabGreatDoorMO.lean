/- The second form's card of All: where what is read is of bulk at most the bound, every call, one behind the other, and again, is as the reference says, whatever the owner does with what came out and with what was lent. -/
import Derived.Test.YtklenjmfalljgabGreatDoorMN
import Derived.Test.YtklenjmfalljgabGreatDoorCards
import Derived.Test.YtklenjmfalljgabGreatDoorTie
import Derived.ChangeMaps5
import Derived.Lib.LaidTab
namespace Go.Proofs.YtklenjmfalljgabGreatDoor
set_option maxRecDepth 100000
set_option maxHeartbeats 8000000
section
open Go.RowKit
attribute [local go_sem] Go.World.cell?_alloc_some
theorem oq {w:World} {g:Nat} {x0:Value} {t:TypeId}(h:w.heap[g]?=some(.cells #[x0]t(0,0))):w.cell?⟨g,0,none⟩=some x0:=by simp [World.cell?,h]
theorem Cl {w:World} {g:Nat} {x0 x1 x2:Value} {t:TypeId}(h:w.heap[g]?=some(.cells #[x0,x1,x2]t(0,0))):w.cell?⟨g,0,none⟩=some x0/\w.cell?⟨g,1,none⟩=some x1/\w.cell?⟨g,2,none⟩=some x2:=by simp [World.cell?,h]
theorem Gu(W:World)(pv sv bv tv:Value)(fuel:Int)(P:List(List(List Ins)))(S:List(List Int))(Bs Ts:List ByteArray)(hS:ShpAt W)(hT:Tab W)(hP:ProgsAt W pv P)(aY:SchsAt W sv S)(aX:StrsAt W bv Bs)(bh:StrsAt W tv Ts)(cn:fuel<=9223372036854775807)
  (hn:2*P.length+S.length+Bs.length+Ts.length<=1048576)(b3:∀ p∈P,p.length<=1048576/\∀ c∈p,c.length<=1048576/\∀ i∈c,CT i)(bN:∀ s∈S,s.length<=1048576)(br:∀ x∈Bs,x.size<=1048576)(bI:∀ x∈Ts,x.size<=1048576):
  Calls Tryz.prog 3 #[pv,sv,bv,tv, .int .i64 fuel]W fun e w'=>e= .returned(.bool true)/\W.grownBy w' none:=by
 obtain⟨pao,pcap,co⟩:∃ ao cap,pv= .slice ao P.length cap:=⟨_,_,hP.choose_spec.choose_spec.1⟩;obtain⟨sao,scap,b9⟩:∃ ao cap,sv= .slice ao S.length cap:=⟨_,_,aY.choose_spec.choose_spec.1⟩;obtain⟨bao,bcap,cd⟩:∃ ao cap,bv= .slice ao Bs.length cap:=⟨_,_,aX.choose_spec.choose_spec.1⟩;obtain⟨tao,tcap,cs⟩:∃ ao cap,tv= .slice ao Ts.length cap:=⟨_,_,bh.choose_spec.choose_spec.1⟩;subst co b9 cd cs;have bz:=hZ(Ej hn);have HS:=hZ hS;have HT:=hZ hT;have HP:=hZ hP;have HC:=hZ aY;have bE:=hZ aX;have bB:=hZ bh;have cr:=hZ b3;have a1:=hZ bN;have ci:=hZ br;have ce:=hZ bI;have aj:∀ q,pt q= .pointer(some⟨q,0,none⟩):=fun _=>rfl
 have hl1:(P.length:Int)<=1048576:=by omega
 have hl2:(S.length:Int)<=1048576:=by omega
 have hl3:(Bs.length:Int)<=1048576:=by omega
 have hl4:(Ts.length:Int)<=1048576:=by omega
 clear hS hT hP aY aX bh b3 bN br bI hn;go_enter Tryz.func3,Tryz.ntmps3
 go_wp2_with fail
 refine(uK _).mono ?_;rintro e w1⟨cv,rfl,al,bV⟩;have aS:Hid(W.grownBy w1 none):=bV;have bK:=hZ al;obtain⟨bx,bp,a9⟩:=al.form;subst a9;clear bV al;go_wp2_with fail
 obtain⟨w2,aK⟩:∃ w2,w2=w1.alloc(.cells #[.int .i64 0]3):=⟨_,rfl⟩;rw [<-aK];have ah:Hid(w1.grownBy w2 none):=by unfold Hid;rw [aK];exact ij(il _ _)
 have b1:Hid(IntsAt w2.heap.size w2(.slice(some⟨w1.heap.size,0,none⟩)1 1) [0]):=by
  unfold Hid;rw [aK];exact AP(heap_alloc_new w1 _)
 clear aK;refine(wD qO [0]_ _ w2(HS.out.pres(ie(ic aS.out ah.out)))(bK.out.pres(ie ah.out))b1.out).mono ?_;intro e w3 hR;obtain⟨bO,rv,c,he,hV⟩:=hR.form;clear hR;subst he;obtain⟨cp,t5,a5,x1,x3,v0,v1,v2,v3,y1,yq,y3,cf⟩:=A1 hV;clear hV;subst cp cf;have bk:Hid(W.grownBy w3 none):=ic aS.out(ic ah.out bO);clear bO bK b1 ah aS;go_upto_region 2 with fail
 obtain⟨w4,aI⟩:∃ w4,w4=w3.alloc(.cells #[.int .i64 5, .int .i64 t5, .int .i64 a5, .slice x1 1 x3, .int .i64 v0, .int .i64 v1, .int .i64 v2, .int .i64 v3, .slice y1 yq y3]31):=⟨_,rfl⟩;have bG:w4.heap[w3.heap.size]?=some(.cells #[.int .i64 5, .int .i64 t5, .int .i64 a5, .slice x1 1 x3, .int .i64 v0, .int .i64 v1, .int .i64 v2, .int .i64 v3, .slice y1 yq y3]31(0,0)):=by rw [aI];exact heap_alloc_new w3 _
 rw [<-aI];have am:Hid(W.grownBy w4 none):=by unfold Hid;rw [aI];exact ij bk.out
 clear aI bk;obtain⟨r0,r1,r2,r3,r4,_,_,_,_,_⟩:=kA bG;clear bG;go_upto_region 5 with fail
 clear r0 r1 r2 r3 r4;obtain⟨w5,aH⟩:∃ w5,w5=w4.alloc(.cells(hcl f00)45):=⟨_,rfl⟩;have aA:w4.alloc(.cells #[.slice none 0 0, .slice none 0 0, .slice none 0 0, .slice none 0 0, .slice none 0 0, .int .i64 0, .slice none 0 0, .slice none 0 0, .slice none 0 0, .slice none 0 0, .slice none 0 0, .slice none 0 0, .slice none 0 0, .slice none 0 0, .slice none 0 0, .slice none 0 0]45)=w5:=by rw [aH];rfl
 rw [aA];have bf:Hid(HX w4 w4.heap.size w4.heap.size 0 w5(fun _=>False)):=HX.start(by rw [aH];exact heap_alloc_new w4 _)(by rw [aH];exact ij(il _ _));clear aH aA;have ap:=hZ(HS.out.pres(ie am.out));have cq:=hZ(HT.out.grown am.out);have ck:=hZ(HP.out.pres(ie am.out));have a6:=hZ(HC.out.grown am.out);have a2:=hZ(bE.out.pres(ie am.out));have a0:=hZ(bB.out.pres(ie am.out));clear HS HT HP HC bE bB;obtain⟨b,hb⟩:∃ b,b=w4.heap.size:=⟨_,rfl⟩;rw [<-hb]at bf ⊢;have ai:Hid(w4.heap.size<=b):=by unfold Hid;omega
 clear hb;obtain⟨ad,ak⟩:∃ t,t=P.length*S.length+Bs.length+Ts.length:=⟨_,rfl⟩;rw [<-ak]at bz;have aD:=hZ ak;clear ak;go_wp2_with fail
 go_loopw [14,15](fun okv av w'=>∃ a:Nat,a<=2/\okv= .bool true/\av= .int .i64 a/\Hid(HX w4 b b(16*(a*ad))w'(fun _=>False)))(fun _ av _=>2 - (intOf av).toNat)
 case atStart=>exact⟨0,by omega,rfl,rfl,by rw [Nat.zero_mul];exact bf⟩
 case round=>
  clear bf;obtain⟨a,ha,rfl,rfl,HA⟩:=hrel;obtain⟨wa,bX⟩:∃ wa,wa=wr:=⟨_,rfl⟩;rw [<-bX]at HA ⊢;clear bX;by_cases hlt:a<2
  ·have q1:(a:Int)<2:=by omega
   have cc:Hid(16*((a+1)*ad)=16*(a*ad)+16*ad):=by unfold Hid;rw [Nat.add_mul,Nat.one_mul,Nat.mul_add]
   have bu:Hid(16*(a*ad)+16*ad<=4500000000000):=by
    unfold Hid;have h1:a*ad<=1*ad:=Nat.mul_le_mul_right ad(by omega);have:=bz.out;omega
   generalize 16*(a*ad)=q0 at*;go_wp2_with fail
   go_loopw [14,16](fun okv iv w'=>∃ i:Nat,i<=P.length/\okv= .bool true/\iv= .int .i64 i/\Hid(HX w4 b b(q0+16*(i*S.length))w'(fun _=>False)))(fun _ iv _=>P.length - (intOf iv).toNat)
   case atStart=>exact⟨0,Nat.zero_le _,rfl,rfl,by rw [Nat.zero_mul];exact HA⟩
   case round=>
    clear HA;obtain⟨i,hi,rfl,rfl,HI⟩:=hrel;obtain⟨wi,bR⟩:∃ wi,wi=wr:=⟨_,rfl⟩;rw [<-bR]at HI ⊢;clear bR;by_cases aW:i<P.length
    ·have q2:(i:Int)<P.length:=by omega
     have q20:(0:Int)<=(i:Int):=by omega
     have bl:Hid(q0+16*((i+1)*S.length)=q0+16*(i*S.length)+16*S.length):=by unfold Hid;rw [Nat.add_mul,Nat.one_mul,Nat.mul_add];omega
     have b6:Hid(q0+16*(i*S.length)+16*S.length<=4500000000000):=by
      unfold Hid;have h1:(i+1)*S.length<=P.length*S.length:=Nat.mul_le_mul_right _ aW;have h2:=bl.out;have h3:=bu.out;have h4:=aD.out;omega
     generalize q0+16*(i*S.length)=qi at*;obtain⟨pg,po,rfl,pa,pc,b4,bn⟩:=ck.out.get aW;have ct:=hZ b4;have aE:=hZ bn;have aa:=hZ(cr.out _(List.getElem_mem aW));clear b4 bn;generalize P[i]=p at*;go_wp2_with fail
     go_loopw [14,17](fun okv kv w'=>∃ k:Nat,k<=S.length/\okv= .bool true/\kv= .int .i64 k/\Hid(HX w4 b b(qi+16*k)w'(fun _=>False)))(fun _ kv _=>S.length - (intOf kv).toNat)
     case atStart=>exact⟨0,Nat.zero_le _,rfl,rfl,by rw [Nat.mul_zero];exact HI⟩
     case round=>
      clear HI;obtain⟨k,hk,rfl,rfl,HK⟩:=hrel;obtain⟨wk,bj⟩:∃ wk,wk=wr:=⟨_,rfl⟩;rw [<-bj]at HK ⊢;clear bj;by_cases bF:k<S.length
      ·have q3:(k:Int)<S.length:=by omega
       have ca:(0:Int)<=(k:Int):=by omega
       have q31:(0:Int)<S.length:=by omega
       have q32:0<S.length:=by omega
       have bb:Hid(qi+16*k+16<=4500000000000):=by unfold Hid;have:=b6.out;omega
       have be:Hid(qi+16*(k+1)=qi+16*k+16):=by unfold Hid;omega
       generalize qi+16*k=qk at*;obtain⟨sg,so,rfl,sa,sc,aC,ax,b0⟩:=a6.out.get bF;obtain⟨sg',so',e0,za,zc,aZ,bM,_⟩:=a6.out.get(show 0<S.length by omega);simp only [Option.some.injEq,Addr.mk.injEq,and_true]at e0;obtain⟨rfl,rfl⟩:=e0;rw [Nat.add_zero]at aZ;have aO:=hZ aC;have an:=hZ ax;have b7:Hid(oH(.slice sa S[k].length sc)):=fun n c e=>b0 n c e
       have bY:=hZ aZ;have cb:=hZ bM;have ac:=hZ(a1.out _(List.getElem_mem bF));have aP:=hZ(a1.out _(List.getElem_mem(show 0<S.length by omega)));clear aC ax b0 aZ bM;generalize S[k]=s at*;generalize S[0]=z at*;have f1:=ie HK.out.base _ _ ct.out;have f2:=ie HK.out.base _ _ aO.out;go_upto_region 17 with fail
       obtain⟨u2,aN⟩:∃ u2,u2=wk.alloc(.cells #[.slice pa p.length pc]37):=⟨_,rfl⟩;have aT:Hid(u2.heap[wk.heap.size]?=some(.cells #[.slice pa p.length pc]37(0,0))):=by unfold Hid;rw [aN];exact heap_alloc_new wk _
       have af:Hid(HX w4 b b qk u2(fun g=>False\/g=wk.heap.size)):=by unfold Hid;rw [aN];exact HK.out.made _
       rw [<-aN];clear aN f1 f2 HK;generalize wk.heap.size=n18 at*;have f1:=oq aT.out;have HR:=hZ(yP(pv:= .agg #[.slice pa p.length pc])(sv:= .slice sa s.length sc)af.out(by have:=bb.out;omega)ai.out ap.out aE.out an.out aa.out.1(fun c hc=>(aa.out.2 c hc).1)ac.out);rw [aj]at HR;clear af;go_wp2_with fail
       refine HR.out.mono ?_;clear HR f1;rintro e u3⟨rfl,aF,bT⟩;have a3:Hid(u3.heap[n18]?=some(.cells #[.slice pa p.length pc]37(0,0))):=(bT n18(Or.inr rfl)).trans aT.out;have f1:=oq a3.out;have HR:=hZ(CG(pv:= .agg #[.slice pa p.length pc])(sv:= .slice sa s.length sc)aF(by have:=bb.out;omega)ai.out ap.out aE.out an.out aa.out.1(fun c hc=>(aa.out.2 c hc).1)ac.out);rw [aj]at HR;clear aF bT aT;go_wp2_with fail
       refine HR.out.mono ?_;clear HR f1;rintro e u4⟨rfl,bw,bQ⟩;have a8:Hid(u4.heap[n18]?=some(.cells #[.slice pa p.length pc]37(0,0))):=(bQ n18(Or.inr rfl)).trans a3.out;have f1:=oq a8.out;have HR:=hZ(wV(pv:= .agg #[.slice pa p.length pc])(sv:= .slice sa s.length sc)(fuel:=fuel)bw(by have:=bb.out;omega)ai.out ap.out aE.out an.out b7.out cn aa.out.1(fun c hc=>(aa.out.2 c hc).1)ac.out);rw [aj]at HR;clear bw bQ a3;go_wp2_with fail
       refine HR.out.mono ?_;clear HR f1;rintro e u5⟨rfl,a4,bU⟩;have aQ:Hid(u5.heap[n18]?=some(.cells #[.slice pa p.length pc]37(0,0))):=(bU n18(Or.inr rfl)).trans a8.out;have bC:=hZ a4;have HR:=hZ(zf(pv:= .agg #[.slice pa p.length pc])(sv:= .slice sa s.length sc)(tv:= .slice za z.length zc)(a4.grown(ir(il _ _)))ai.out ap.out aE.out an.out aa.out.1(fun c hc=>(aa.out.2 c hc).1)ac.out cb.out aP.out);rw [aj]at HR;clear a4 bU a8;go_upto_region 20 with fail
       have bD:u5.drew.cell?⟨n18,0,none⟩=some(.slice pa p.length pc)/\u5.drew.cell?⟨sg,so,none⟩=some(.slice za z.length zc):=⟨oq(w:=u5.drew)aQ.out,ie(ir bC.out.base)_ _ bY.out⟩;refine iu(fun u=>u.cell?⟨n18,0,none⟩=some(.slice pa p.length pc)/\u.cell?⟨sg,so,none⟩=some(.slice za z.length zc))7(by kernel_rfl)(by kernel_rfl)bD ?_;intro ab;refine hY(i:=0)(v:= ?vv0)rfl(by kernel_rfl)(fun _ _ _ h=>h)(Or.inl⟨by kernel_rfl, ?hy0⟩)ab ?rest0
       case hy0=>(rintro u⟨aB,au⟩;go_simp;try with_reducible rfl)
       simp only [Act.put,List.setIfInBounds_toArray];refine hY(i:=1)(v:= ?vv1)rfl(by kernel_rfl)(fun _ _ _ h=>h)(Or.inl⟨by kernel_rfl, ?hy1⟩)ab ?rest1
       case hy1=>(rintro u⟨aB,au⟩;go_simp;try with_reducible rfl)
       simp only [Act.put];refine hY(i:=2)(v:= ?vv2)rfl(by kernel_rfl)(fun _ _ _ h=>h)(Or.inl⟨by kernel_rfl, ?hy2⟩)ab ?rest2
       case hy2=>(rintro u⟨aB,au⟩;go_simp;try with_reducible rfl)
       simp only [Act.put];refine hY(i:=3)(v:= ?vv3)rfl(by kernel_rfl)(fun _ _ _ h=>h)(Or.inl⟨by kernel_rfl, ?hy3⟩)ab ?rest3
       case hy3=>(rintro u⟨aB,au⟩;go_simp;try with_reducible rfl)
       simp only [Act.put];refine hY(i:=4)(v:= ?vv4)rfl(by kernel_rfl)(fun _ _ _ h=>h)(Or.inl⟨by kernel_rfl, ?hy4⟩)ab ?rest4
       case hy4=>(rintro u⟨aB,au⟩;go_simp;first | done | rfl | exact rfl)
       simp only [Act.put];refine hY(i:=5)(v:= ?vv5)rfl(by kernel_rfl)(fun _ _ _ h=>h)(Or.inl⟨by kernel_rfl, ?hy5⟩)ab ?rest5
       case hy5=>(rintro u⟨aB,au⟩;go_simp;try with_reducible rfl)
       simp only [Act.put];refine ip(i:=6)rfl(by kernel_rfl)(by kernel_rfl)(by kernel_rfl) ?_;intro K6 bW;have bP:=hZ bW;clear bW;go_simp;refine HR.out.mono ?_;clear HR;rintro e u6⟨rfl,a7,b5⟩;have aL:Hid(u6.heap[n18]?=some(.cells #[.slice pa p.length pc]37(0,0))):=(b5 n18(Or.inr rfl)).trans aQ.out;have aJ:=hZ a7;have ae:u6.cell?⟨n18,0,none⟩=some(.slice pa p.length pc)/\u6.cell?⟨sg,so,none⟩=some(.slice za z.length zc):=⟨oq aL.out,ie a7.base _ _ bY.out⟩;refine bP.out _ _ ae ?_;clear bP a7 b5;try simp only [Act.put,List.setIfInBounds_toArray]
       refine iE rfl(by kernel_rfl)(by kernel_rfl)(by kernel_rfl) ?_;go_simp;clear ab ae bD bC aQ;go_wp2_with fail
       refine(uK _).mono ?_;rintro e u7⟨cv,rfl,al,az⟩;obtain⟨bx,bp,a9⟩:=al.form;subst a9;have bq:=hZ(aJ.out.grown az);have bJ:=hZ(pV u7 bx bp qO(.slice sa s.length sc)s zE al((an.out.pres(ie(ic aJ.out.base az))).mono(ic aJ.out.base az).size)ac.out);have aV:Hid(u7.heap[n18]?=some(.cells #[.slice pa p.length pc]37(0,0))):=by unfold Hid;rw [az.block _(Array.getElem?_eq_some_iff.1 aL.out).1(by simp)];exact aL.out
       clear al az aJ aL;go_wp2_with fail
       refine bJ.out.mono ?_;clear bJ;rintro e u8⟨rb,rab,rrb,rst,rfl,ag⟩;generalize(iF qO s).kind=vk at*;generalize(iF qO s).thread=vt at*;generalize(iF qO s).at_=va at*;obtain⟨_,cl,b8,cg,_,_,_⟩:=ag.vcells;have bA:=hZ(bq.out.grown ag.frame);have aU:Hid(u8.heap[n18]?=some(.cells #[.slice pa p.length pc]37(0,0))):=by unfold Hid;rw [ag.frame.block _(Array.getElem?_eq_some_iff.1 aV.out).1(by simp)];exact aV.out
       clear ag bq aV;go_upto_region 22 with fail
       clear cl b8 cg;obtain⟨u9,aM⟩:∃ u9,u9=u8.alloc(.cells #[.int .i64 vk, .int .i64 vt, .int .i64 va]26):=⟨_,rfl⟩;have bc:u8.grownBy u9 none:=by rw [aM];exact ij(il _ _)
       have bt:u9.heap[u8.heap.size]?=some(.cells #[.int .i64 vk, .int .i64 vt, .int .i64 va]26(0,0)):=by rw [aM];exact heap_alloc_new u8 _
       rw [<-aM];clear aM;have bS:=hZ(bA.out.grown bc);have bi:u9.heap[n18]?=some(.cells #[.slice pa p.length pc]37(0,0)):=by rw [bc.block _(Array.getElem?_eq_some_iff.1 aU.out).1(by simp)];exact aU.out
       have f1:=oq bi;obtain⟨f2,f3,f4⟩:=Cl bt;have HR:=hZ(Bm(rv:= .slice pa p.length pc)(sv:= .slice sa s.length sc)(k0:=vk)(k1:=vt)(k2:=va)bS.out ai.out ap.out aE.out an.out aa.out.1(fun c hc=>(aa.out.2 c hc).1)ac.out(fun c hc=>(aa.out.2 c hc).2));rw [aj]at HR;clear bc bt bi bS bA aU;generalize u8.heap.size=n24 at*;go_wp2_with fail
       refine HR.out.mono ?_;clear HR f1 f2 f3 f4;rintro e ch⟨rfl,aw,_⟩;have ar:Hid(HX w4 b b(qk+16)ch(fun _=>False)):=(aw.mono(by omega)).less(fun _ e=>e.elim);rw [<-be.out]at ar;clear aw;go_wp2_with fail
       go_roundw
       case rel=>exact⟨k+1,by omega,by simp,by go_num,ar⟩
       case measure=>simp [intOf];omega
      ·have q3:(S.length:Int)<=(k:Int):=by omega
       have ek:k=S.length:=by omega
       subst ek;have be:Hid(HX w4 b b(q0+16*((i+1)*S.length))wk(fun _=>False)):=by unfold Hid;rw [bl.out];exact HK.out
       clear HK;go_wp2_with fail
       go_roundw
       case rel=>exact⟨i+1,by omega,by simp,by go_num,be⟩
       case measure=>simp [intOf];omega
    ·have q2:(P.length:Int)<=(i:Int):=by omega
     have ei:i=P.length:=by omega
     subst ei;have bL:Hid(q0+16*(P.length*S.length)+16*Bs.length+16*Ts.length<=4500000000000/\q0+16*(P.length*S.length)+16*Bs.length+16*Ts.length=q0+16*ad):=by
      unfold Hid;have h3:=bu.out;have h4:=aD.out;omega
     generalize q0+16*(P.length*S.length)=qb at*;go_wp2_with fail
     go_loopw [14,26](fun okv jv w'=>∃ j:Nat,j<=Bs.length/\okv= .bool true/\jv= .int .i64 j/\Hid(HX w4 b b(qb+16*j)w'(fun _=>False)))(fun _ jv _=>Bs.length - (intOf jv).toNat)
     case atStart=>exact⟨0,Nat.zero_le _,rfl,rfl,by rw [Nat.mul_zero];exact HI⟩
     case round=>
      clear HI;obtain⟨j,hj,rfl,rfl,HJ⟩:=hrel;obtain⟨wj,ay⟩:∃ wj,wj=wr:=⟨_,rfl⟩;rw [<-ay]at HJ ⊢;clear ay;by_cases aG:j<Bs.length
      ·have q3:(j:Int)<Bs.length:=by omega
       have ca:(0:Int)<=(j:Int):=by omega
       have bd:Hid(qb+16*j+16<=4500000000000):=by unfold Hid;have:=bL.out.1;omega
       have aR:Hid(qb+16*(j+1)=qb+16*j+16):=by unfold Hid;omega
       generalize qb+16*j=qj at*;obtain⟨bg,bo,rfl,bZ⟩:=xT a2.out aG;have hbb:=ci.out _(List.getElem_mem aG);generalize Bs[j]=x at*;have f1:=ie HJ.out.base _ _ bZ;have HR:=hZ(AA(x:=x)HJ.out(by have:=bd.out;omega)ai.out ap.out(by omega));rw [aj]at HR;clear HJ bZ;go_wp2_with fail
       refine HR.out.mono ?_;clear HR f1;rintro e u2⟨rfl,aq,_⟩;have af:Hid(HX w4 b b(qb+16*(j+1))u2(fun _=>False)):=by unfold Hid;rw [aR.out];exact aq
       clear aq;go_wp2_with fail
       go_roundw
       case rel=>exact⟨j+1,by omega,by simp,by go_num,af⟩
       case measure=>simp [intOf];omega
      ·have q3:(Bs.length:Int)<=(j:Int):=by omega
       have ej:j=Bs.length:=by omega
       subst ej;have b2:=hZ bL.out;generalize qb+16*Bs.length=qt at*;go_wp2_with fail
       go_loopw [14,27](fun okv jv w'=>∃ j:Nat,j<=Ts.length/\okv= .bool true/\jv= .int .i64 j/\Hid(HX w4 b b(qt+16*j)w'(fun _=>False)))(fun _ jv _=>Ts.length - (intOf jv).toNat)
       case atStart=>exact⟨0,Nat.zero_le _,rfl,rfl,by rw [Nat.mul_zero];exact HJ⟩
       case round=>
        clear HJ;obtain⟨j,hj,rfl,rfl,HJ⟩:=hrel;obtain⟨wj,ay⟩:∃ wj,wj=wr:=⟨_,rfl⟩;rw [<-ay]at HJ ⊢;clear ay;by_cases aG:j<Ts.length
        ·have q4:(j:Int)<Ts.length:=by omega
         have q40:(0:Int)<=(j:Int):=by omega
         have bd:Hid(qt+16*j+16<=4500000000000):=by unfold Hid;have:=b2.out.1;omega
         have aR:Hid(qt+16*(j+1)=qt+16*j+16):=by unfold Hid;omega
         generalize qt+16*j=qj at*;obtain⟨tg,to_,rfl,bH⟩:=xT a0.out aG;have cm:=ce.out _(List.getElem_mem aG);generalize Ts[j]=x at*;have f1:=ie HJ.out.base _ _ bH;have HR:=hZ(DN(x:=x)HJ.out(by have:=bd.out;omega)ai.out cm);rw [aj]at HR;clear HJ bH;go_wp2_with fail
         refine HR.out.mono ?_;clear HR f1;rintro e u2⟨rfl,aq,_⟩;have af:Hid(HX w4 b b(qt+16*(j+1))u2(fun _=>False)):=by unfold Hid;rw [aR.out];exact aq
         clear aq;by_cases bm:j<S.length
         ·have q5:(j:Int)<S.length:=by omega
          obtain⟨sg,so,rfl,sa,sc,aC,ax,_⟩:=a6.out.get bm;have ac:=a1.out _(List.getElem_mem bm);generalize S[j]=s at*;have f2:=ie af.out.base _ _ aC;have HR:=hZ(AK(sv:= .slice sa s.length sc)af.out ai.out cq.out ax ac);rw [aj]at HR;clear af aC ax ac;go_wp2_with fail
          refine HR.out.mono ?_;clear HR f2;rintro e u3⟨rfl,aF,_⟩;have cj:=hZ aF;clear aF;go_wp2_with fail
          go_roundw
          case rel=>exact⟨j+1,by omega,by simp,by go_num,cj⟩
          case measure=>simp [intOf];omega
         ·have q5:(S.length:Int)<=(j:Int):=by omega
          go_wp2_with fail
          go_roundw
          case rel=>exact⟨j+1,by omega,by simp,by go_num,af⟩
          case measure=>simp [intOf];omega
        ·have q4:(Ts.length:Int)<=(j:Int):=by omega
         have ej:j=Ts.length:=by omega
         subst ej;have ba:Hid(HX w4 b b(16*((a+1)*ad))wj(fun _=>False)):=by unfold Hid;rw [cc.out,<-b2.out.2];exact HJ.out
         clear HJ;go_wp2_with fail
         go_roundw
         case rel=>exact⟨a+1,by omega,by simp,by go_num,ba⟩
         case measure=>simp [intOf];omega
  ·have q1:(2:Int)<=(a:Int):=by omega
   have ba:=hZ(ic am.out HA.out.base);clear HA;go_wp2_with fail
   go_ret;exact⟨rfl,ba.out⟩
end
section
open Go.ChangeShapes Go.WideShapes Go.ChangeAt Go.RowKit Go.Joins
theorem GQ:Tryz.prog.globalNamed "internal/strconv.uint64pow10" =some 2:=by kernel_rfl
theorem Gz:(Tryz.prog.globals[2]?).map(·.type)=some 275:=by kernel_rfl
theorem GE:Tryz.prog.cellsOf 275=20:=by kernel_rfl
theorem GP:Tryz.prog.cellsOf 142=1:=by kernel_rfl
theorem vF {W:World}(h:laidMetH Tryz.prog Rows.allUptoRow.laid W):Tab W/\ShpAt W:=by
 have h':laidMet Tryz.prog Rows.allUptoRow.laid W:=h;obtain⟨ps,⟨_,_,_,_,_,_,_,_,_,_,⟨_,_,_,_,_,_,_,_,_,_,⟨g,t,cs,fuel,p,q,hg,ht,hv,hd,⟨g0,t0,cs0,f0,p0,q0,ab,aa,ae,ac,_⟩,_⟩,_⟩,_⟩,_,_⟩:=h';refine⟨?_,ES ab aa ae ac⟩;obtain rfl:=Option.some.inj(GQ.symm.trans hg);obtain rfl:=Option.some.inj(Gz.symm.trans ht);have ad:DataW.trod(fun _=>())Tryz.prog W 0(fun _=>true)false fuel 275 cs.toList=some(Lib.tabData .u64 Lib.pow10Tab,p):=hd;have hc:=Lib.cells_of_tab Tryz.underlying275 Tryz.underlying142 GP GE ad;unfold Tab Lib.TabIs;rw [hv,<-hc]
theorem ve(H:Type)(enc:TypeId × Value->H)(W:World)(base:Nat)(args:Array Value)(ds gs:List(DataW H))(ab:List MemPlace)
  (aa:∀ (j:Nat)t v,Tryz.f3.params[j]?=some t->args[j]?=some v->Value.okWide Tryz.prog W .any base t v)
  (hW:DataW.Whole enc Tryz.prog Tryz.f3.params.toList Rows.allSpec.vars false W args.toList ds gs ab)(hk:Rows.uptoSmall H(ds++gs)=true)(hL:laidMetH Tryz.prog Rows.allUptoRow.laid W):
  Calls Tryz.prog 3 args W fun e W'=>∃ v,e= .returned v/\Rows.allSpec.post enc Tryz.prog Tryz.f3 false true false false W args v W':=by
 have ah:=hW;obtain⟨p,q,af,hV,rfl,hfz,hnd⟩:=hW;have hA:DataW.TrodAll enc Tryz.prog W 0(fun _=>true)true Tryz.f3.params.toList args.toList ds p:=af;rw [Tryz.params3]at hA aa;obtain⟨v0,vs0,d0,ds0,p0,q0,e0,rfl,rfl,h0,hA⟩:=trodAll_cons hA;obtain⟨v1,vs1,d1,ds1,p1,q1,rfl,rfl,rfl,h1,hA⟩:=trodAll_cons hA;obtain⟨v2,vs2,d2,ds2,p2,q2,rfl,rfl,rfl,h2,hA⟩:=trodAll_cons hA;obtain⟨v3,vs3,d3,ds3,p3,q3,rfl,rfl,rfl,h3,hA⟩:=trodAll_cons hA;obtain⟨v4,ae,d4,ag,p4,q4,rfl,rfl,rfl,h4,hA⟩:=trodAll_cons hA;obtain⟨rfl,rfl,rfl⟩:ae= []/\ag= []/\q4= []:=by
  cases ae<;>cases ag<;>simp [DataW.TrodAll]at hA
  exact⟨rfl,rfl,hA⟩
 obtain rfl:args= #[v0,v1,v2,v3,v4]:=by
  obtain⟨l⟩:=args;simp at e0;rw [e0]
 obtain⟨rfl,rfl⟩:=trodVars_none hV;clear af hA e0;have ac:=of_decide_eq_true hk;simp only [List.append_nil,Rows.uptoBulkAll]at ac;obtain⟨P,a1,a2,a3⟩:=AJ(aa 0 22 v0 rfl rfl)h0;obtain⟨S,b1,b2,b3⟩:=DH(aa 1 23 v1 rfl rfl)h1;obtain⟨Bs,c1,c2,c3⟩:=xL(aa 2 24 v2 rfl rfl)h2;obtain⟨Ts,ai,d2',ak⟩:=xL(aa 3 24 v3 rfl rfl)h3;obtain⟨fuel,rfl,aj⟩:=ER(aa 4 3 v4 rfl rfl)h4;obtain⟨hT,hS⟩:=vF hL;refine(Gu W v0 v1 v2 v3 fuel P S Bs Ts hS hT a1 b1 c1 ai aj.2(by omega)(fun p hp=>⟨by have:=(a3 p hp).1;omega,fun c hc=>⟨by have:=((a3 p hp).2 c hc).1;omega,fun i hi=>((a3 p hp).2 c hc).2 i hi⟩⟩)(fun s hs=>by have:=b3 s hs;omega)(fun x hx=>by have:=c3 x hx;omega)(fun x hx=>by have:=ak x hx;omega)).mono fun e W'⟨he,hg⟩=> ?_
 subst he;have hb:=wI hg;have ad:∀ x∈p0++(p1++(p2++(p3++(p4++ [])))),x.block<W.heap.size:=fun x hx=>by simpa using ah.lt x(by simpa using hx)
 refine⟨_,rfl,_,_,_, []++ [],p0++(p1++(p2++(p3++(p4++ [])))), [],ah,trodAll_cons_mk(shut_bool Tryz.underlying4 _)trodAll_mk0, ?_,rfl,hb.frame _,fun h=>by cases h⟩;rw [Tryz.params3];exact trodAll_cons_mk(Below.trod qU(by kernel_rfl)(of_decide_eq_true(by kernel_rfl))h0 hb(fun x hx=>ad x(by simp [hx])))
  (trodAll_cons_mk(Below.trod qU(by kernel_rfl)(of_decide_eq_true(by kernel_rfl))h1 hb(fun x hx=>ad x(by simp [hx])))
  (trodAll_cons_mk(Below.trod qU(by kernel_rfl)(of_decide_eq_true(by kernel_rfl))h2 hb(fun x hx=>ad x(by simp [hx])))
  (trodAll_cons_mk(Below.trod qU(by kernel_rfl)(of_decide_eq_true(by kernel_rfl))h3 hb(fun x hx=>ad x(by simp [hx])))
  (trodAll_cons_mk(Below.trod qU(by kernel_rfl)(of_decide_eq_true(by kernel_rfl))h4 hb(fun x hx=>ad x(by simp [hx])))
   trodAll_mk0))))
theorem Dl(os:Os):laidMetH Tryz.prog Rows.allUptoRow.laid((World.doorLaid Tryz.prog 400 os).forCall(fun _ _=>0)⟨#[], #[.slice none 0 0, .slice none 0 0, .slice none 0 0, .slice none 0 0, .int .i64 0], []⟩).memory:=
 laidMetH_of_parts3(fuel:=8)(laidMet_of_run' 8(by kernel_rfl)(by kernel_rfl))(by kernel_rfl)(by kernel_rfl)
theorem Ar(os:Os) {H:Type}(enc:TypeId × Value->H):∃ places,DataW.whole enc Tryz.prog((World.doorLaid Tryz.prog 400 os).forCall(fun _ _=>0)⟨#[], #[.slice none 0 0, .slice none 0 0, .slice none 0 0, .slice none 0 0, .int .i64 0], []⟩).memory Tryz.f3.params.toList Rows.allSpec.vars false #[Value.slice none 0 0, .slice none 0 0, .slice none 0 0, .slice none 0 0, .int .i64 0].toList 8=some([.nil, .nil, .nil, .nil, .lit(.int .i64 0)], [],places):=
 ⟨[],by kernel_rfl⟩
theorem zr(os:Os)(aa:os.Started)(H:Type)(enc:TypeId × Value->H)(F:Stop.Interp):
  ReturnsInHanded {} Tryz.checked os 3 .any((Rows.OpenSpec.upto Rows.allSpec).preRow enc Tryz.prog Tryz.f3 Rows.allUptoRow.domain false Rows.allUptoRow.laid)(((Rows.OpenSpec.upto Rows.allSpec).at F).post enc Tryz.prog Tryz.f3 false true false false):=by
 obtain⟨places,hx⟩:=Ar os enc;refine returnsInHanded_of_row(C:=Tryz.checked)(s:=Rows.OpenSpec.upto Rows.allSpec)own aa(by kernel_rfl)Tryz.func3
  (witness_row_atRef(enc:=enc)(C:=Tryz.checked)false(World.doorLaid Tryz.prog 400 os) #[.slice none 0 0, .slice none 0 0, .slice none 0 0, .slice none 0 0, .int .i64 0]rfl(by kernel_rfl)(by kernel_rfl)(by kernel_rfl)
   (OpenSpec.preRow_of_cond 8 hx(by kernel_rfl)(fun k hk=>by cases hk;kernel_rfl)(by kernel_rfl)(Dl os))) ?_
 intro W base args ds gs ab ad hW _ ac _ hL _ _;exact ve H enc W base args ds gs ab ad hW(ac _ rfl)hL
theorem CN:Rows.AllUptoSaid:=
 OpenClaim.holds_of_cond 3 Tryz.f3 rfl rfl rfl rfl rfl rfl rfl⟨rfl,rfl,rfl,rfl,rfl⟩rfl rfl rfl rfl rfl(by kernel_rfl)Tryz.func3(by kernel_rfl)
  (of_decide_eq_true(by kernel_rfl))(by unfold Func.isWrapper;first | (rw [if_pos(by decide+kernel)];kernel_rfl) | (rw [if_neg(by decide+kernel)];exact⟨rfl,rfl⟩))
  (fun os started H enc _ F=>by rw [OpenClaim.pre_eq_preRow];exact zr os started H enc F)
theorem Au(f:FuncId)(fn:Func)(hf:Tryz.pinned.checked.prog.funcNamed "rerun/rerunlaw.All" =some f)(ab:Tryz.pinned.checked.prog.funcs[f]?=some fn):
  Rows.allUptoCard.stood.looks=Tryz.pinned.checked.prog.looks []/\∀ (j:Nat)t,fn.params[j]?=some t->Tryz.pinned.checked.prog.wantsStandIn t=false:=by
 obtain rfl:f=3:=Option.some.inj((show Tryz.prog.funcNamed "rerun/rerunlaw.All" =some 3 by kernel_rfl).symm.trans hf) |>.symm
 obtain rfl:fn=Tryz.f3:=(Option.some.inj(Tryz.func3.symm.trans ab)).symm;refine⟨by kernel_rfl,fun j t ht=> ?_⟩;rw [Tryz.params3]at ht;have hm:t∈ [22,23,24,24,3]:=by simpa using Array.mem_of_getElem? ht
 have aa:([22,23,24,24,3].all fun u=> !Tryz.prog.wantsStandIn u)=true:=by kernel_rfl
 exact(show Tryz.prog.wantsStandIn t=false by simpa using List.all_eq_true.1 aa t hm)
theorem all_card:Rows.AllUptoCardSaid:=
 Claim7.holds_tied_plain_at .later []_ _ _ _ CN(fun _ h=>by cases h)(by kernel_rfl)(fun _ h=>by cases h)allUpto_row_tie rfl⟨rfl,rfl⟩(by kernel_rfl)rfl Au(by kernel_rfl)
#print axioms all_card
end
end Go.Proofs.YtklenjmfalljgabGreatDoor
