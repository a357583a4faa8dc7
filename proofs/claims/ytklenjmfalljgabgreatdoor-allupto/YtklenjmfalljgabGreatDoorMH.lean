/- The texts Shp Sht Rfs Hgq Kqa Hgt Hgx Kqb Kqc. -/
import Derived.Test.YtklenjmfalljgabGreatDoorMG
namespace Go.Proofs.YtklenjmfalljgabGreatDoor
set_option maxRecDepth 100000
set_option maxHeartbeats 8000000
section
open Go.RowKit
attribute [local go_sem] Go.World.cell?_alloc_some qP
theorem sJ(p:List(List Ins))(l:List Int):(iF p l).steps.length<=l.length:=by
 obtain⟨m,h1,h2,h3,_⟩:=oC p l 0 St.zero [];unfold iF;simp at h3;omega
def FG(o:Out)(sv gv:Value):Array Value:= #[.int .i64 o.kind, .int .i64 o.thread, .int .i64 o.at_,sv, .int .i64(o.st.vars 0), .int .i64(o.st.vars 1), .int .i64(o.st.vars 2), .int .i64(o.st.vars 3),gv]
theorem zJ {B:Nat} {w:World} {g aa i:Nat} {l:List Int}(h:IntsAt B w(.slice(some⟨g,0,none⟩)l.length aa)l)(hi:i<l.length):
  IntsAt B w(.slice(some⟨g,i+1,none⟩)(l.length - (i+1))(aa - (i+1)))(l.drop(i+1)):=by
 obtain⟨a,c,e,h1,h2⟩:=h;simp only [Value.slice.injEq,true_and]at e;obtain⟨rfl,rfl⟩:=e;refine⟨some⟨g,i+1,none⟩,aa - (i+1),by simp,by simp;omega,fun k hk=> ?_⟩;have ab:i+1+k<l.length:=by simp at hk;omega
 obtain⟨g',o',e1,e2,e3⟩:=h2(i+1+k)ab;simp only [Option.some.injEq,Addr.mk.injEq,and_true]at e1;obtain⟨rfl,rfl⟩:=e1;refine⟨g,i+1,rfl,e2, ?_⟩;rw [List.getElem_drop];simpa using e3
theorem oI {w:World} {o:Obj}:w.grownBy(w.drew.alloc o)none:=⟨rfl,rfl,rfl,by simp,fun k hk _=>heap_alloc_old w.drew _ hk⟩
theorem wt {w w':World}(h:w.drew.grownBy w' none):w.grownBy w' none:=⟨h.os,h.tape,h.output,h.size,h.block⟩
theorem F5 {B:Nat} {w:World} {a:Option Addr} {c:Nat}:IntsAt B w(.slice a 0 c) []:=⟨a,c,rfl,Nat.zero_le _,fun k hk=>by simp at hk⟩
theorem oz {a:Addr} {n c:Nat}:oH(.slice(some a)n c):=fun n' c' e=>by simp at e
theorem EP {m:Nat} {w:World} {p:List(List Ins)} {v:Value} {ac:List Int} {fuel:Int}(hp:iR p=true)(hM:MachAt w.heap.size w m p)(hv:IntsAt w.heap.size w v ac)(aJ:oH v)(aB:ac.length<=500)
  (hf0:0<=fuel)(hf1:fuel<=9223372036854775807):
  Calls Tryz.prog 58 #[.pointer(some⟨m,0,none⟩),v, .int .i64 fuel]w fun e w'=>∃ sv,e= .returned(.tuple #[sv, .int .i64((mn p ac fuel.toNat).2:Nat)])/\w'.ownsRow w.heap.size 3 1 sv(mn p ac fuel.toNat).1.length(iI(mn p ac fuel.toNat).1)/\w.grownBy w' none:=by
 have HP:=hZ hp;have HM:=hZ hM;have HV:=hZ hv;have HN:=hZ aJ;obtain⟨so,sc,rfl⟩:=hv.form;have hcap:ac.length<=sc:=by
  obtain⟨a,c,e,h1,_⟩:=hv;simp only [Value.slice.injEq]at e;omega
 clear hp hM hv aJ;have HC:=hZ(zS p ac);go_enter Tryz.func58,Tryz.ntmps58
 go_wp2_with fail
 refine(uY HP.out HM.out(Nat.le_refl _)HV.out aB).mono ?_;rintro e w1⟨rv,rfl,⟨sv,gv,rfl,aC,aO⟩,aX⟩;obtain⟨x1,x2,x3,rfl⟩:=iq aC;obtain⟨y1,y2,y3,rfl⟩:=iq aO;have a3:=iy aC;subst a3;have aM:=hZ aX;have hln:=sJ p ac;have hcl:=HC.out.2;have a0:Hid(∀ n,mn p ac n=shr p(iF p ac)n(ac.take(ko(iF p ac)))0 0):=fun n=>rfl
 clear aC aO aX;generalize hO:iF p ac=o at*;clear hO;have a2:o.steps.length<=1000:=by omega
 have ec:∃ cn:Nat,cn=ko o:=⟨_,rfl⟩;obtain⟨cn,aA⟩:=ec;rw [<-aA]at hcl a0;have a5:=hZ aA;clear aA;have c0:(cn:Int)<=sc:=by omega
 have c1:(0:Int)<=(cn:Int):=by omega
 go_wp2_with(go_at_call 90;refine(yV o _ _ _ _ _ _ _ _ _ _ a2).mono ?_;rintro e w2⟨rfl,aq⟩;rw [<-a5.out])
 have af:Hid(w.grownBy w2 none):=ic(ic aM.out(ij(il _ _)))aq;have a9:w1.heap.size<w2.heap.size:=by have:=aq.size;simp at this;omega
 have a6:Hid(w2.heap[w1.heap.size]?=some(.cells(FG o(.slice x1 o.steps.length x3)(.slice y1 y2 y3))31(0,0))):=by
  unfold Hid;rw [aq.block _(by simp)(by simp)];exact heap_alloc_new w1 _
 have a8:Hid(MachAt w.heap.size w2 m p):=HM.out.grown'(Nat.le_refl _)af.out;have aZ:Hid(IntsAt w2.heap.size w2(.slice so cn sc)(ac.take cn)):=((HV.out.pres(ie af.out)).mono af.out.size).front hcl;have aV:Hid(oH(.slice so cn sc)):=fun n c e=>by
  simp only [Value.slice.injEq]at e;have:=HN.out ac.length sc(by rw [e.1]);omega
 clear aq aM;have ah:([ac.take cn]:List(List Int)).flatten=ac.take cn:=by simp
 refine(tx [ac.take cn]_ _(CS rfl aZ.out aV.out)(by simp)(by rw [ah];simp;omega)).mono ?_;rintro e w3⟨sv3,rfl,ae,aT⟩;rw [ah]at ae;obtain⟨z1,z2,z3,rfl⟩:=iq ae;have aW:Hid(w3.ownsRow w.heap.size 3 1(.slice z1 z2 z3)(ac.take cn).length(iI(ac.take cn))):=iN ae(by have:=af.out.size;simp;omega);have aG:Hid(w2.grownBy w3 none):=ic(ij(il _ _))aT;have bc:(ac.take cn).length<=500:=by simp;omega
 clear ae aT aZ aV ah;go_wp2_with fail
 go_loopw [9,10,11](fun sv r iv w'=>∃ (l:List Int)(i u:Nat),r= .int .i64 u/\iv= .int .i64 i/\l.length<=500/\i<=l.length/\(u:Int)<=fuel/\Hid(w'.ownsRow w.heap.size 3 1 sv l.length(iI l))/\Hid(w2.grownBy w' none)/\Hid(shr p o(fuel.toNat - u)l i u=shr p o fuel.toNat(ac.take cn)0 0))(fun _ r _ _=>fuel.toNat - (intOf r).toNat)
 case atStart=>exact⟨ac.take cn,0,0,rfl,rfl,bc,Nat.zero_le _,by omega,aW,aG,rfl⟩
 case round=>
  clear aW aG;obtain⟨l,i,u,rfl,rfl,ba,hil,hu,HO,HG,HS⟩:=hrel;obtain⟨w5,aL⟩:∃ w5,w5=wr:=⟨_,rfl⟩;rw [<-aL]at HO HG ⊢;clear aL;have q0:(0:Int)<=(i:Int):=by omega
  have q1:(0:Int)<=(u:Int):=by omega
  have q2:(l.length:Int)<=500:=by omega
  by_cases aE:i<l.length/\(u:Int)<fuel
  ·obtain⟨ap,huf⟩:=aE;obtain⟨gg,gc,a7⟩:∃ gg gc,u9= .slice(some⟨gg,0,none⟩)l.length gc:=by
    rcases HO.out.2 with⟨_,e⟩ | ⟨gg,gc,_,e,_⟩
    ·omega
    ·exact⟨gg,gc,e⟩
   subst a7;have az:=hZ(jw HO.out);have hcp:l.length<=gc:=by
    obtain⟨a,c,e,h1,_⟩:=az.out;simp only [Value.slice.injEq]at e;omega
   have q3:(i:Int)<l.length:=by omega
   have q4:(i:Int)<=gc:=by omega
   have q5:(i:Int)+1<=l.length:=by omega
   have q6:(l.length:Int)<=gc:=by omega
   have aN:fuel.toNat - u=(fuel.toNat - (u+1))+1:=by omega
   have aP:Hid(shr p o fuel.toNat(ac.take cn)0 0=if mi(iF p(i7 l i))o=true then shr p o(fuel.toNat - (u+1))(i7 l i)0(u+1)else shr p o(fuel.toNat - (u+1))l(i+1)(u+1)):=by
    unfold Hid;rw [<-HS.out,aN,shr,if_pos ap]
   have hll:=oQ ap;clear HS aN;go_upto_region 7 with fail
   have HA:Hid(IntsAt w5.drew.heap.size w5.drew(.slice(some⟨gg,0,none⟩)i gc)(l.take i)):=az.out.front(by omega);go_cut [12](fun tv w'=>Hid(w'.ownsRow w.heap.size 3 1 tv(i7 l i).length(iI(i7 l i))/\w5.grownBy w' none))
   case first=>
    have aF:IntKind.i64.wrap((i:Int)+1)=(i:Int)+1:=by rw [IntKind.wrap_i64];omega
    have htn:((i:Int)+1).toNat=i+1:=by omega
    by_cases hsk:gc - (i+1)=0
    ·have HD:Hid(IntsAt w5.drew.heap.size w5.drew(.slice(some⟨gg,0,none⟩)(l.length - (i+1))0)(l.drop(i+1))):=by
      have e1:l.drop(i+1)= []:=List.drop_of_length_le(by omega);have e2:l.length - (i+1)=0:=by omega
      unfold Hid;rw [e1,e2];exact F5
     have aD:Hid(gc=i+1):=by unfold Hid;omega
     refine iu(fun _=>True)9(by kernel_rfl)(by kernel_rfl)trivial ?_;intro aa;refine hY(i:=0)(v:= ?vva0)rfl(by kernel_rfl)(fun _ _ _ h=>h)(Or.inl⟨by rfl, ?hya0⟩)aa ?resta0
     case hya0=>(intro u hu;go_simp;try with_reducible rfl)
     simp only [Act.put,List.setIfInBounds_toArray];refine hY(i:=1)(v:= ?vva1)rfl(by kernel_rfl)(fun _ _ _ h=>h)(Or.inl⟨by rfl, ?hya1⟩)aa ?resta1
     case hya1=>(intro u hu;go_simp;try with_reducible rfl)
     simp only [Act.put];refine hY(i:=2)(v:= ?vva2)rfl(by kernel_rfl)(fun _ _ _ h=>h)(Or.inl⟨by rfl, ?hya2⟩)aa ?resta2
     case hya2=>(intro u hu;go_simp;try with_reducible rfl)
     simp only [Act.put];refine hY(i:=3)(v:= ?vva3)rfl(by kernel_rfl)(fun _ _ _ h=>h)(Or.inl⟨by rfl, ?hya3⟩)aa ?resta3
     case hya3=>(intro u hu;go_simp;try with_reducible rfl)
     simp only [Act.put];refine hY(i:=4)(v:= ?vva4)rfl(by kernel_rfl)(fun _ _ _ h=>h)(Or.inl⟨by rfl, ?hya4⟩)aa ?resta4
     case hya4=>(intro u hu;go_simp;try with_reducible rfl)
     simp only [Act.put];refine hY(i:=5)(v:= .int .i64((i:Int)+1))rfl(by kernel_rfl)(fun _ _ _ h=>h)(Or.inl⟨by rfl, ?hya5⟩)aa ?resta5
     case hya5=>(intro u hu;go_simp;try rw [aF])
     simp only [Act.put];refine hY(i:=6)(v:= .slice(some⟨gg,0,none⟩)(l.length - (i+1))0)rfl(by kernel_rfl)(fun _ _ _ h=>h)(Or.inl⟨by rfl, ?hya6⟩)aa ?resta6
     case hya6=>(intro u hu;have a4:=aD.out;go_simp;first | done | (intro h;exfalso;omega))
     simp only [Act.put];refine ip(i:=7)rfl(by kernel_rfl)(by kernel_rfl)(by rfl) ?_;intro K7 ao;have am:=hZ ao;clear ao;go_simp;refine am.out _ _ trivial ?_;clear am;try simp only [Act.put,List.setIfInBounds_toArray]
     refine ip(i:=8)rfl(by kernel_rfl)(by kernel_rfl)(by rfl) ?_;intro K8 an;have al:=hZ an;clear an;go_simp;refine(tx [l.take i,l.drop(i+1)]_ _(yh(W:=w5.drew)rfl HA.out oz HD.out oz)(by simp)(by simp;omega)).mono ?_;rintro e w6⟨tv,rfl,ab,ag⟩;have ah:([l.take i,l.drop(i+1)]:List(List Int)).flatten=i7 l i:=by simp [i7]
     rw [ah]at ab;refine al.out _ _ trivial ?_;clear al;try simp only [Act.put,List.setIfInBounds_toArray]
     refine iE rfl(by kernel_rfl)(by kernel_rfl)(by rfl) ?_;go_simp;go_wp2
     go_meet
     exact⟨iN ab(by have:=af.out.size;have:=HG.out.size;simp;omega),ic oI ag⟩
    ·have HD:Hid(IntsAt w5.drew.heap.size w5.drew(.slice(some⟨gg,i+1,none⟩)(l.length - (i+1))(gc - (i+1)))(l.drop(i+1))):=zJ az.out ap;have aD:Hid(¬gc=i+1):=by unfold Hid;omega
     refine iu(fun _=>True)9(by kernel_rfl)(by kernel_rfl)trivial ?_;intro aa;refine hY(i:=0)(v:= ?vvb0)rfl(by kernel_rfl)(fun _ _ _ h=>h)(Or.inl⟨by rfl, ?hyb0⟩)aa ?restb0
     case hyb0=>(intro u hu;go_simp;try with_reducible rfl)
     simp only [Act.put,List.setIfInBounds_toArray];refine hY(i:=1)(v:= ?vvb1)rfl(by kernel_rfl)(fun _ _ _ h=>h)(Or.inl⟨by rfl, ?hyb1⟩)aa ?restb1
     case hyb1=>(intro u hu;go_simp;try with_reducible rfl)
     simp only [Act.put];refine hY(i:=2)(v:= ?vvb2)rfl(by kernel_rfl)(fun _ _ _ h=>h)(Or.inl⟨by rfl, ?hyb2⟩)aa ?restb2
     case hyb2=>(intro u hu;go_simp;try with_reducible rfl)
     simp only [Act.put];refine hY(i:=3)(v:= ?vvb3)rfl(by kernel_rfl)(fun _ _ _ h=>h)(Or.inl⟨by rfl, ?hyb3⟩)aa ?restb3
     case hyb3=>(intro u hu;go_simp;try with_reducible rfl)
     simp only [Act.put];refine hY(i:=4)(v:= ?vvb4)rfl(by kernel_rfl)(fun _ _ _ h=>h)(Or.inl⟨by rfl, ?hyb4⟩)aa ?restb4
     case hyb4=>(intro u hu;go_simp;try with_reducible rfl)
     simp only [Act.put];refine hY(i:=5)(v:= .int .i64((i:Int)+1))rfl(by kernel_rfl)(fun _ _ _ h=>h)(Or.inl⟨by rfl, ?hyb5⟩)aa ?restb5
     case hyb5=>(intro u hu;go_simp;try rw [aF])
     simp only [Act.put];refine hY(i:=6)(v:= .slice(some⟨gg,i+1,none⟩)(l.length - (i+1))(gc - (i+1)))rfl(by kernel_rfl)(fun _ _ _ h=>h)(Or.inl⟨by rfl, ?hyb6⟩)aa ?restb6
     case hyb6=>(intro u hu;have a4:=aD.out;go_simp;first | done | (intro h;exfalso;omega))
     simp only [Act.put];refine ip(i:=7)rfl(by kernel_rfl)(by kernel_rfl)(by rfl) ?_;intro K7 ao;have am:=hZ ao;clear ao;go_simp;refine am.out _ _ trivial ?_;clear am;try simp only [Act.put,List.setIfInBounds_toArray]
     refine ip(i:=8)rfl(by kernel_rfl)(by kernel_rfl)(by rfl) ?_;intro K8 an;have al:=hZ an;clear an;go_simp;refine(tx [l.take i,l.drop(i+1)]_ _(yh(W:=w5.drew)rfl HA.out oz HD.out oz)(by simp)(by simp;omega)).mono ?_;rintro e w6⟨tv,rfl,ab,ag⟩;have ah:([l.take i,l.drop(i+1)]:List(List Int)).flatten=i7 l i:=by simp [i7]
     rw [ah]at ab;refine al.out _ _ trivial ?_;clear al;try simp only [Act.put,List.setIfInBounds_toArray]
     refine iE rfl(by kernel_rfl)(by kernel_rfl)(by rfl) ?_;go_simp;go_wp2
     go_meet
     exact⟨iN ab(by have:=af.out.size;have:=HG.out.size;simp;omega),ic oI ag⟩
   case rest=>
   obtain⟨ab,ag⟩:=hcut;obtain⟨w6,aY⟩:∃ w6,w6=wc:=⟨_,rfl⟩;rw [<-aY]at ab ag ⊢;clear aY HA;obtain⟨t1,t2,t3,rfl⟩:=iq ab;have be:=iy ab;subst be;have aK:=hZ ab;have bd:=hZ ag;have ai:Hid(w2.grownBy w6 none):=ic HG.out ag;have au:w6.heap[w1.heap.size]?=some(.cells(FG o(.slice x1 o.steps.length x3)(.slice y1 y2 y3))31(0,0)):=by
    rw [ai.out.block _ a9(by simp)];exact a6.out
   have k0:w6.cell?⟨w1.heap.size,0,none⟩=some(.int .i64 o.kind):=by simp only [World.cell?,au];rfl
   have k1:w6.cell?⟨w1.heap.size,1,none⟩=some(.int .i64 o.thread):=by simp only [World.cell?,au];rfl
   have k2:w6.cell?⟨w1.heap.size,2,none⟩=some(.int .i64 o.at_):=by simp only [World.cell?,au];rfl
   have bb:Hid(MachAt w6.drew.heap.size w6.drew m p):=(a8.out.grown' af.out.size ai.out).mono(Nat.le_trans af.out.size ai.out.size);have bg:Hid(IntsAt w6.drew.heap.size w6.drew(.slice t1(i7 l i).length t3)(i7 l i)):=jw aK.out;have aH:(i7 l i).length<=500:=by omega
   clear ab ag au;go_upto_region 8 with fail
   refine iu(fun u=>u.cell?⟨w1.heap.size,0,none⟩=some(.int .i64 o.kind)/\u.cell?⟨w1.heap.size,1,none⟩=some(.int .i64 o.thread)/\u.cell?⟨w1.heap.size,2,none⟩=some(.int .i64 o.at_))6(by kernel_rfl)(by kernel_rfl)⟨k0,k1,k2⟩ ?_;intro aa;refine hY(i:=0)(v:= ?vvc0)rfl(by kernel_rfl)(fun _ _ _ h=>h)(Or.inl⟨by rfl, ?hyc0⟩)aa ?restc0
   case hyc0=>(rintro u⟨av,ar,ax⟩;go_simp;try with_reducible rfl)
   simp only [Act.put,List.setIfInBounds_toArray];refine hY(i:=1)(v:= ?vvc1)rfl(by kernel_rfl)(fun _ _ _ h=>h)(Or.inl⟨by rfl, ?hyc1⟩)aa ?restc1
   case hyc1=>(rintro u⟨av,ar,ax⟩;go_simp;try with_reducible rfl)
   simp only [Act.put];refine hY(i:=4)(v:= ?vvc4)rfl(by kernel_rfl)(fun _ _ _ h=>h)(Or.inl⟨by rfl, ?hyc4⟩)aa ?restc4
   case hyc4=>(rintro u⟨av,ar,ax⟩;go_simp;try with_reducible rfl)
   simp only [Act.put];refine hY(i:=5)(v:= ?vvc5)rfl(by kernel_rfl)(fun _ _ _ h=>h)(Or.inl⟨by rfl, ?hyc5⟩)aa ?restc5
   case hyc5=>(rintro u⟨av,ar,ax⟩;go_simp;try with_reducible rfl)
   simp only [Act.put];refine ip(i:=2)rfl(by kernel_rfl)(by kernel_rfl)(by rfl) ?_;intro K2 aR;have aI:=hZ aR;clear aR;go_simp;refine(uY HP.out bb.out(Nat.le_refl _)bg.out aH).mono ?_;rintro e w7⟨rv7,rfl,⟨sv7,gv7,rfl,aQ,aS⟩,aU⟩;obtain⟨sa7,sb7,sc7,rfl⟩:=iq aQ;obtain⟨ra7,rb7,rc7,rfl⟩:=iq aS;clear aQ aS;have ak:Hid(w6.grownBy w7 none):=wt aU;have ad:w7.cell?⟨w1.heap.size,0,none⟩=some(.int .i64 o.kind)/\w7.cell?⟨w1.heap.size,1,none⟩=some(.int .i64 o.thread)/\w7.cell?⟨w1.heap.size,2,none⟩=some(.int .i64 o.at_):=⟨ie ak.out _ _ k0,ie ak.out _ _ k1,ie ak.out _ _ k2⟩;refine aI.out _ _ ad ?_;clear aI aU;try simp only [Act.put,List.setIfInBounds_toArray]
   refine hY(i:=3)(v:= ?vvd3)rfl(by kernel_rfl)(fun _ _ _ h=>h)(Or.inl⟨by rfl, ?hyd3⟩)ad ?restd3
   case hyd3=>(rintro u⟨av,ar,ax⟩;go_simp;try with_reducible rfl)
   simp only [Act.put,List.setIfInBounds_toArray];refine iE rfl(by kernel_rfl)(by kernel_rfl)(by rfl) ?_;go_simp;refine(pH(iF p(i7 l i))o w7).mono ?_;rintro e w8⟨rfl,a1⟩;have aw:Hid(w6.grownBy w8 none):=ic ak.out a1;clear a1 aa ad ak k0 k1 k2;have q7:(u:Int)+1<=9223372036854775807:=by omega
   cases hlk:mi(iF p(i7 l i))o
   ·have ay:Hid(shr p o(fuel.toNat - (u+1))l(i+1)(u+1)=shr p o fuel.toNat(ac.take cn)0 0):=by
     unfold Hid;rw [aP.out,hlk];simp
    clear hlk;go_wp2_with fail
    go_roundw
    case rel=>exact⟨l,i+1,u+1,by go_num,by go_num,ba,by omega,by omega,iA(iA HO.out bd.out(fun _ e=>by cases e))aw.out(fun _ e=>by cases e),ic ai.out aw.out,ay⟩
    case measure=>simp [intOf];omega
   ·have ay:Hid(shr p o(fuel.toNat - (u+1))(i7 l i)0(u+1)=shr p o fuel.toNat(ac.take cn)0 0):=by
     unfold Hid;rw [aP.out,hlk];simp
    clear hlk;go_wp2_with fail
    go_roundw
    case rel=>exact⟨i7 l i,0,u+1,by go_num,rfl,aH,by omega,by omega,iA aK.out aw.out(fun _ e=>by cases e),ic ai.out aw.out,ay⟩
    case measure=>simp [intOf];omega
  ·have HE:Hid(shr p o fuel.toNat(ac.take cn)0 0=(l,u)):=by
    unfold Hid;rw [<-HS.out];cases hn:fuel.toNat - u with
    | zero=>rfl
    | succ n=>rw [shr,if_neg(fun h=>aE⟨h,by omega⟩)]
   have aj:Hid(mn p ac fuel.toNat=(l,u)):=by unfold Hid;rw [a0.out,HE.out]
   obtain⟨b1,b2,b3,rfl⟩:=iq HO.out;have bf:=iy HO.out;subst bf;by_cases ap:i<l.length
   ·have q3:(i:Int)<l.length:=by omega
    have q4:fuel<=(u:Int):=by omega
    go_wp2_with fail
    rw [aj.out];exact bodyPost_ret(v:= .tuple #[.slice b1 l.length b3, .int .i64 u])(by simp [results,Tryz.results58,go_sem])rfl⟨_,rfl,HO.out,ic af.out HG.out⟩
   ·have q3:(l.length:Int)<=(i:Int):=by omega
    go_wp2_with fail
    rw [aj.out];exact bodyPost_ret(v:= .tuple #[.slice b1 l.length b3, .int .i64 u])(by simp [results,Tryz.results58,go_sem])rfl⟨_,rfl,HO.out,ic af.out HG.out⟩
end
section
open Go.RowKit
attribute [local go_sem] Go.World.cell?_alloc_some
def Shortened(p:List(List Ins))(s:List Int)(fuel:Int)(w:World)(e:Ending)(w':World):Prop:=
 w.grownBy w' none/\
 ((iz p s=0/\0<=fuel/\∃ sv,e= .returned(.tuple #[sv, .int .i64((mn p s fuel.toNat).2:Nat), .int .i64 0])/\w'.ownsRow w.heap.size 3 1 sv(mn p s fuel.toNat).1.length(iI(mn p s fuel.toNat).1))\/
  (iz p s=0/\fuel<0/\e= .returned(.tuple #[.slice none 0 0, .int .i64 0, .int .i64 2]))\/
  (iz p s≠0/\e= .returned(.tuple #[.slice none 0 0, .int .i64 0, .int .i64(iz p s)])))
theorem tq {p:List(List Ins)} {s:List Int}(h0:iz p s=0):iR p=true/\s.length<=500:=by
 unfold iz at h0;by_cases hv:iR p=true
 ·by_cases h5:s.length<=500
  ·exact⟨hv,h5⟩
  ·simp [hv,h5]at h0
 ·simp [hv]at h0
theorem BG(p:List(List Ins))(s:List Int)(pv sv:Value)(fuel:Int)(w:World)(hS:ShpAt w)(hP:ProgAt w pv p)(hI:IntsAt w.heap.size w sv s)(ah:oH sv)(an:fuel<=9223372036854775807):
  Calls Tryz.prog 32 #[pv,sv, .int .i64 fuel]w(Shortened p s fuel w):=by
 have am:=hZ hS;have HP:=hZ hP;have HI:=hZ hI;have HN:=hZ ah;obtain⟨ao,ag,rfl⟩:=hP.form;obtain⟨so,sc,rfl⟩:=hI.form;clear hS hP hI ah;go_enter Tryz.func32,Tryz.ntmps32
 go_wp2_with fail
 have ad:∀ a b,w.grownBy((w.alloc a).alloc b)none:=fun a b=>ij(ij(il _ _))
 refine(oy p [s]_ _ _(am.out.pres(ie(ad _ _)))(HP.out.pres(ie(ad _ _)))(rI(by simp))(by simp)).mono ?_;rw [nR];rintro e w1⟨rfl,ae⟩;have ab:Hid(w.grownBy w1 none):=ic(ad _ _)ae;have aj:w1.heap[w.heap.size]?=some(.cells #[.slice ao p.length ag]37(0,0)):=by
  rw [ae.block w.heap.size(by simp;omega)(by simp),Below.heap_alloc _ _ _(by simp)];exact heap_alloc_new w _
 have c0:w1.cell?⟨w.heap.size,0,none⟩=some(.slice ao p.length ag):=by simp [World.cell?,aj]
 clear aj ae;by_cases h0:iz p s=0
 ·have H0:=hZ h0;obtain⟨hv,h5⟩:=tq h0;have HV:=hZ hv;rw [h0];clear h0 hv;by_cases hf:fuel<0
  ·go_wp2_with fail
   exact bodyPost_ret(v:= .tuple #[.slice none 0 0, .int .i64 0, .int .i64 2])(by simp [results,Tryz.results32,go_sem])rfl⟨ab.out,Or.inr(Or.inl⟨H0.out,hf,rfl⟩)⟩
  ·have ai:0<=fuel:=by omega
   go_wp2_with fail
   refine(Ab HV.out(HP.out.pres(ie ab.out))).mono ?_;rintro e w2⟨m,rfl,hM,ak⟩;have HM:=hZ hM;have ac:Hid(w.grownBy w2 none):=ic ab.out ak;clear hM ak c0;go_wp2_with fail
   refine(EP HV.out HM.out((HI.out.pres(ie ac.out)).mono ac.out.size)HN.out h5 ai an).mono ?_;rintro e w3⟨rv,rfl,aa,af⟩;obtain⟨r1,r2,r3,rfl⟩:=iq aa;have ap:=hZ aa;have al:Hid(w.grownBy w3 none):=ic ac.out af;clear aa af;go_wp2_with fail
   exact bodyPost_ret(v:= .tuple #[.slice r1 r2 r3, .int .i64((mn p s fuel.toNat).2:Nat), .int .i64 0])(by simp [results,Tryz.results32,go_sem])rfl⟨al.out,Or.inl⟨H0.out,ai,_,rfl,iN ap.out ac.out.size⟩⟩
 ·have H0:=hZ h0;have hne:(iz p s !=0)=true:=by simpa using h0
  clear h0;generalize hE:iz p s=e at*;have HE:=hZ hE;clear hE;go_wp2_with fail
  exact bodyPost_ret(v:= .tuple #[.slice none 0 0, .int .i64 0, .int .i64 e])(by simp [results,Tryz.results32,go_sem])rfl⟨ab.out,Or.inr(Or.inr⟨by rw [HE.out];exact H0.out,by rw [HE.out]⟩)⟩
end
section
open Go.RowKit
attribute [local go_sem] Go.World.cell?_alloc_some
theorem sK {B:Nat} {w:World} {ao:Option Addr} {ab n:Nat} {l:List Int}(h:IntsAt B w(.slice ao n ab)l):∀ b,ao=some b->∀ j u,(iI l)[j]?=some u->w.cell?(b.add j)=some u:=by
 rintro b rfl j u hj;obtain⟨a,c,e,_,h2⟩:=h;have hl:=(List.getElem?_eq_some_iff.1 hj).1;rw [jW]at hl;obtain⟨g',o',e1,e2,e3⟩:=h2 j hl;simp only [Value.slice.injEq]at e;rw [e1]at e;simp only [Option.some.injEq]at e;obtain⟨rfl,_⟩:=e;have aa:(⟨g',o',none⟩:Addr).add j=⟨g',o'+j,none⟩:=by unfold Addr.add;split<;>simp_all
 rw [aa,e3];have:(iI l)[j]?=some(.int .i64 l[j]):=by simp [iI,hl]
 rw [this]at hj;exact hj
theorem mD {w:World}(n:Nat):w.grownBy(w.drewN n)none:=iH(by have:=lq w n;exact this)
theorem Bw(a b:Out):mi a b=((a.kind==b.kind &&(a.thread==b.thread && a.at_==b.at_)) || (a.kind==2 && b.kind==2)):=by
 unfold mi;by_cases h:a.kind=2
 ·rw [if_pos h,h];by_cases h2:b.kind=2
  ·simp [h2]
  ·have h3:((2:Int)==b.kind)=false:=by simp;omega
   have h4:(b.kind==2)=false:=by simpa using h2
   simp [h3,h4]
 ·have h4:(a.kind==2)=false:=by simpa using h
  rw [if_neg h,h4];simp [Bool.and_assoc]
theorem wy(p:List(List Ins))(s:List Int)(pv sv:Value)(fuel:Int)(w:World)(hP:ProgAt w pv p)(hI:IntsAt w.heap.size w sv s)(a6:oH sv)(hf1:fuel<=9223372036854775807)(bQ:p.length<=5864062014634)(ba:∀ c∈p,c.length<=4398046510976):
  Calls Tryz.prog 33 #[pv,sv, .int .i64 fuel]w(Shortened p s fuel w):=by
 obtain⟨i0,aL,aI,aJ,aG⟩:=info_parts kt;have HP:=hZ hP;have HI:=hZ hI;have HN:=hZ a6;have bR:=hZ ba;obtain⟨ao,aK,rfl⟩:=hP.form;obtain⟨so,sc,rfl⟩:=hI.form;have hcap:s.length<=sc:=by
  obtain⟨a,c,e,h1,_⟩:=hI;simp only [Value.slice.injEq]at e;omega
 clear hP hI a6 ba;go_enter Tryz.func33,Tryz.ntmps33
 go_wp2_with fail
 have a2:∀ a,w.grownBy(w.alloc a)none:=fun a=>ij(il _ _)
 refine(mE p _ _(HP.out.pres(ie(a2 _)))bQ bR.out).mono ?_;rintro e w1⟨rfl,aY⟩;have al:Hid(w.grownBy w1 none):=ic(a2 _)aY;have bt:w1.heap[w.heap.size]?=some(.cells #[.slice ao p.length aK]37(0,0)):=by
  rw [aY.block w.heap.size(by simp)(by simp)];exact heap_alloc_new w _
 have c0:w1.cell?⟨w.heap.size,0,none⟩=some(.slice ao p.length aK):=by simp [World.cell?,bt]
 clear bt aY;by_cases hv:iR p=true
 ·have e0:je p=0:=by simp [je,hv]
  have HV:=hZ hv;rw [e0];clear e0 hv;by_cases h5:s.length<=500
  ·have bI:(s.length:Int)<=500:=by omega
   have H0:Hid(iz p s=0):=by unfold Hid iz;simp [HV.out,h5]
   by_cases hf:fuel<0
   ·go_wp2_with fail
    exact bodyPost_ret(v:= .tuple #[.slice none 0 0, .int .i64 0, .int .i64 2])(by simp [results,Tryz.results33,go_sem])rfl⟨al.out,Or.inr(Or.inl⟨H0.out,hf,rfl⟩)⟩
   ·have bg:0<=fuel:=by omega
    have aq:=hZ(pV w1 ao aK p(.slice so s.length sc)s HV.out(HP.out.pres(ie al.out))((HI.out.pres(ie al.out)).mono al.out.size)(by omega));go_wp2_with fail
    refine(nC aq).mono ?_;clear aq;rintro e w2⟨b,ab,rb,st,rfl,hR⟩;obtain⟨x1,x2,x3,rfl⟩:=iq hR.row;have bz:=iy hR.row;subst bz;have az:Hid(w.grownBy w2 none):=ic al.out hR.frame;obtain⟨bx,be,a3,bb,_,_,_⟩:=hR.vcells;have bK:=hZ(ie hR.frame _ _ c0);have bG:Hid(∀ u,w2.grownBy u none->u.cell?⟨b,11,none⟩=some(.int .i64(iF p s).kind)/\u.cell?⟨b,12,none⟩=some(.int .i64(iF p s).thread)/\u.cell?⟨b,13,none⟩=some(.int .i64(iF p s).at_)):=fun u hu=>⟨ie hu _ _ be,ie hu _ _ a3,ie hu _ _ bb⟩
    have bh:=hZ(zS p s);have hln:=sJ p s;have br:Hid(∀ n,mn p s n=shr p(iF p s)n(s.take(ko(iF p s)))0 0):=fun n=>rfl
    clear hR c0 a3 bb;have hcl:=bh.out.2;generalize hO:iF p s=o at*;clear hO;obtain⟨cn,aW⟩:∃ cn:Nat,cn=ko o:=⟨_,rfl⟩;rw [<-aW]at hcl br;have bc:=hZ aW;clear aW bh;have hl1:(o.steps.length:Int)<=500:=by omega
    go_upto_if 42 with fail
    go_cut [11](fun nv w'=>nv= .int .i64(cn:Int)/\w'=w2)
    case first=>
     by_cases hk:o.kind=2
     ·have hc:cn=o.steps.length+1:=by rw [bc.out];unfold ko;rw [if_pos hk]
      have HC:=hZ hc;clear hc;go_wp2_with fail
      go_meet
      exact⟨by rw [HC.out];go_num,rfl⟩
     ·have hk2:(o.kind==2)=false:=by simpa using hk
      have hc:cn=o.steps.length:=by rw [bc.out];unfold ko;rw [if_neg hk]
      have HC:=hZ hc;clear hc hk;go_wp2_with fail
      go_meet
      exact⟨by rw [HC.out],rfl⟩
    case rest=>
    obtain⟨rfl,bB⟩:=hcut;have aX:=bB.symm;subst aX;have bq:Hid(IntsAt w2.heap.size w2(.slice so cn sc)(s.take cn)):=((HI.out.pres(ie az.out)).mono az.out.size).front hcl;have bm:Hid(so=none->cn=0/\sc=0):=fun e=>by
     have:=HN.out s.length sc(by rw [e]);omega
    have aj:Hid(∀ ad,so=some ad->∀ j u,(iI(s.take cn))[j]?=some u->w2.cell?(ad.add j)=some u):=sK bq.out;have aR:(iI(s.take cn)).length=cn*1:=by rw [jW];simp;omega
    have bu:0+cn<=maxLen:=by unfold maxLen;omega
    have q0:(cn:Int)<=sc:=by omega
    have q1:(0:Int)<=(cn:Int):=by omega
    have bH:=az.out.size;clear bx be;go_upto_region 12 with(at_builtin;refine kw rfl _ _ _ rfl w.heap.size 3 i0 _ 1 8 Tryz.underlying39 aL aI aJ aG rfl(by omega)(.slice none 0 0)0 []rfl⟨rfl,Or.inl⟨rfl,rfl⟩⟩so cn sc(iI(s.take cn))rfl aR bm.out aj.out(oT _)bu(by omega)bH ?_;intro z1 z2 z3 w3 aa bi)
    simp only [Nat.zero_add,List.nil_append]at aa;have bl:(s.take cn).length=cn:=by simp;omega
    have bo:Hid(w3.ownsRow w.heap.size 3 1(.slice z1 z2 z3)(s.take cn).length(iI(s.take cn))):=by unfold Hid;rw [bl];exact aa
    have a1:Hid(w2.grownBy w3 none):=bi;have bP:(s.take cn).length<=500:=by omega
    clear aa bi aR bu bm aj bq bl;go_wp2_with fail
    go_loopw [12,13,14](fun lv uv kv w'=>∃ (l:List Int)(i u:Nat),uv= .int .i64 u/\kv= .int .i64 i/\l.length<=500/\i<=l.length/\(u:Int)<=fuel/\Hid(w'.ownsRow w.heap.size 3 1 lv l.length(iI l))/\Hid(w2.grownBy w' none)/\Hid(shr p o(fuel.toNat - u)l i u=shr p o fuel.toNat(s.take cn)0 0))(fun _ uv _ _=>fuel.toNat - (intOf uv).toNat)
    case atStart=>exact⟨s.take cn,0,0,rfl,rfl,bP,Nat.zero_le _,by omega,bo,a1,rfl⟩
    case round=>
     clear bo a1;obtain⟨l,i,u,rfl,rfl,bN,aR,hu,HO,HG,HS⟩:=hrel;obtain⟨w5,a8⟩:∃ w5,w5=wr:=⟨_,rfl⟩;rw [<-a8]at HO HG ⊢;clear a8;have r0:(0:Int)<=(i:Int):=by omega
     have r1:(0:Int)<=(u:Int):=by omega
     have r2:(l.length:Int)<=500:=by omega
     by_cases bw:i<l.length/\(u:Int)<fuel
     ·obtain⟨aO,huf⟩:=bw;obtain⟨gg,gc,bD⟩:∃ gg gc,u12= .slice(some⟨gg,0,none⟩)l.length gc:=by
       rcases HO.out.2 with⟨_,e⟩ | ⟨gg,gc,_,e,_⟩
       ·omega
       ·exact⟨gg,gc,e⟩
      subst bD;have aS:=hZ(jw HO.out);have hcp:l.length<=gc:=by
       obtain⟨a,c,e,h1,_⟩:=aS.out;simp only [Value.slice.injEq]at e;omega
      have r3:(i:Int)<l.length:=by omega
      have r4:(i:Int)<=gc:=by omega
      have r5:(i:Int)+1<=l.length:=by omega
      have r6:(l.length:Int)<=gc:=by omega
      have bd:fuel.toNat - u=(fuel.toNat - (u+1))+1:=by omega
      have aw:Hid(shr p o fuel.toNat(s.take cn)0 0=if mi(iF p(i7 l i))o=true then shr p o(fuel.toNat - (u+1))(i7 l i)0(u+1)else shr p o(fuel.toNat - (u+1))l(i+1)(u+1)):=by
       unfold Hid;rw [<-HS.out,bd,shr,if_pos aO]
      have bj:=oQ aO;have aM:=hZ bj;have bJ:w.heap.size<=w5.heap.size:=by have:=HG.out.size;omega
      have aj:Hid(∀ ad,some(⟨gg,0,none⟩:Addr)=some ad->∀ j v,(iI(l.take i))[j]?=some v->w5.cell?(ad.add j)=some v):=sK(IntsAt.front aS.out(by omega));have aD:(iI(l.take i)).length=i*1:=by rw [jW];simp;omega
      have ar:0+i<=maxLen:=by unfold maxLen;omega
      clear HS bd bj;go_upto_region 17 with(at_builtin;refine kw rfl _ _ _ rfl w5.heap.size 3 i0 _ 1 8 Tryz.underlying39 aL aI aJ aG rfl(by omega)(.slice none 0 0)0 []rfl⟨rfl,Or.inl⟨rfl,rfl⟩⟩(some⟨gg,0,none⟩)i gc(iI(l.take i))rfl aD(fun e=>by cases e)aj.out(oT _)ar(by omega)(Nat.le_refl _) ?_;intro ta tn tc w6 ac ay)
      simp only [Nat.zero_add,List.nil_append]at ac;have ap:=hZ ac;have ak:Hid(w5.grownBy w6 none):=ay;have aZ:w5.heap.size<=w6.heap.size:=ay.size;have bv:Hid(IntsAt w6.heap.size w6(.slice(some⟨gg,0,none⟩)l.length gc)l):=(aS.out.pres(ie ay)).mono ay.size;have aV:iI(l.take i)++iI(l.drop(i+1))=iI(i7 l i):=by simp [iI,i7]
      have a9:i+(l.length - (i+1))=(i7 l i).length:=by have:=aM.out;omega
      have au:i+(l.length - (i+1))<=maxLen:=by unfold maxLen;omega
      have aF:(iI(l.drop(i+1))).length=(l.length - (i+1))*1:=by rw [jW];simp
      clear ac ay aD ar aj;go_cut [15](fun tv w'=>Hid(w'.ownsRow w5.heap.size 3 1 tv(i7 l i).length(iI(i7 l i))/\w5.grownBy w' none))
      case first=>
       by_cases hsk:gc - (i+1)=0
       ·have a7:gc=i+1:=by omega
        have bn:l.drop(i+1)= []:=List.drop_of_length_le(by omega);have HE:Hid(iI(i7 l i)=iI(l.take i)/\(i7 l i).length=i):=⟨by rw [<-aV,bn];simp [iI],by omega⟩;clear bn;subst a7;go_wp2_with(at_builtin;refine kw rfl _ _ _ rfl w5.heap.size 3 i0 _ 1 8 Tryz.underlying39 aL aI aJ aG rfl(by omega)(.slice ta tn tc)i(iI(l.take i))rfl ap.out(some⟨gg,0,none⟩)0 0 []rfl rfl(fun e=>by cases e)(fun ad e j v hj=>by simp at hj)(fun v hv=>by cases hv)(by omega)(by omega)aZ ?_;intro tb tm td w7 ae ag)
        go_meet
        exact⟨by rw [HE.out.1,HE.out.2];simpa using ae,jD ak.out ag(fun q e=>iw ap.out q e)⟩
       ·have bC:Hid(IntsAt w6.heap.size w6(.slice(some⟨gg,i+1,none⟩)(l.length - (i+1))(gc - (i+1)))(l.drop(i+1))):=zJ bv.out aO;have aj:Hid(∀ ad,some(⟨gg,i+1,none⟩:Addr)=some ad->∀ j v,(iI(l.drop(i+1)))[j]?=some v->w6.cell?(ad.add j)=some v):=sK bC.out;have a7:¬gc=i+1:=by omega
        go_wp2_with(at_builtin;refine kw rfl _ _ _ rfl w5.heap.size 3 i0 _ 1 8 Tryz.underlying39 aL aI aJ aG rfl(by omega)(.slice ta tn tc)i(iI(l.take i))rfl ap.out(some⟨gg,i+1,none⟩)(l.length - (i+1))(gc - (i+1))(iI(l.drop(i+1)))rfl aF(fun e=>by cases e)aj.out(oT _)au(by omega)aZ ?_;intro tb tm td w7 ae ag)
        go_meet
        exact⟨by rw [<-aV,<-a9];exact ae,jD ak.out ag(fun q e=>iw ap.out q e)⟩
      case rest=>
      obtain⟨aA,ag⟩:=hcut.out;clear hcut ap ak bv aV a9 au aF aZ;obtain⟨w7,bk⟩:∃ w7,w7=wc:=⟨_,rfl⟩;rw [<-bk]at aA ag ⊢;clear bk;obtain⟨t1,t2,t3,ht⟩:=iq aA;subst ht;have bL:=hZ aA;have aT:=hZ ag;have am:Hid(w2.grownBy w7 none):=ic HG.out ag;have aP:Hid(w.grownBy w7 none):=ic az.out am.out;have c7:=ie am.out _ _ bK.out;have aq:=hZ(pV w7 ao aK p(.slice t1 t2 t3)(i7 l i)HV.out(HP.out.pres(ie aP.out))(jw aA)(by have:=aM.out;omega));clear aA ag;go_wp2_with fail
      refine(nC aq).mono ?_;clear aq c7;rintro e w8⟨b8,ab8,rb8,st8,rfl,aQ⟩;obtain⟨_,k1,k2,k3,_,_,_⟩:=aQ.vcells;have aE:=hZ aQ.frame;have af:=hZ(Bw(iF p(i7 l i))o);have bf:Hid(∃ LK,LK=mi(iF p(i7 l i))o):=⟨_,rfl⟩;clear aQ;generalize hq:iF p(i7 l i)=q at*;obtain⟨LK,bp⟩:=bf.out;rw [<-bp]at aw af;clear bf bp hq;go_upto_region 20 with fail
      obtain⟨w9,aH⟩:∃ w9,w9=w8.alloc(.cells #[.int .i64 q.kind, .int .i64 q.thread, .int .i64 q.at_]26):=⟨_,rfl⟩;have av:Hid(w8.grownBy w9 none):=by unfold Hid;rw [aH];exact ij(il _ _)
      have zb:w9.heap[w8.heap.size]?=some(.cells #[.int .i64 q.kind, .int .i64 q.thread, .int .i64 q.at_]26(0,0)):=by rw [aH];exact heap_alloc_new w8 _
      rw [<-aH];clear aH k1 k2 k3;have ax:Hid(w2.grownBy w9 none):=ic am.out(ic aE.out av.out);obtain⟨m1,m2,m3⟩:=bG.out w9 ax.out;have n0:w9.cell?⟨w8.heap.size,0,none⟩=some(.int .i64 q.kind):=by simp [World.cell?,zb]
      have n1:w9.cell?⟨w8.heap.size,1,none⟩=some(.int .i64 q.thread):=by simp [World.cell?,zb]
      have n2:w9.cell?⟨w8.heap.size,2,none⟩=some(.int .i64 q.at_):=by simp [World.cell?,zb]
      clear zb;generalize q.kind=qk at*;generalize q.thread=qt at*;generalize q.at_=qa at*;generalize o.kind=ok at*;generalize o.thread=ot at*;generalize o.at_=oa at*;go_cut [96](fun x w'=>x= .bool LK/\Hid(w9.grownBy w' none))
      case first=>
       by_cases e1:qk=ok
       ·subst e1;by_cases e2:qt=ot
        ·subst e2;by_cases e3:qa=oa
         ·subst e3;have HL:Hid(LK=true):=by unfold Hid;rw [af.out];simp
          go_quiet(fail)
          go_wp2_with fail
          go_meet
          exact⟨by rw [HL.out],mD _⟩
         ·have bA:(qa==oa)=false:=by simpa using e3
          by_cases e4:qk=2
          ·subst e4;have HL:Hid(LK=true):=by unfold Hid;rw [af.out];simp
           clear e3;go_quiet(fail)
           go_wp2_with fail
           go_meet
           exact⟨by rw [HL.out],mD _⟩
          ·have aC:(qk==2)=false:=by simpa using e4
           have HL:Hid(LK=false):=by unfold Hid;rw [af.out];simp [bA,aC]
           clear e3 e4;go_quiet(fail)
           go_wp2_with fail
           go_meet
           exact⟨by rw [HL.out],mD _⟩
        ·have bF:(qt==ot)=false:=by simpa using e2
         by_cases e4:qk=2
         ·subst e4;have HL:Hid(LK=true):=by unfold Hid;rw [af.out];simp
          clear e2;go_quiet(fail)
          go_wp2_with fail
          go_meet
          exact⟨by rw [HL.out],mD _⟩
         ·have aC:(qk==2)=false:=by simpa using e4
          have HL:Hid(LK=false):=by unfold Hid;rw [af.out];simp [bF,aC]
          clear e2 e4;go_quiet(fail)
          go_wp2_with fail
          go_meet
          exact⟨by rw [HL.out],mD _⟩
       ·have a4:(qk==ok)=false:=by simpa using e1
        by_cases e4:qk=2
        ·subst e4;have bO:(ok==2)=false:=by simpa using fun h:ok=2=>e1 h.symm
         have HL:Hid(LK=false):=by unfold Hid;rw [af.out];simp [a4,bO]
         clear e1;go_quiet(fail)
         go_wp2_with fail
         go_meet
         exact⟨by rw [HL.out],mD _⟩
        ·have aC:(qk==2)=false:=by simpa using e4
         have HL:Hid(LK=false):=by unfold Hid;rw [af.out];simp [a4,aC]
         clear e1 e4;go_quiet(fail)
         go_wp2_with fail
         go_meet
         exact⟨by rw [HL.out],mD _⟩
      case rest=>
      obtain⟨rfl,a0⟩:=hcut;obtain⟨an,aB⟩:∃ an,an=wc:=⟨_,rfl⟩;rw [<-aB]at a0 ⊢;clear aB m1 m2 m3 n0 n1 n2 af;have ah:Hid(w2.grownBy an none):=ic ax.out a0.out;have ai:Hid(w7.grownBy an none):=ic aE.out(ic av.out a0.out);have huf':(u:Int)+1<=fuel:=by omega
      cases LK with
      | true=>
       have aN:Hid(shr p o(fuel.toNat - (u+1))(i7 l i)0(u+1)=shr p o fuel.toNat(s.take cn)0 0):=by unfold Hid;rw [aw.out];rfl
       have aU:Hid(an.ownsRow w.heap.size 3 1(.slice t1 t2 t3)(i7 l i).length(iI(i7 l i))):=iN(iA bL.out ai.out(fun _ e=>by cases e))bJ;clear aw;go_wp2_with fail
       go_roundw
       case rel=>exact⟨i7 l i,0,u+1,by go_num,rfl,by have:=aM.out;omega,Nat.zero_le _,by omega,aU,ah,aN⟩
       case measure=>simp [intOf];omega
      | false=>
       have aN:Hid(shr p o(fuel.toNat - (u+1))l(i+1)(u+1)=shr p o fuel.toNat(s.take cn)0 0):=by unfold Hid;rw [aw.out];rfl
       have aU:Hid(an.ownsRow w.heap.size 3 1(.slice(some⟨gg,0,none⟩)l.length gc)l.length(iI l)):=iA(iA HO.out aT.out(fun _ e=>by cases e))ai.out(fun _ e=>by cases e);clear aw;go_wp2_with fail
       go_roundw
       case rel=>exact⟨l,i+1,u+1,by go_num,by go_num,bN,by omega,by omega,aU,ah,aN⟩
       case measure=>simp [intOf];omega
     ·have HE:Hid(mn p s fuel.toNat=(l,u)):=by
       unfold Hid;rw [br.out,<-HS.out];cases hd:fuel.toNat - u with
       | zero=>rfl
       | succ d=>rw [shr,if_neg(by omega)]
      have a5:Hid(w.grownBy w5 none):=ic az.out HG.out;obtain⟨l1,l2,l3,bE⟩:=iq HO.out;subst bE;have bM:=iy HO.out;subst bM;by_cases hA:(u:Int)<fuel
      ·have r7:(l.length:Int)<=(i:Int):=by omega
       go_wp2_with fail
       exact bodyPost_ret(v:= .tuple #[.slice l1 l.length l3, .int .i64(u:Int), .int .i64 0])(by simp [results,Tryz.results33,go_sem])rfl⟨a5.out,Or.inl⟨H0.out,bg,_,by rw [HE.out],by rw [HE.out];exact HO.out⟩⟩
      ·have r7:fuel<=(u:Int):=by omega
       go_wp2_with fail
       exact bodyPost_ret(v:= .tuple #[.slice l1 l.length l3, .int .i64(u:Int), .int .i64 0])(by simp [results,Tryz.results33,go_sem])rfl⟨a5.out,Or.inl⟨H0.out,bg,_,by rw [HE.out],by rw [HE.out];exact HO.out⟩⟩
  ·have bI:(500:Int)<s.length:=by omega
   have H0:Hid(iz p s=2):=by unfold Hid iz;simp [HV.out,h5]
   go_wp2_with fail
   exact bodyPost_ret(v:= .tuple #[.slice none 0 0, .int .i64 0, .int .i64 2])(by simp [results,Tryz.results33,go_sem])rfl⟨al.out,Or.inr(Or.inr⟨by rw [H0.out];decide,by rw [H0.out]⟩)⟩
 ·have e0:je p=1:=by simp [je,hv]
  have H0:Hid(iz p s=1):=by unfold Hid iz;simp [hv]
  rw [e0];clear e0 hv;go_wp2_with fail
  exact bodyPost_ret(v:= .tuple #[.slice none 0 0, .int .i64 0, .int .i64 1])(by simp [results,Tryz.results33,go_sem])rfl⟨al.out,Or.inr(Or.inr⟨by rw [H0.out];decide,by rw [H0.out]⟩)⟩
end
section
open Go.RowKit
attribute [local go_sem] Go.World.cell?_alloc_some
def mB(p:List(List Ins))(s:List Int)(fuel:Int):List Int:=if iz p s=0/\0<=fuel then(mn p s fuel.toNat).1 else []
def yd(p:List(List Ins))(s:List Int)(fuel:Int):Int:=if iz p s=0/\0<=fuel then(((mn p s fuel.toNat).2:Nat):Int)else 0
def xd(p:List(List Ins))(s:List Int)(fuel:Int):Int:=if iz p s=0 then(if 0<=fuel then 0 else 2)else iz p s
theorem Shortened.form {p:List(List Ins)} {s:List Int} {fuel:Int} {w w':World} {e:Ending}(h:Shortened p s fuel w e w'):
  w.grownBy w' none/\∃ v,e= .returned(.tuple #[v, .int .i64(yd p s fuel), .int .i64(xd p s fuel)])/\w'.ownsRow w.heap.size 3 1 v(mB p s fuel).length(iI(mB p s fuel)):=by
 obtain⟨hg,h⟩:=h;rcases h with⟨h0,hf,v,he,ho⟩ | ⟨h0,hf,he⟩ | ⟨h0,he⟩
 ·refine⟨hg,v, ?_, ?_⟩
  ·unfold yd xd;rw [if_pos⟨h0,hf⟩,if_pos h0,if_pos hf];exact he
  ·unfold mB;rw [if_pos⟨h0,hf⟩];exact ho
 ·have hn:¬(iz p s=0/\0<=fuel):=by omega
  refine⟨hg, .slice none 0 0, ?_, ?_⟩
  ·unfold yd xd;rw [if_neg hn,if_pos h0,if_neg(by omega)];exact he
  ·unfold mB;rw [if_neg hn];exact⟨rfl,Or.inl⟨rfl,rfl⟩⟩
 ·have hn:¬(iz p s=0/\0<=fuel):=fun e=>h0 e.1
  refine⟨hg, .slice none 0 0, ?_, ?_⟩
  ·unfold yd xd;rw [if_neg hn,if_neg h0];exact he
  ·unfold mB;rw [if_neg hn];exact⟨rfl,Or.inl⟨rfl,rfl⟩⟩
theorem wH(p:List(List Ins))(s:List Int)(fuel:Int):(mB p s fuel).length<=500:=by
 unfold mB;by_cases h:iz p s=0/\0<=fuel
 ·rw [if_pos h];have h5:=(tq h.1).2;unfold mn;have h1:=vm(p:=p)(V:=iF p s)fuel.toNat(s.take(ko(iF p s)))0 0;have h2:(s.take(ko(iF p s))).length<=s.length:=by simp;omega
  omega
 ·rw [if_neg h];simp
theorem yl(W:World)(B:Nat)(w:World)(b:Nat)(who:Nat->Role)(n:Int)(f:Nat->Value)(K:Nat->List(Value × Int))(pv sv:Value)(p:List(List Ins))(s:List Int)(fuel:Int)
  (h:Hz B w b who n f K)(hW:W.grownBy w none)(ah:W.heap.size<=B)(hS:ShpAt W)(hP:ProgAt W pv p)(hI:IntsAt W.heap.size W sv s)(am:oH sv)(a3:fuel<=9223372036854775807)(aX:p.length<=5864062014634)(aL:∀ c∈p,c.length<=4398046510976)(bm:s.length<=17592186043904)(bo:0<=n)(hn1:n<=9000000000000)(hK:∀ c,c<5->(K c).length<=4900000000000):
  Calls Tryz.prog 8 #[pt b,pv,sv, .int .i64 fuel]w(HzF W B b(n+1)K w who):=by
 have HH:=hZ h;have HW:=hZ hW;have HS:=hZ hS;have HP:=hZ hP;have HI:=hZ hI;have bu:=hZ am;have bB:=hZ aL;have HK:=hZ hK;obtain⟨ao,ak,rfl⟩:=hP.form;obtain⟨so,sc,rfl⟩:=hI.form;have av:pt b= .pointer(some⟨b,0,none⟩):=rfl;have aV:=hZ(ns W B(w.alloc(.cells #[.slice ao p.length ak]37))b who n f K [] [] [](.agg #[.slice ao p.length ak])p(h.lx.grown(ij(il _ _)))(ij hW)ah hP aX aL(by simpa using aX)(by simp));clear h hW hS hP hI am aL hK;rw [av]at aV ⊢;go_enter Tryz.func8,Tryz.ntmps8
 go_wp2_with fail
 refine aV.out.mono ?_;clear aV;rintro e w1⟨g,LC1,au,f1,rfl,ai,aF,aA,bt⟩;have a5:who w.heap.size= .other:=by
  by_cases e:who w.heap.size= .other
  ·exact e
  ·exact absurd(HH.out.1.1.dom _ e).2(by omega)
 obtain⟨al,aq⟩:=aA.oth w.heap.size(by simp)a5(fun e=>e);have aQ:Hid(W.grownBy w1 none):=aA.base(ij HW.out)ah(fun g e=>(HH.out.1.1.dom g e).1)(fun _ e=>e.elim);have bk:Hid(Fr w w1 who au(fun g=>w.heap.size<=g)):=(Fr.grown(ij(il _ _))).step0 aA;have c1:w1.cell?⟨w.heap.size,0,none⟩=some(.slice ao p.length ak):=by
  simp only [World.cell?,al,heap_alloc_new];rfl
 have ap:w.heap.size<w1.heap.size:=World.block_lt_of_cell? w1 _ c1;have aZ:LC1.length=p.length:=by rw [<-aF];simp
 simp only [List.nil_append]at ai;have aO:=hZ(lZ B w1 b au n f1 K []LC1 [(g,p.length)]0(.slice so s.length sc)s ai((HI.out.pres(ie aQ.out)).mono aQ.out.size)(mC ai.hs ah HI.out)bm(by simp));have bi:=hZ ai;have bx:=hZ aF;have bj:=hZ aq;have a1:=hZ aZ;have a9:=hZ c1;clear ai aF aA bt al a5 aq aZ c1;rw [av]at aO;go_wp2_with fail
 refine aO.out.mono ?_;clear aO;rintro e w2⟨gs,aa,f2,rfl,af,ay⟩;simp only [List.nil_append]at af;have aW:Hid(W.grownBy w2 none):=ay.base aQ.out ah(fun g e=>(bi.out.hs.1.dom g e).1)(fun _ e=>e.elim);have a7:Hid(Fr w w2 who aa(fun g=>w.heap.size<=g)):=bk.out.step0 ay;obtain⟨al,aq⟩:=ay.oth w.heap.size ap bj.out(fun e=>e);have aN:=hZ aq;have aI:Hid(w2.cell?⟨w.heap.size,0,none⟩=some(.slice ao p.length ak)):=by
  unfold Hid;rw [World.cell?_of_block al];exact a9.out
 have hlt2:w.heap.size<w2.heap.size:=World.block_lt_of_cell? w2 _ aI.out;have bd:w2.heap[g]?=some(.cells(jx LC1)66(0,0)):=by
  have:=(af.le.lr 0(by simp)).1;simp only [List.getElem_cons_zero,List.take_zero,List.map_nil,List.sum_nil,List.drop_zero]at this;rw [List.take_of_length_le(by rw [a1.out];omega)]at this;exact this
 have bh:ProgAt w2(.agg #[.slice(some⟨g,0,none⟩)p.length(p.length+2)])p:=np(LC0:= [])(by simpa using af.le)bd bx.out _;have be:IntsAt w2.heap.size w2(.slice(some⟨gs,0,none⟩)s.length(s.length+2))s:=l9(af.le.li(gs,s, .slice so s.length sc)(by simp)).1;have bb:=hZ(BG p s _ _ fuel w2(HS.out.pres(ie aW.out))bh be(fun _ _ e=>by simp at e)a3);have aj:=hZ af;clear af ay al aq bd bh be bi a9 bj ap;go_wp2_with fail
 refine bb.out.mono ?_;clear bb;intro e w3 hF;obtain⟨ax,v,he,aP⟩:=hF.form;clear hF;subst he;obtain⟨x1,x2,x3,rfl⟩:=iq aP;have az:=hZ aP;have ae:=hZ ax;have bA:Hid(W.grownBy w3 none):=ic aW.out ax;have aU:=hZ(rl B w3 b aa n f2 K _ _ _(aj.out.grown ax)(by simp)(by rw [a1.out];omega)(by simp));clear aP ax;rw [av]at aU;generalize bc:xd p s fuel=cr at*;generalize a2:yd p s fuel=nm at*;have bz:=hZ bc;have bw:=hZ a2;clear bc a2;go_wp2_with fail
 refine aU.out.mono ?_;clear aU;rintro e w4⟨rfl,f4,bg,ar⟩;have aB:Hid(W.grownBy w4 none):=ar.base bA.out ah(fun g e=>(aj.out.hs.1.dom g e).1)(fun _ e=>e.elim);have bp:Hid(Fr w w4 who aa(fun g=>w.heap.size<=g)):=(a7.out.stepG ae.out).step0 ar;have aw:∀ q,(Value.slice x1 x2 x3).ownBlock=some q->w2.heap.size<=q/\q<w3.heap.size/\aa q= .other:=fun q e=>by
  have h1:=iw az.out q e;refine⟨h1,iW az.out q e, ?_⟩;by_cases ho:aa q= .other
  ·exact ho
  ·exact absurd(aj.out.hs.1.dom q ho).2(by omega)
 have aR:=hZ aw;have ba:Hid(w4.ownsRow w2.heap.size 3 1(.slice x1 x2 x3)(mB p s fuel).length(iI(mB p s fuel))):=iJ az.out(fun q e=>(ar.oth q(aw q e).2.1(aw q e).2.2(fun e=>e)).1);have c4:w4.cell?⟨w.heap.size,0,none⟩=some(.slice ao p.length ak):=by
  rw [World.cell?_of_block(ar.oth w.heap.size(by have:=ae.out.size;omega)aN.out(fun e=>e)).1];exact ie ae.out _ _ aI.out
 have aG:=hZ bg;have a6:=hZ(wy p s _ _ fuel w4(HP.out.pres(ie aB.out))((HI.out.pres(ie aB.out)).mono aB.out.size)bu.out a3 aX bB.out);have bl:Hid(B<=w2.heap.size):=by
  have:=aj.out.low;unfold Hid;omega
 clear bg ar aw az aj aI;go_wp2_with fail
 refine a6.out.mono ?_;clear a6;intro e w5 hF;obtain⟨aS,v',he,aK⟩:=hF.form;clear hF;subst he;rw [bz.out,bw.out];obtain⟨y1,y2,y3,rfl⟩:=iq aK;have aH:=hZ aS;have aD:Hid(w5.ownsRow w2.heap.size 3 1(.slice x1 x2 x3)(mB p s fuel).length(iI(mB p s fuel))):=iA ba.out aS(fun _ e=>by cases e);have aT:=hZ(tt(mB p s fuel)(mB p s fuel)_ _ w5(jw aD.out)(jw aK)(by have:=wH p s fuel;omega));rw [show(mB p s fuel==mB p s fuel)=true by simp]at aT;clear aS aK ba c4;go_wp2_with fail
 refine aT.out.mono ?_;clear aT;rintro e w6⟨rfl,bf⟩;have an:Hid(w5.grownBy w6 none):=iH bf;have ac:Hid(w4.grownBy w6 none):=ic aH.out an.out;have a8:Hid(w6.ownsRow B 3 1(.slice x1 x2 x3)(mB p s fuel).length(iI(mB p s fuel))):=iN(iA aD.out an.out(fun _ e=>by cases e))bl.out;have aE:=hZ(oB B w6 b aa n f4 K(.slice x1 x2 x3)(mB p s fuel).length _(aG.out.1.grown ac.out)a8.out(fun q e=>(aR.out q e).2.2)bo(by omega)(by have:=HK.out 0(by omega);omega)(by have:=wH p s fuel;omega));clear bf aD a8;rw [av]at aE;go_wp2_with fail
 refine aE.out.mono ?_;clear aE;rintro e w7⟨⟨rv,rfl⟩,ab,f7,K7,aJ,ag⟩;have br:Hid(W.grownBy w6 none):=ic aB.out ac.out;have bq:Hid(W.grownBy w7 none):=ag.fr.base br.out ah(fun g e=>(aG.out.1.1.dom g e).1)(fun q e=>by have:=(aR.out q e).1;have:=aW.out.size;omega);have bn:Hid(Fr w w7 who ab(fun g=>w.heap.size<=g)):=(bp.out.stepG ac.out).trans(ag.fr.mono fun q e=>by have:=(aR.out q e).1;have:=a7.out.size;omega);have aY:Hid(Hz B w7 b ab(n+1)f7 K7):=⟨aJ,fun k hk=>by rw [ag.lent k hk];exact aG.out.2 k hk⟩;have a0:Hid(∀ c,c<5->(K7 c).length<=(K c).length+4):=fun c hc=>by
  by_cases e:c=0
  ·subst e;have:=ag.len;omega
  ·rw [ag.oth c e];omega
 have aC:=hZ(qN B w7 b ab(n+1)f7 K7 aJ(fun c hc=>by have:=a0.out c hc;have:=HK.out c hc;omega));clear aJ ag;rw [av]at aC;go_wp2_with fail
 refine aC.out.mono ?_;clear aC;rintro e w8⟨rfl,a4⟩;have ad:Hid(w7.grownBy w8 none):=iH a4;clear a4;go_wp2_with(go_at_call 23;refine(rs _ _).mono ?_;rintro e w9⟨rfl,bv⟩;have aM:=bv.symm;subst aM)
 go_ret;exact⟨by simp,ab,f7,K7,⟨aY.out.1.grown ad.out,aY.out.2⟩,ic bq.out ad.out,a0.out,bn.out.stepG ad.out⟩
end
section
open Go.RowKit
attribute [local go_sem] Go.World.cell?_alloc_some
theorem Dk:((Tryz.prog.info? 65).map fun i=>(i.zero,i.size,i.bytes))=some(some(.agg #[.int .i64 0, .int .i64 0, .int .i64 0, .int .i64 0]),4,32):=by kernel_rfl
theorem Df:((Tryz.prog.info? 66).map fun i=>(i.zero,i.size,i.bytes))=some(some(.slice none 0 0),1,24):=by kernel_rfl
theorem DW(m:Int)(xs:List Value)(k len:Nat)(hx:xs.length=len*4)(hk:k<len):((((((List.replicate k(elC m 3)).flatten++xs.drop(k*4)).set(k*4)(.int .i64 m)).set(k*4+1)(.int .i64 0)).set(k*4+2)(.int .i64 0)).set(k*4+3)(.int .i64 0))=(List.replicate(k+1)(elC m 3)).flatten++xs.drop((k+1)*4):=by
 obtain⟨ys,hy⟩:∃ ys,ys=(List.replicate k(elC m 3)).flatten:=⟨_,rfl⟩;have ab:ys.length=k*4:=by rw [hy];exact mq _ _
 rw [<-lf,<-hy];have h1:4<=(xs.drop(k*4)).length:=by rw [List.length_drop];omega
 have h2:xs.drop((k+1)*4)=(xs.drop(k*4)).drop 4:=by rw [List.drop_drop];congr 1<;>omega
 rw [h2];generalize xs.drop(k*4)=zs at h1;obtain⟨z0,z1,z2,z3,aa,rfl⟩:∃ z0 z1 z2 z3 aa,zs=z0::z1::z2::z3::aa:=by
  match zs,h1 with
  | z0::z1::z2::z3::aa,_=>exact⟨z0,z1,z2,z3,aa,rfl⟩
 rw [<-ab];simp [elC]
theorem Ek {B:Nat} {w:World} {b n3 t tg tl tc:Nat}(h3:w.cell?⟨n3,0,none⟩=some(.slice(some⟨tg,0,none⟩)tl tc))(ht:t<tl)(htl:tl<=1000) {who:Nat->Role} {n:Int} {f:Nat->Value} {K:Nat->List(Value × Int)} {x1:Option Addr} {x3 len:Nat} {xs:List Value}(dH:w.cell?⟨tg,t,none⟩=some(.slice x1 len x3))(hH:HsK B w b who n f K)(hl:w.ownsRow B 65 4(.slice x1 len x3)len xs)(ho:∀ g,(Value.slice x1 len x3).ownBlock=some g->who g= .other)
  (ca:0<=n)(hn1:n<=10000000000000)(hK:(K 3).length<=5000000000000)(ha:len<=900)
  {Q':Exit->Act->World->Prop} {c1 c2 c5 c6 c7 c8 c9 bn bv aW bu aX bb bz bA cZ cA cD dQ ch b5 b3 dn cf dq ci dV db cR dB cb dE dD cB cr cL cH dt cy cg dR c3 cn du b1 c4 b2 cJ b8 bT cM dL cl ds bZ cK dM dK cP dU cF ct dc cQ a1 bx bC bd bF be bj bm a0 bg a8 aV bf bh aZ bH bk bi bG a9 a3 a5 bq bD a6 aY ba a7 bt bo bp a2 bc ao aA am ax aH ar aC aB aq aD aw ap au:Value}
  (bR:Hid(∀ {z5 z6 z7 z8 de b6 b4 da bJ dC bW ck dJ cY bU dj cj cw cz bK dp bL cd bO dd dh dg b7 dA cU co dz dv bN dW b9 bX cW dy cm dl cI cc cT cv bV cC cx cV cq bS dG dT:Value}(w':World),(∃ who' f' K',HsK B w' b who'(n+1)f' K'/\oK 3 w w' who who' f f' K K'(fun g=>(Value.slice x1 len x3).ownBlock=some g))->Q' .normal⟨#[.pointer(some⟨b,0,none⟩),c1,c2, .pointer(some⟨n3,0,none⟩), .int .i64((t:Int)+1),z5,z6,z7,z8,c9,bn,bv,aW,bu,aX,bb,bz,bA,de,b6,b4,da,bJ,dC,bW,ck,dJ,cY,bU,dj,cj,cw,cz,bK,dp,bL,cd,bO,dd,dh,dg,b7,dA,cU,co,dz,dv,bN,dW,b9,bX,cW,dy,cm,dl,cI,cc,cT,cv,bV,cC,cx,cV,cq,bS,dG,dT,a1,bx,bC,bd,bF,be,bj,bm,a0,bg,a8,aV,bf,bh,aZ,bH,bk,bi,bG,a9,a3,a5,bq,bD,a6,aY,ba,a7,bt,bo,bp,a2,bc,ao,aA,am,ax,aH,ar,aC,aB,aq,aD,aw,ap,au], []⟩w')):
  Code.wp Tryz.prog(oU Tryz.f44 4)Q'⟨#[.pointer(some⟨b,0,none⟩),c1,c2, .pointer(some⟨n3,0,none⟩), .int .i64(t:Int),c5,c6,c7,c8,c9,bn,bv,aW,bu,aX,bb,bz,bA,cZ,cA,cD,dQ,ch,b5,b3,dn,cf,dq,ci,dV,db,cR,dB,cb,dE,dD,cB,cr,cL,cH,dt,cy,cg,dR,c3,cn,du,b1,c4,b2,cJ,b8,bT,cM,dL,cl,ds,bZ,cK,dM,dK,cP,dU,cF,ct,dc,cQ,a1,bx,bC,bd,bF,be,bj,bm,a0,bg,a8,aV,bf,bh,aZ,bH,bk,bi,bG,a9,a3,a5,bq,bD,a6,aY,ba,a7,bt,bo,bp,a2,bc,ao,aA,am,ax,aH,ar,aC,aB,aq,aD,aw,ap,au], []⟩w:=by
 conv=>arg 2;whnf
 obtain⟨i0,dO,df,di,cS⟩:=info_parts Dk;obtain⟨i1,cN,dr,dI,dS⟩:=info_parts Df;obtain⟨i2,cG,dP,dk,bP⟩:=info_parts kt;have bI:=hl.1;have q3:(t:Int)<tl:=by omega
 have q4:(0:Int)<=(t:Int):=by omega
 have q5:(tl:Int)<=1000:=by omega
 go_upto_region 5 with fail
 clear h3 dH q3 q4 q5;have HM:=hZ(tk hH.1 ca(by omega));have HO:=hZ ho;have H0:Hid(WrG B 3 w(w.setCell⟨b,5,none⟩(.int .i64(n+1)))b who(n+1)f(lC f 5(.int .i64(n+1)))K(.slice x1 len x3)len xs(-77000000 - (n+1))0):=by
  refine⟨⟨hH.1.setCnt _,hH.2⟩, ?_, ?_,fun o ho=>iT _ _(by omega)⟩
  ·have dm:(Value.slice x1 len x3).ownBlock≠some b:=fun e=>by have:=ho b e;rw [hH.1.wb]at this;cases this
   have h5:=ownsRow_setCell_other(a:=⟨b,5,none⟩)hl dm(.int .i64(n+1));have e5:(List.replicate 0(elC(-77000000 - (n+1))3)).flatten++xs.drop(0*(elC(-77000000 - (n+1))3).length)=xs:=by simp
   rw [e5];exact h5
  ·exact Fr.set(Or.inl(by rw [hH.1.wb];simp))
 have bE:pt b= .pointer(some⟨b,0,none⟩):=rfl;rw [bE]at*;clear hH hl ho bE;generalize hm: -77000000 - (n+1)=m at*;have HMM:=hZ hm;clear hm;go_wp2_with(go_at_call 55;refine HM.out.mono ?_;rintro e w1⟨rfl,rfl⟩)
 go_loopw [7](fun i w'=>∃ k:Nat,k<=len/\i= .int .i64 k/\Hid(WrG B 3 w w' b who(n+1)f(lC f 5(.int .i64(n+1)))K(.slice x1 len x3)len xs m k))(fun i _=>len - (intOf i).toNat)
 case atStart=>exact⟨0,Nat.zero_le _,rfl,H0⟩
 case round=>
  clear H0 HM;obtain⟨k,hk,rfl,HI⟩:=hrel;obtain⟨w5,br⟩:∃ w5,w5=wr:=⟨_,rfl⟩;rw [<-br]at HI ⊢;clear br;by_cases cO:k<len
  ·obtain⟨g,cp,e0,_,_⟩:=HI.out.row.form(by omega);have aa:w5.ownsRow B 65 4(.slice x1 len x3)len((List.replicate k(elC m 3)).flatten++xs.drop(k*4)):=HI.out.row;rw [e0]at aa;simp only [Value.slice.injEq,true_and]at e0;obtain⟨rfl,rfl⟩:=e0;have al:=HO.out g rfl;obtain⟨u0,y0⟩:∃ u,w5.cell?⟨g,k*4,none⟩=some u:=lS aa(by omega);have z0:w5.frozen?⟨g,k*4,none⟩=false:=lO aa;obtain⟨u1,y1⟩:∃ u,w5.cell?⟨g,k*4+1,none⟩=some u:=lS aa(by omega);have z1:w5.frozen?⟨g,k*4+1,none⟩=false:=lO aa;obtain⟨u2,y2⟩:∃ u,w5.cell?⟨g,k*4+2,none⟩=some u:=lS aa(by omega);have z2:w5.frozen?⟨g,k*4+2,none⟩=false:=lO aa;obtain⟨u3,y3⟩:∃ u,w5.cell?⟨g,k*4+3,none⟩=some u:=lS aa(by omega);have z3:w5.frozen?⟨g,k*4+3,none⟩=false:=lO aa;have bQ:Hid(WrG B 3 w((((w5.setCell⟨g,k*4,none⟩(.int .i64 m)).setCell⟨g,k*4+1,none⟩(.int .i64 0)).setCell⟨g,k*4+2,none⟩(.int .i64 0)).setCell⟨g,k*4+3,none⟩(.int .i64 0))b who(n+1)f(lC f 5(.int .i64(n+1)))K(.slice(some⟨g,0,none⟩)len x3)len xs m(k+1)):=by
    have hs:=HI.out;refine⟨((((hs.hs.setOther al).setOther al).setOther al).setOther al), ?_, ?_,hs.lent⟩
    ·have h9:=(jo(jo(jo(jo aa(k*4)(.int .i64 m))(k*4+1)(.int .i64 0))(k*4+2)(.int .i64 0))(k*4+3)(.int .i64 0));have e9:=DW m xs k len bI cO;rw [e9]at h9;exact h9
    ·exact((((hs.fr).trans(Fr.set(Or.inr rfl))).trans(Fr.set(Or.inr rfl))).trans(Fr.set(Or.inr rfl))).trans(Fr.set(Or.inr rfl))
   have q0:(0:Int)<=(k:Int):=by omega
   have q1:(k:Int)<len:=by omega
   clear aa al;go_wp2_with fail
   go_roundw
   case rel=>exact⟨k+1,by omega,by go_num,bQ⟩
   case measure=>simp [intOf];omega
  ·have ek:k=len:=by omega
   have q1:(len:Int)<=(k:Int):=by omega
   have HS:Hid(∃ ai,KpG B 3 w w5 b who ai(n+1)m f(lC f 5(.int .i64(n+1)))K K(.slice x1 len x3)len 0(fun g=>(Value.slice x1 len x3).ownBlock=some g)):=by
    have hi:=HI.out;rw [ek]at hi;exact hi.kp(by omega)bI(by omega)HO.out
   clear HI ek;go_wp2_with fail
   go_loopw [5,8](fun lv' i w'=>∃ (k:Nat)(who':Nat->Role)(f':Nat->Value)(K':Nat->List(Value × Int)),k<=4/\i= .int .i64 k/\Hid(KpG B 3 w w' b who who'(n+1)m f f' K K' lv'(len+k)k(fun g=>(Value.slice x1 len x3).ownBlock=some g)))(fun _ i _=>4 - (intOf i).toNat)
   case atStart=>
    obtain⟨ai,h1⟩:=HS.out;exact⟨0,ai,_,K,by omega,rfl,hZ h1⟩
   case round=>
    clear HS;obtain⟨j,who',f',K',hj,rfl,HK⟩:=hrel;obtain⟨w7,bB⟩:∃ w7,w7=wr:=⟨_,rfl⟩;rw [<-bB]at HK ⊢;clear bB;have rO:w7.ownsRow B 66 1(f' 12)(K' 3).length((K' 3).map(·.1)):=HK.out.hs.lst 3(by omega);have rM:w7.ownsRow B 3 1(f' 13)(K' 3).length(iI((K' 3).map(·.2))):=by have:=HK.out.hs.mrk 3(by omega);simpa [jk]using this
    have rL:w7.ownsRow B 65 4 u5(len+j)(List.replicate(len+j)(elC m 3)).flatten:=HK.out.cu.row;have dw:Hid((K' 3).length=(K 3).length+j):=HK.out.len;have c6:w7.cell?⟨b,12,none⟩=some(f' 12):=HK.out.hs.blk.cell(by omega);have hbase:B<=w7.heap.size:=by have:=HK.out.hs.blk.lt;have:=(HK.out.hs.dom b(by rw [HK.out.hs.wb];simp)).1;omega
    obtain⟨l1,l2,l3,rfl⟩:=iq rL;have dx:=iy rL;subst dx;obtain⟨o1,o2,o3,eO⟩:=iq rO;rw [eO]at rO c6;have bY:=iy rO;subst bY;have cE:(K' 3).length<=5000000000003\/¬j<4:=by have:=dw.out;omega
    have ce:=hZ rL;have a4:=hZ rO;have aL:=hZ eO;have b0:=hZ rM;clear rL rO rM eO;by_cases hj4:j<4
    ·have cE:(K' 3).length<=5000000000003:=by omega
     have z2:(j:Int)<4:=by omega
     have az:(K' 3).length+1<=maxLen:=by unfold maxLen;omega
     have aS:len+j+1<=maxLen:=by unfold maxLen;omega
     have aK:Hid(∀ {o:Obj} {g6 c6:Nat} {w6:World},w6.ownsRow B 66 1(.slice(some⟨g6,0,none⟩)((K' 3).length+1)c6)((K' 3).length+1)((K' 3).map(·.1)++ [.slice l1(len+j)l3])->
       (((Value.slice o1(K' 3).length o3).ownBlock=some g6/\(w7.alloc o).grownBy w6(some g6))\/(g6=w7.heap.size+1/\(w7.alloc o).grownBy w6 none))->
       HB w6 b f'/\∃ who'' f'',KpA B 3 w(w6.setCell⟨b,12,none⟩(.slice(some⟨g6,0,none⟩)((K' 3).length+1)c6))b who who''(n+1)m f f'' K K'(.slice l1(len+j)l3)(len+j)j(fun g=>(Value.slice x1 len x3).ownBlock=some g)/\f'' 13=f' 13):=by
      intro o g6 c6 w6 aQ key;rw [<-aL.out]at key;exact HK.out.push(by omega)aQ key
     generalize bl:(K' 3).length=N at*;generalize dF:(K' 3).map(·.1)=L1 at*;have aR:=hZ bl;clear bl dF;go_upto_region 14 with(at_builtin;go_must(refine iD rfl _ _ _ rfl B 66 i1 _ 1 24 Tryz.underlying35 cN dr dI dS rfl(by omega)(.slice o1 N o3)N L1 rfl(iG a4.out)⟨w7.heap.size,0,none⟩1 1 [.slice l1(len+j)l3]rfl rfl(World.news_of_block(cs:= #[.slice l1(len+j)l3])(t:=66)(fr:=(0,0))(heap_alloc_new w7 _))(by simp [Value.oneCell'])(by omega)az(by omega)(by simp;omega)(w7.heap.size+1)(by simp) ?_);intro g8 aO w8 ae aj aU;have aN:=(aK.out ae aj).1;have p6:w8.cell?⟨b,12,none⟩=some(.slice o1 N o3):=(by rw [aN.cell(by omega),aL.out]);have p7:=aN.frozen 12)
     obtain⟨_,who9,f9,ak,e9⟩:=aK.out ae aj;generalize w8.setCell⟨b,12,none⟩(.slice(some⟨g8,0,none⟩)(N+1)aO)=w9 at*;have aT:=hZ ak;have aE:w9.ownsRow B 3 1(f9 13)N(iI((K' 3).map(·.2))):=by
      have:=ak.hs.mrk 3(by omega);rw [<-aR.out];simpa [jk]using this
     have c7:w9.cell?⟨b,13,none⟩=some(f9 13):=ak.hs.blk.cell(by omega);obtain⟨m1,m2,m3,eM⟩:=iq aE;rw [eM]at aE c7;have bM:=(iy aE).symm;subst bM;have hbase9:B<=w9.heap.size:=by have:=ak.hs.blk.lt;have:=(ak.hs.dom b(by rw [ak.hs.wb];simp)).1;omega
     have aG:=hZ aE;have aJ:=hZ eM;clear ae aj aN p6 p7 aU c6 ak e9 aK aE eM aL a4 b0;go_upto_region 15 with(at_builtin;go_must(refine iD rfl _ _ _ rfl B 3 i2 _ 1 8 Tryz.underlying39 cG dP dk bP rfl(by omega)(.slice m1 N m3)N(iI((K' 3).map(·.2)))rfl(iG aG.out)⟨w9.heap.size,0,none⟩1 1 [.int .i64 m]rfl rfl(World.news_of_block(cs:= #[.int .i64 m])(t:=3)(fr:=(0,0))(heap_alloc_new w9 _))(by simp [Value.oneCell'])(by omega)az(by omega)(by simp;omega)(w9.heap.size+1)(by simp) ?_);intro dN av bw ab af aI;have ah:=(aT.out.tell(by omega)(M1:=m1)(M3:=m3)aJ.out aR.out ab af).1;have p6:bw.cell?⟨b,13,none⟩=some(.slice m1 N m3):=(by rw [ah.cell(by omega),aJ.out]);have p7:=ah.frozen 13)
     obtain⟨_,who11,f11,ac⟩:=aT.out.tell(by omega)(M1:=m1)(M3:=m3)aJ.out aR.out ab af;generalize bw.setCell⟨b,13,none⟩(.slice(some⟨dN,0,none⟩)(N+1)av)=w11 at*;have aP:=hZ ac;have an:Hid(w11.ownsRow B 65 4(.slice l1(len+j)l3)(len+j)(List.replicate(len+j)(elC m 3)).flatten):=ac.cu.row;have hbase11:B<=w11.heap.size:=by have:=ac.hs.blk.lt;have:=(ac.hs.dom b(by rw [ac.hs.wb];simp)).1;omega
     clear ab af ah p6 p7 aI c7 ac aT aG aJ ce;go_wp2_with(at_builtin;go_must(refine iD rfl _ _ _ rfl B 65 i0 _ 4 32 Tryz.underlying66 dO df di cS rfl(by omega)(.slice l1(len+j)l3)(len+j)(List.replicate(len+j)(elC m 3)).flatten rfl(iG an.out)⟨w11.heap.size,0,none⟩1 1 [.int .i64 m, .int .i64 0, .int .i64 0, .int .i64 0]rfl rfl(World.news_of_block(cs:= #[.int .i64 m, .int .i64 0, .int .i64 0, .int .i64 0])(t:=65)(fr:=(0,0))(heap_alloc_new w11 _))(by simp [Value.oneCell'])(by omega)aS(by omega)(by simp;omega)(w11.heap.size+1)(by simp) ?_);intro g12 cap12 w12 ad ag ay;have aM:=hZ(aP.out.grow(by omega)(by omega)ad ag);clear ad ag ay)
     go_roundw
     case rel=>
      obtain⟨aF,cX⟩:=aM.out;exact⟨j+1,aF,_,_,by omega,by go_num,hZ cX⟩
     case measure=>simp [intOf];omega
    ·have z2:(4:Int)<=(j:Int):=by omega
     have HE:Hid(∃ who' f' K',HsK B w7 b who'(n+1)f' K'/\oK 3 w w7 who who' f f' K K'(fun g=>(Value.slice x1 len x3).ownBlock=some g)):=by
      have ej:j=4:=by omega
      have hk:=HK.out;rw [ej]at hk;exact hk.done
     go_wp2_with fail
     exact bR.out w7 HE.out
end
section
open Go.RowKit
structure Cu4(B:Nat)(w:World)(who:Nat->Role)(m:Int)(c:Nat)(lv:Value)(len:Nat)(R:List Value)(K:Nat->List(Value × Int)):Prop where
 row:w.ownsRow B 66 1 lv len R
 el:∀ k,k<len->∃ g' cap',R[k]?=some(.slice(some⟨g',0,none⟩)1 cap')/\w.heap[g']?=some(.cells(elC m 3).toArray 65(0,0))/\who g'= .kept
 wc:∀ g,lv.ownBlock=some g->who g= .cur
 ent:∀ x∈K c,∀ g,x.1.ownBlock=some g->who g= .cur->x.2=m/\∃ l c',x.1= .slice(some⟨g,0,none⟩)l c'/\(lv.ownBlock=some g->l<=len)
 oth:∀ c',c'<5->c'≠c->∀ x∈K c',∀ g,x.1.ownBlock=some g->who g= .kept
 ln:len<=1000
section
variable {B : Nat} {w w6 : World} {b : Nat} {who : Nat -> Role} {n m : Int} {f : Nat -> Value} {K : Nat -> List (Value × Int)} {M : Nat -> List Int} {c : Nat} {lv : Value} {len : Nat} {R : List Value}
theorem Cu4.keptNow4(cu:Cu4 B w who m c lv len R K)(hc:c=4):KeptC c w who(lv,m):=by
 subst hc;rcases cu.row.2 with⟨e,_⟩ | ⟨g,cap,cur,hv,hbb,hh,hrest⟩
 ·exact Or.inl e
 ·refine Or.inr⟨g,len,cap,hv,cu.ln, ?_⟩;have hr:=cu.row;rw [hv]at hr;refine mS.2 fun k hk=> ?_
  obtain⟨g',aa,q1,q2,q3⟩:=cu.el k hk;exact⟨g',aa,by rw [hr.cellAt k(by omega)];exact q1,q2,q3⟩
theorem Hs.push4(h:Hs B w b who n f K M)(cu:Cu4 B w who m c lv len R K)(hc:c=4) {o:Obj} {g6 c6:Nat}
  (ad:w6.ownsRow B(tlC c)1(.slice(some⟨g6,0,none⟩)((K c).length+1)c6)((K c).length+1)((K c).map(·.1)++ [lv]))
  (key:((f(6+2*c)).ownBlock=some g6/\(w.alloc o).grownBy w6(some g6))\/(g6=w.heap.size+1/\(w.alloc o).grownBy w6 none)):
  Hs B(w6.setCell⟨b,6+2*c,none⟩(.slice(some⟨g6,0,none⟩)((K c).length+1)c6))b(setW who g6(.lst c))n(lC f(6+2*c)(.slice(some⟨g6,0,none⟩)((K c).length+1)c6))(oL K c(K c++ [(lv,m)]))M/\
  Cu4 B(w6.setCell⟨b,6+2*c,none⟩(.slice(some⟨g6,0,none⟩)((K c).length+1)c6))(setW who g6(.lst c))m c lv len R(oL K c(K c++ [(lv,m)])):=by
 have aq:c<5:=by omega
 obtain⟨hsz,ag,hsr,h6r⟩:=kH key(fun g e=>(h.dom g e).2)(r:= .lst c)(by simp)(h.wl c aq);have ap:g6≠b:=(ag b(by rw [h.wb];simp)(by rw [h.wb];simp)).2;have ai:HB w6 b f:=h.blk.same(ag b(by rw [h.wb];simp)(by rw [h.wb];simp)).1;generalize hV:Value.slice(some⟨g6,0,none⟩)((K c).length+1)c6=V at*;have af:V.ownBlock=some g6:=by rw [<-hV];rfl
 have ac:∀ g,who g≠ .other->who g≠ .lst c->g≠b->(w6.setCell⟨b,6+2*c,none⟩V).heap[g]?=w.heap[g]?:=fun g h1 h2 h3=>by
  rw [Below.heap_setCell _ _ _ _(by simpa using h3)];exact(ag g h1 h2).1
 have hW:∀ g,who g≠ .other->who g≠ .lst c->setW who g6(.lst c)g=who g:=fun g h1 h2=>iK _ _(fun e=>(ag g h1 h2).2 e.symm)
 have aj:∀ g,who g= .kept\/who g= .cur->(w6.setCell⟨b,6+2*c,none⟩V).heap[g]?=w.heap[g]?:=fun g e=>ac g(by rcases e with e | e<;>rw [e]<;>simp)(by rcases e with e | e<;>rw [e]<;>simp)(fun e2=>by subst e2;rw [h.wb]at e;rcases e with e | e<;>cases e)
 have ah:∀ g,who g= .kept->setW who g6(.lst c)g= .kept:=fun g e=>by rw [hW g(by rw [e];simp)(by rw [e];simp)];exact e
 have am:∀ g,who g= .cur->setW who g6(.lst c)g= .cur:=fun g e=>by rw [hW g(by rw [e];simp)(by rw [e];simp)];exact e
 have ak:∀ g,who g= .kept\/who g= .cur->setW who g6(.lst c)g= .kept\/setW who g6(.lst c)g= .cur:=fun g e=>e.imp(ah g)(am g)
 have aa:∀ g,setW who g6(.lst c)g= .cur->who g= .cur:=fun g e=>by
  by_cases e2:g=g6
  ·subst e2;rw [jz]at e;cases e
  ·rwa [iK _ _ e2]at e
 have ae:∀ c' x,c'<5->x∈K c'->KeptC c'(w6.setCell⟨b,6+2*c,none⟩V)(setW who g6(.lst c))x/\∀ g,x.1.ownBlock=some g->setW who g6(.lst c)g= .kept\/setW who g6(.lst c)g= .cur:=fun c' x hc' hx=>by
  obtain⟨k1,k2⟩:=h.kept c' hc' x hx;exact⟨(k1.same k2 aj).who ah,fun g e=>ak g(k2 g e)⟩
 have al:(w6.setCell⟨b,6+2*c,none⟩V).ownsRow B 66 1 lv len R:=iJ cu.row(fun g e=>aj g(Or.inr(cu.wc g e)));have ao:∀ k,k<len->∃ g' ab,R[k]?=some(.slice(some⟨g',0,none⟩)1 ab)/\(w6.setCell⟨b,6+2*c,none⟩V).heap[g']?=some(.cells(elC m 3).toArray 65(0,0))/\setW who g6(.lst c)g'= .kept:=fun k hk=>by
  obtain⟨g',ab,q1,q2,q3⟩:=cu.el k hk;exact⟨g',ab,q1,by rw [aj g'(Or.inl q3)];exact q2,ah g' q3⟩
 have an:Cu4 B(w6.setCell⟨b,6+2*c,none⟩V)(setW who g6(.lst c))m c lv len R(oL K c(K c++ [(lv,m)])):=by
  refine⟨al,ao,fun g e=>am g(cu.wc g e),fun x hx g e e2=> ?_,fun c' hc' hne x hx g e=> ?_,cu.ln⟩
  ·rw [nI]at hx;rcases List.mem_append.1 hx with hx | hx
   ·exact cu.ent x hx g e(aa g e2)
   ·simp at hx;subst hx;refine⟨rfl, ?_⟩;rcases cu.row.2 with⟨e3,_⟩ | ⟨g',cap,cur,hv,_⟩
    ·simp only at e;rw [e3]at e;cases e
    ·simp only at e;rw [hv]at e;simp only [Value.ownBlock,Option.some.injEq]at e;exact⟨len,cap,by rw [hv,e],fun _=>Nat.le_refl _⟩
  ·rw [nL _ _ hne]at hx;exact ah g(cu.oth c' hc' hne x hx g e)
 refine⟨⟨ai.set(by omega)V,by rw [iT _ _(by omega)];exact h.cnt,fun c' hc'=> ?_,fun c' hc'=> ?_,fun c' hc' g e=> ?_,fun c' hc' g e=> ?_, ?_,fun c' hc' x hx=> ?_,fun g e=> ?_⟩,an⟩
 ·by_cases e:c'=c
  ·subst e;rw [lQ,nI];have:=ownsRow_setCell_other(a:=⟨b,6+2*c',none⟩)ad(show V.ownBlock≠some b by rw [af];simpa using ap)V;simpa using this
  ·rw [iT _ _(by omega),nL _ _ e];exact iJ(h.lst c' hc')(fun g e2=>ac g(by rw [h.wl c' hc' g e2];simp)(by rw [h.wl c' hc' g e2];simpa using e)(fun e3=>by subst e3;have:=h.wl c' hc' g e2;rw [h.wb]at this;cases this))
 ·rw [iT _ _(by omega)];exact iJ(h.mrk c' hc')(fun g e2=>ac g(by rw [h.wm c' hc' g e2];simp)(by rw [h.wm c' hc' g e2];simp)(fun e3=>by subst e3;have:=h.wm c' hc' g e2;rw [h.wb]at this;cases this))
 ·by_cases e2:c'=c
  ·subst e2;rw [lQ,af]at e;simp only [Option.some.injEq]at e;subst e;exact jz _ _ _
  ·rw [iT _ _(by omega)]at e;have:=h.wl c' hc' g e;rw [hW g(by rw [this];simp)(by rw [this];simpa using e2),this]
 ·rw [iT _ _(by omega)]at e;have:=h.wm c' hc' g e;rw [hW g(by rw [this];simp)(by rw [this];simp),this]
 ·rw [hW b(by rw [h.wb];simp)(by rw [h.wb];simp),h.wb]
 ·by_cases e2:c'=c
  ·subst e2;rw [nI]at hx;rcases List.mem_append.1 hx with hx | hx
   ·exact ae c' x hc' hx
   ·simp at hx;subst hx;exact⟨an.keptNow4 hc,fun g e=>Or.inr(am g(cu.wc g e))⟩
  ·rw [nL _ _ e2]at hx;exact ae c' x hc' hx
 ·by_cases e2:g=g6
  ·subst e2;have h1:=iw ad g af;have h2:=iW ad g af;exact⟨h1,by simpa using h2⟩
  ·rw [iK _ _ e2]at e;have:=h.dom g e;exact⟨this.1,by simp;omega⟩
theorem Hs.tell4(h:Hs B w b who n f K M)(cu:Cu4 B w who m c lv len R K)(hc:c=4) {o:Obj} {g6 c6:Nat}
  (ab:w6.ownsRow B 3 1(.slice(some⟨g6,0,none⟩)((M c).length+1)c6)((M c).length+1)(iI(M c)++ [.int .i64 m]))
  (key:((f(7+2*c)).ownBlock=some g6/\(w.alloc o).grownBy w6(some g6))\/(g6=w.heap.size+1/\(w.alloc o).grownBy w6 none)):
  Hs B(w6.setCell⟨b,7+2*c,none⟩(.slice(some⟨g6,0,none⟩)((M c).length+1)c6))b(setW who g6(.mrk c))n(lC f(7+2*c)(.slice(some⟨g6,0,none⟩)((M c).length+1)c6))K(wM M c(M c++ [m]))/\
  Cu4 B(w6.setCell⟨b,7+2*c,none⟩(.slice(some⟨g6,0,none⟩)((M c).length+1)c6))(setW who g6(.mrk c))m c lv len R K:=by
 have al:c<5:=by omega
 obtain⟨hsz,af,hsr,h6r⟩:=kH key(fun g e=>(h.dom g e).2)(r:= .mrk c)(by simp)(h.wm c al);have ak:g6≠b:=(af b(by rw [h.wb];simp)(by rw [h.wb];simp)).2;have ah:HB w6 b f:=h.blk.same(af b(by rw [h.wb];simp)(by rw [h.wb];simp)).1;generalize hV:Value.slice(some⟨g6,0,none⟩)((M c).length+1)c6=V at*;have ae:V.ownBlock=some g6:=by rw [<-hV];rfl
 have ac:∀ g,who g≠ .other->who g≠ .mrk c->g≠b->(w6.setCell⟨b,7+2*c,none⟩V).heap[g]?=w.heap[g]?:=fun g h1 h2 h3=>by
  rw [Below.heap_setCell _ _ _ _(by simpa using h3)];exact(af g h1 h2).1
 have hW:∀ g,who g≠ .other->who g≠ .mrk c->setW who g6(.mrk c)g=who g:=fun g h1 h2=>iK _ _(fun e=>(af g h1 h2).2 e.symm)
 have ai:∀ g,who g= .kept\/who g= .cur->(w6.setCell⟨b,7+2*c,none⟩V).heap[g]?=w.heap[g]?:=fun g e=>ac g(by rcases e with e | e<;>rw [e]<;>simp)(by rcases e with e | e<;>rw [e]<;>simp)(fun e2=>by subst e2;rw [h.wb]at e;rcases e with e | e<;>cases e)
 have ad:∀ g,who g= .kept->setW who g6(.mrk c)g= .kept:=fun g e=>by rw [hW g(by rw [e];simp)(by rw [e];simp)];exact e
 have aj:∀ g,who g= .cur->setW who g6(.mrk c)g= .cur:=fun g e=>by rw [hW g(by rw [e];simp)(by rw [e];simp)];exact e
 have aa:∀ g,setW who g6(.mrk c)g= .cur->who g= .cur:=fun g e=>by
  by_cases e2:g=g6
  ·subst e2;rw [jz]at e;cases e
  ·rwa [iK _ _ e2]at e
 refine⟨⟨ah.set(by omega)V,by rw [iT _ _(by omega)];exact h.cnt,fun c' hc'=> ?_,fun c' hc'=> ?_,fun c' hc' g e=> ?_,fun c' hc' g e=> ?_, ?_,fun c' hc' x hx=> ?_,fun g e=> ?_⟩,
  ⟨iJ cu.row(fun g e=>ai g(Or.inr(cu.wc g e))),fun k hk=>(by obtain⟨g',ag,q1,q2,q3⟩:=cu.el k hk;exact⟨g',ag,q1,by rw [ai g'(Or.inl q3)];exact q2,ad g' q3⟩),fun g e=>aj g(cu.wc g e),fun x hx g e e2=>cu.ent x hx g e(aa g e2),fun c' hc' hne x hx g e=>ad g(cu.oth c' hc' hne x hx g e),cu.ln⟩⟩
 ·rw [iT _ _(by omega)];exact iJ(h.lst c' hc')(fun g e2=>ac g(by rw [h.wl c' hc' g e2];simp)(by rw [h.wl c' hc' g e2];simp)(fun e3=>by subst e3;have:=h.wl c' hc' g e2;rw [h.wb]at this;cases this))
 ·by_cases e:c'=c
  ·subst e;rw [lQ,Af];have:=ownsRow_setCell_other(a:=⟨b,7+2*c',none⟩)ab(show V.ownBlock≠some b by rw [ae];simpa using ak)V;simpa [iI]using this
  ·rw [iT _ _(by omega),zO _ _ e];exact iJ(h.mrk c' hc')(fun g e2=>ac g(by rw [h.wm c' hc' g e2];simp)(by rw [h.wm c' hc' g e2];simpa using e)(fun e3=>by subst e3;have:=h.wm c' hc' g e2;rw [h.wb]at this;cases this))
 ·rw [iT _ _(by omega)]at e;have:=h.wl c' hc' g e;rw [hW g(by rw [this];simp)(by rw [this];simp),this]
 ·by_cases e2:c'=c
  ·subst e2;rw [lQ,ae]at e;simp only [Option.some.injEq]at e;subst e;exact jz _ _ _
  ·rw [iT _ _(by omega)]at e;have:=h.wm c' hc' g e;rw [hW g(by rw [this];simp)(by rw [this];simpa using e2),this]
 ·rw [hW b(by rw [h.wb];simp)(by rw [h.wb];simp),h.wb]
 ·obtain⟨k1,k2⟩:=h.kept c' hc' x hx;exact⟨(k1.same k2 ai).who ad,fun g e=>(k2 g e).imp(ad g)(aj g)⟩
 ·by_cases e2:g=g6
  ·subst e2;have h1:=iw ab g ae;have h2:=iW ab g ae;exact⟨h1,by simpa using h2⟩
  ·rw [iK _ _ e2]at e;have:=h.dom g e;exact⟨this.1,by simp;omega⟩
theorem Hs.grow4(h:Hs B w b who n f K M)(cu:Cu4 B w who m c lv len R K)(hc:c=4)(ak:len+1<=1000) {o:Obj} {g6 c6:Nat} {v:Value}(au:∃ g' cap',v= .slice(some⟨g',0,none⟩)1 cap'/\w.heap[g']?=some(.cells(elC m 3).toArray 65(0,0))/\who g'= .kept)
  (ac:w6.ownsRow B 66 1(.slice(some⟨g6,0,none⟩)(len+1)c6)(len+1)(R++ [v]))
  (key:(lv.ownBlock=some g6/\(w.alloc o).grownBy w6(some g6))\/(g6=w.heap.size+1/\(w.alloc o).grownBy w6 none)):
  Hs B w6 b(setW who g6 .cur)n f K M/\Cu4 B w6(setW who g6 .cur)m c(.slice(some⟨g6,0,none⟩)(len+1)c6)(len+1)(R++ [v])K:=by
 obtain⟨hsz,ar,ap,aq⟩:=kH key(fun g e=>(h.dom g e).2)(r:= .cur)(by simp)cu.wc;have hW:∀ g,who g≠ .other->setW who g6 .cur g=who g:=fun g h1=>by
  by_cases e:g=g6
  ·subst e;rw [jz];exact(aq(h.dom g h1).2).symm
  ·exact iK _ _ e
 have ae:∀ g,setW who g6 .cur g= .cur->g=g6\/who g= .cur:=fun g e=>by
  by_cases e2:g=g6
  ·exact Or.inl e2
  ·rw [iK _ _ e2]at e;exact Or.inr e
 have aa:∀ g,who g≠ .other->who g≠ .cur->w6.heap[g]?=w.heap[g]?:=fun g h1 h2=>(ar g h1 h2).1
 have hRl:R.length=len:=by have:=cu.row.1;omega
 have ad:∀ g,lv.ownBlock=some g->∀ k,k<len->w6.cell?⟨g,k,none⟩=w.cell?⟨g,k,none⟩:=fun g e k hk=>by
  by_cases e2:g6=g
  ·subst e2;rcases cu.row.2 with⟨e3,_⟩ | ⟨g',cap,cur,hv,_⟩
   ·rw [e3]at e;cases e
   ·have hr:=cu.row;rw [hv]at e;simp only [Value.ownBlock,Option.some.injEq]at e;subst e;rw [hv]at hr;rw [ac.cellAt k(by omega),hr.cellAt k(by omega),List.getElem?_append_left(by omega)]
  ·exact World.cell?_of_block(ap g(cu.wc g e)e2)
 have af:∀ g,who g= .cur->lv.ownBlock≠some g->w6.heap[g]?=w.heap[g]?:=fun g e e2=>by
  by_cases e3:g6=g
  ·subst e3;rcases key with⟨k1,_⟩ | ⟨k1,_⟩
   ·exact absurd k1 e2
   ·have:=(h.dom g6(by rw [e];simp)).2;omega
  ·exact ap g e e3
 have ai:∀ c' x,c'<5->x∈K c'->KeptC c' w6(setW who g6 .cur)x/\∀ g,x.1.ownBlock=some g->setW who g6 .cur g= .kept\/setW who g6 .cur g= .cur:=fun c' x hc' hx=>by
  obtain⟨k1,k2⟩:=h.kept c' hc' x hx;refine⟨?_,fun g e=> ?_⟩
  ·refine KeptC.who(who:=who) ?_(fun g e=>by rw [hW g(by rw [e];simp)];exact e);rcases k1 with k1 | ⟨g,l,cap,e,hl,hin⟩
   ·exact Or.inl k1
   ·refine Or.inr⟨g,l,cap,e,hl, ?_⟩;have ab:x.1.ownBlock=some g:=by rw [e];rfl
    have ag:∀ g,who g= .kept->w6.heap[g]?=w.heap[g]?:=fun g e=>aa g(by rw [e];simp)(by rw [e];simp)
    rcases k2 g ab with hkp | hcr
    ·exact mY hin(ag g hkp)ag
    ·by_cases an:c'=c
     ·subst an;by_cases aj:lv.ownBlock=some g
      ·obtain⟨ao,l',al,e5,ah⟩:=cu.ent x hx g ab hcr;rw [e5]at e;simp only [Value.slice.injEq,true_and]at e;have hl4:l<=len:=by have:=ah aj;omega
       subst hc;rw [mS]at hin ⊢;intro k hk;obtain⟨g',cap',q1,q2,q3⟩:=hin k hk;exact⟨g',cap',by rw [ad g aj k(by omega)];exact q1,by rw [ag g' q3];exact q2,q3⟩
      ·exact mY hin(af g hcr aj)ag
     ·have:=cu.oth c' hc' an x hx g ab;rw [hcr]at this;cases this
  ·have:=k2 g e;rw [hW g(by rcases this with e | e<;>rw [e]<;>simp)];exact this
 refine⟨⟨h.blk.same(aa b(by rw [h.wb];simp)(by rw [h.wb];simp)),h.cnt,fun c' hc'=>iJ(h.lst c' hc')(fun g e=>aa g(by rw [h.wl c' hc' g e];simp)(by rw [h.wl c' hc' g e];simp)),fun c' hc'=>iJ(h.mrk c' hc')(fun g e=>aa g(by rw [h.wm c' hc' g e];simp)(by rw [h.wm c' hc' g e];simp)),
  fun c' hc' g e=>(by rw [hW g(by rw [h.wl c' hc' g e];simp)];exact h.wl c' hc' g e),fun c' hc' g e=>(by rw [hW g(by rw [h.wm c' hc' g e];simp)];exact h.wm c' hc' g e),(by rw [hW b(by rw [h.wb];simp)];exact h.wb),fun c' hc' x hx=>ai c' x hc' hx,fun g e=> ?_⟩,
  ⟨ac,fun k hk=> ?_,fun g e=>(by simp only [Value.ownBlock,Option.some.injEq]at e;subst e;exact jz _ _ _),fun x hx g e e2=> ?_,fun c' hc' hne x hx g e=> ?_,ak⟩⟩
 ·by_cases e2:g=g6
  ·subst e2;exact⟨iw ac g rfl,iW ac g rfl⟩
  ·rw [iK _ _ e2]at e;have:=h.dom g e;exact⟨this.1,by omega⟩
 ·by_cases e:k<len
  ·obtain⟨g',cap',q1,q2,q3⟩:=cu.el k e;exact⟨g',cap',by rw [List.getElem?_append_left(by omega)];exact q1,by rw [aa g'(by rw [q3];simp)(by rw [q3];simp)];exact q2,by rw [hW g'(by rw [q3];simp)];exact q3⟩
  ·obtain⟨g',cap',q1,q2,q3⟩:=au;have ek:k=R.length:=by omega
   exact⟨g',cap',by rw [ek,List.getElem?_append_right(by omega)];simp [q1],by rw [aa g'(by rw [q3];simp)(by rw [q3];simp)];exact q2,by rw [hW g'(by rw [q3];simp)];exact q3⟩
 ·have am:who g= .cur:=by
   rcases ae g e2 with e3 | e3
   ·have aw:=(h.kept c(by omega)x hx).2 g e;have av:=(h.dom g(by rcases aw with e | e<;>rw [e]<;>simp)).2;subst e3;exact aq av
   ·exact e3
  obtain⟨ao,l',al,e5,ah⟩:=cu.ent x hx g e am;refine⟨ao,l',al,e5,fun e6=> ?_⟩;simp only [Value.ownBlock,Option.some.injEq]at e6;subst e6;rcases key with⟨k1,_⟩ | ⟨k1,_⟩
  ·have:=ah k1;omega
  ·have:=(h.dom g6(by rw [am];simp)).2;omega
 ·have:=cu.oth c' hc' hne x hx g e;rw [hW g(by rw [this];simp)];exact this
theorem Hs.begin4(h:Hs B w b who n f K M)(hc:c=4)(hk:∀ c',c'<5->∀ x∈K c',∀ g,x.1.ownBlock=some g->who g= .kept)(aa:w.ownsRow B 66 1 lv len R)(hl:len<=1000)
  (ad:∀ k,k<len->∃ g' cap',R[k]?=some(.slice(some⟨g',0,none⟩)1 cap')/\w.heap[g']?=some(.cells(elC m 3).toArray 65(0,0))/\who g'= .kept)
  (ho:∀ g,lv.ownBlock=some g->who g= .other):∃ who',Hs B w b who' n f K M/\Cu4 B w who' m c lv len R K/\(∀ g,lv.ownBlock≠some g->who' g=who g):=by
 rcases aa.2 with⟨e,_⟩ | ⟨g0,cap,cur,hv,hbb,hh,hrest⟩
 ·refine⟨who,h,⟨aa,ad,fun g e2=>(by rw [e]at e2;cases e2),fun x hx g e2 e3=> ?_,fun c' hc' hne x hx g e2=>hk c' hc' x hx g e2,hl⟩,fun _ _=>rfl⟩;rw [hk c(by omega)x hx g e2]at e3;cases e3
 ·have ab:lv.ownBlock=some g0:=by rw [hv];rfl
  have ac:∀ c',c'<5->∀ x∈K c',∀ g,x.1.ownBlock=some g->g≠g0:=fun c' hc' x hx g e e2=>by
   have:=hk c' hc' x hx g e;subst e2;rw [ho g ab]at this;cases this
  refine⟨setW who g0 .cur,h.more(fun g e=>iK _ _(fun e2=>by subst e2;exact e(ho g ab)))(fun g e=> ?_),⟨aa,fun k hk=>(by obtain⟨g',cap',q1,q2,q3⟩:=ad k hk;exact⟨g',cap',q1,q2,by rw [iK _ _(fun e2=>by rw [e2,ho g0 ab]at q3;cases q3)];exact q3⟩),fun g e2=>(by rw [ab]at e2;simp only [Option.some.injEq]at e2;subst e2;exact jz _ _ _),fun x hx g e2 e3=> ?_,fun c' hc' hne x hx g e2=> ?_,hl⟩,fun g e=>iK _ _(fun e2=>e(by rw [e2];exact ab))⟩
  ·by_cases e2:g=g0
   ·subst e2;exact⟨hbb,(Array.getElem?_eq_some_iff.1 hh).1⟩
   ·rw [iK _ _ e2]at e;exact h.dom g e
  ·rw [iK _ _(ac c(by omega)x hx g e2),hk c(by omega)x hx g e2]at e3;cases e3
  ·rw [iK _ _(ac c' hc' x hx g e2)];exact hk c' hc' x hx g e2
end
end
section
open Go.RowKit
structure KpH(B:Nat)(w0 w:World)(b:Nat)(who0 who:Nat->Role)(n m:Int)(f0 f:Nat->Value)(K0 K:Nat->List(Value × Int))(lv:Value)(len:Nat)(R:List Value)(k:Nat)(ex:Nat->Prop):Prop where
 hs:Hs B w b who n f K(jk K)
 cu:Cu4 B w who m 4 lv len R K
 fr:Fr w0 w who0 who ex
 lent:∀ o,o<5->f o=f0 o
 len:(K 4).length=(K0 4).length+k
 oth:∀ c',c'≠4->K c'=K0 c'
structure KpB(B:Nat)(w0 w:World)(b:Nat)(who0 who:Nat->Role)(n m:Int)(f0 f:Nat->Value)(K0 K:Nat->List(Value × Int))(lv:Value)(len:Nat)(R:List Value)(k:Nat)(ex:Nat->Prop):Prop where
 hs:Hs B w b who n f(oL K 4(K 4++ [(lv,m)]))(jk K)
 cu:Cu4 B w who m 4 lv len R(oL K 4(K 4++ [(lv,m)]))
 fr:Fr w0 w who0 who ex
 lent:∀ o,o<5->f o=f0 o
 len:(K 4).length=(K0 4).length+k
 oth:∀ c',c'≠4->K c'=K0 c'
section
variable {B : Nat} {w0 w w6 : World} {b : Nat} {who0 who : Nat -> Role} {n m : Int} {f0 f : Nat -> Value} {K0 K : Nat -> List (Value × Int)} {lv : Value} {len k : Nat} {ex : Nat -> Prop} {R : List Value}
structure WrK(B:Nat)(w0 w:World)(b:Nat)(who0 who:Nat->Role)(n:Int)(f0 f:Nat->Value)(K:Nat->List(Value × Int))(lv:Value)(len:Nat)(R:List Value)(m:Int)(k:Nat):Prop where
 hs:HsK B w b who n f K
 row:w.ownsRow B 66 1 lv len R
 el:∀ j,j<k->∃ g' cap',R[j]?=some(.slice(some⟨g',0,none⟩)1 cap')/\w.heap[g']?=some(.cells(elC m 3).toArray 65(0,0))/\who g'= .kept
 fr:Fr w0 w who0 who(fun g=>lv.ownBlock=some g)
 oth:∀ g,lv.ownBlock=some g->who g= .other
 lent:∀ o,o<5->f o=f0 o
theorem Hs.made {M:Nat->List Int}(h:Hs B w b who n f K M)(o:Obj):Hs B(w.alloc o)b(setW who w.heap.size .kept)n f K M:=by
 have aa:∀ g',who g'≠ .other->setW who w.heap.size .kept g'=who g':=fun g' e=>iK _ _(fun e2=>by subst e2;have:=(h.dom _ e).2;omega)
 refine(h.grown(ij(il _ _))).more aa(fun g' e=> ?_);have hb:=h.dom b(by rw [h.wb];simp);by_cases e2:g'=w.heap.size
 ·subst e2;exact⟨by omega,by simp⟩
 ·rw [iK _ _ e2]at e;have:=h.dom g' e;exact⟨this.1,by simp;omega⟩
theorem HsK.made(h:HsK B w b who n f K)(o:Obj):HsK B(w.alloc o)b(setW who w.heap.size .kept)n f K:=by
 refine⟨h.1.made o,fun c hc x hx g e=> ?_⟩;have:=h.2 c hc x hx g e;rw [iK _ _(fun e2=>by subst e2;have:=(h.1.dom _(by rw [this];simp)).2;omega)];exact this
theorem Fr.made {ex:Nat->Prop}(h:Fr w0 w who0 who ex)(hd:w0.heap.size<=w.heap.size)(o:Obj):Fr w0(w.alloc o)who0(Go.Proofs.YtklenjmfalljgabGreatDoor.setW who w.heap.size .kept)ex:=
 Fr.setW(h.trans(Fr.grown(ij(il _ _))))(Or.inl hd)
theorem WrK.step(h:WrK B w0 w b who0 who n f0 f K lv len R m k) {g cp:Nat}(hv:lv= .slice(some⟨g,0,none⟩)len cp)(hk:k<len):
  WrK B w0((w.alloc(.cells #[.int .i64 m, .int .i64 0, .int .i64 0, .int .i64 0]65)).setCell⟨g,k,none⟩(.slice(some⟨w.heap.size,0,none⟩)1 1))b who0(setW who w.heap.size .kept)n f0 f K lv len(R.set k(.slice(some⟨w.heap.size,0,none⟩)1 1))m(k+1):=by
 have ac:who g= .other:=h.oth g(by rw [hv];rfl);have hgl:g<w.heap.size:=iW h.row g(by rw [hv];rfl);have aa:setW who w.heap.size .kept g= .other:=by rw [iK _ _(by omega)];exact ac
 have hRl:R.length=len:=by have:=h.row.1;omega
 refine⟨(h.hs.made _).setOther aa, ?_,fun j hj=> ?_,(h.fr.made h.fr.size _).trans(Fr.set(Or.inr(by rw [hv];rfl))),fun g' e=> ?_,h.lent⟩
 ·have:=jo(iG(o:= .cells #[.int .i64 m, .int .i64 0, .int .i64 0, .int .i64 0]65)(by have:=h.row;rw [hv]at this;exact this))k(.slice(some⟨w.heap.size,0,none⟩)1 1);rw [hv];exact this
 ·by_cases e:j<k
  ·obtain⟨g',ab,q1,q2,q3⟩:=h.el j e;have ad:=(h.hs.1.dom g'(by rw [q3];simp)).2;have ae:g'≠g:=fun e2=>by rw [e2,ac]at q3;cases q3
   refine⟨g',ab,by rw [List.getElem?_set_ne(by omega)];exact q1, ?_,by rw [iK _ _(by omega)];exact q3⟩;rw [Below.heap_setCell _ _ _ _(by simpa using ae),Below.heap_alloc _ _ _ ad];exact q2
  ·have ej:j=k:=by omega
   subst ej;refine⟨w.heap.size,1,by rw [List.getElem?_set_self(by omega)], ?_,jz _ _ _⟩;rw [Below.heap_setCell _ _ _ _(by simp only;omega)];exact heap_alloc_new w _
 ·rw [hv]at e;simp only [Value.ownBlock,Option.some.injEq]at e;subst e;exact aa
theorem KpH.push(h:KpH B w0 w b who0 who n m f0 f K0 K lv len R k ex) {o:Obj} {g6 c6:Nat}
  (aa:w6.ownsRow B(tlC 4)1(.slice(some⟨g6,0,none⟩)((K 4).length+1)c6)((K 4).length+1)((K 4).map(·.1)++ [lv]))
  (key:((f(6+2*4)).ownBlock=some g6/\(w.alloc o).grownBy w6(some g6))\/(g6=w.heap.size+1/\(w.alloc o).grownBy w6 none)):
  HB w6 b f/\∃ who' f',KpB B w0(w6.setCell⟨b,6+2*4,none⟩(.slice(some⟨g6,0,none⟩)((K 4).length+1)c6))b who0 who' n m f0 f' K0 K lv len R k ex/\f'(7+2*4)=f(7+2*4):=by
 obtain⟨hsz,ac,hsr,h6r⟩:=kH key(fun g e=>(h.hs.dom g e).2)(r:= .lst 4)(by simp)(h.hs.wl 4(by omega));have ab:HB w6 b f:=h.hs.blk.same(ac b(by rw [h.hs.wb];simp)(by rw [h.hs.wb];simp)).1;obtain⟨h1,h2⟩:=h.hs.push4 h.cu rfl aa key;refine⟨ab,_,_,⟨h1,h2, ?_,fun o ho=>by rw [iT _ _(by omega)];exact h.lent o ho,h.len,h.oth⟩,iT _ _(by omega)⟩;refine(h.fr.trans(Fr.key(r:= .lst 4)(fun g e=>by rw [h.hs.wl 4(by omega)g e];simp)key)).trans(Fr.set(Or.inl ?_));have:=h1.wb;rw [this];simp
theorem KpB.tell(h:KpB B w0 w b who0 who n m f0 f K0 K lv len R k ex) {M1:Option Addr} {N M3:Nat}(eM:f(7+2*4)= .slice M1 N M3)(hN:(K 4).length=N) {o:Obj} {g6 c6:Nat}
  (aa:w6.ownsRow B 3 1(.slice(some⟨g6,0,none⟩)(N+1)c6)(N+1)(iI((K 4).map(·.2))++ [.int .i64 m]))
  (key:((Value.slice M1 N M3).ownBlock=some g6/\(w.alloc o).grownBy w6(some g6))\/(g6=w.heap.size+1/\(w.alloc o).grownBy w6 none)):
  HB w6 b f/\∃ who' f',KpH B w0(w6.setCell⟨b,7+2*4,none⟩(.slice(some⟨g6,0,none⟩)(N+1)c6))b who0 who' n m f0 f' K0(oL K 4(K 4++ [(lv,m)]))lv len R(k+1)ex:=by
 rw [<-eM]at key;obtain⟨hsz,ad,hsr,h6r⟩:=kH key(fun g e=>(h.hs.dom g e).2)(r:= .mrk 4)(by simp)(h.hs.wm 4(by omega));have ab:HB w6 b f:=h.hs.blk.same(ad b(by rw [h.hs.wb];simp)(by rw [h.hs.wb];simp)).1;have ac:(jk K 4).length=N:=by simp [jk,hN]
 obtain⟨h1,h2⟩:=h.hs.tell4 h.cu rfl(w6:=w6)(g6:=g6)(c6:=c6)(o:=o)(by rw [ac];exact aa)key;rw [ac]at h1 h2;refine⟨ab,_,_,⟨by rw [tQ];exact h1,h2, ?_,fun o ho=>by rw [iT _ _(by omega)];exact h.lent o ho,by rw [nI,List.length_append,h.len];simp;omega,fun c' hc'=>by rw [nL _ _ hc'];exact h.oth c' hc'⟩⟩;refine(h.fr.trans(Fr.key(r:= .mrk 4)(fun g e=>by rw [h.hs.wm 4(by omega)g e];simp)key)).trans(Fr.set(Or.inl ?_));have:=h1.wb;rw [this];simp
theorem KpH.grow(h:KpH B w0 w b who0 who n m f0 f K0 K lv len R k ex)(ab:len+1<=1000) {o:Obj} {g6 c6:Nat}
  {v:Value}(ac:∃ g' cap',v= .slice(some⟨g',0,none⟩)1 cap'/\w.heap[g']?=some(.cells(elC m 3).toArray 65(0,0))/\who g'= .kept)
  (aa:w6.ownsRow B 66 1(.slice(some⟨g6,0,none⟩)(len+1)c6)(len+1)(R++ [v]))
  (key:(lv.ownBlock=some g6/\(w.alloc o).grownBy w6(some g6))\/(g6=w.heap.size+1/\(w.alloc o).grownBy w6 none)):
  ∃ who',KpH B w0 w6 b who0 who' n m f0 f K0 K(.slice(some⟨g6,0,none⟩)(len+1)c6)(len+1)(R++ [v])k ex:=by
 obtain⟨h1,h2⟩:=h.hs.grow4 h.cu rfl ab ac aa key;exact⟨_,h1,h2,h.fr.trans(Fr.key(fun g e=>by rw [h.cu.wc g e];simp)key),h.lent,h.len,h.oth⟩
theorem WrK.kp(h:WrK B w0 w b who0 who n f0 f K lv len R m len)(hl:len<=1000):∃ who1,KpH B w0 w b who0 who1 n m f0 f K K lv len R 0(fun g=>lv.ownBlock=some g):=by
 obtain⟨aa,h1,h2,h3⟩:=h.hs.1.begin4(c:=4)rfl h.hs.2 h.row hl h.el h.oth;refine⟨aa,h1,h2,⟨h.fr.os,h.fr.tape,h.fr.output,h.fr.size,fun g q1 q2 q3=> ?_⟩,h.lent,rfl,fun _ _=>rfl⟩;obtain⟨a,b⟩:=h.fr.oth g q1 q2 q3;exact⟨a,by rw [h3 g q3];exact b⟩
theorem KpH.made(h:KpH B w0 w b who0 who n m f0 f K0 K lv len R k ex)(o:Obj):KpH B w0(w.alloc o)b who0(setW who w.heap.size .kept)n m f0 f K0 K lv len R k ex:=by
 have aa:∀ g',who g'≠ .other->setW who w.heap.size .kept g'=who g':=fun g' e=>iK _ _(fun e2=>by subst e2;have:=(h.hs.dom _ e).2;omega)
 refine⟨h.hs.made o,⟨iG h.cu.row,fun j hj=> ?_,fun g e=> ?_,fun x hx g e e2=> ?_,fun c' hc' hcn x hx g e=> ?_,h.cu.ln⟩,h.fr.made h.fr.size o,h.lent,h.len,h.oth⟩
 ·obtain⟨g',ab,q1,q2,q3⟩:=h.cu.el j hj;exact⟨g',ab,q1,by rw [Below.heap_alloc _ _ _(h.hs.dom g'(by rw [q3];simp)).2];exact q2,by rw [aa g'(by rw [q3];simp)];exact q3⟩
 ·have:=h.cu.wc g e;rw [aa g(by rw [this];simp)];exact this
 ·refine h.cu.ent x hx g e ?_;by_cases e3:g=w.heap.size
  ·subst e3;rw [jz]at e2;cases e2
  ·rw [iK _ _ e3]at e2;exact e2
 ·have:=h.cu.oth c' hc' hcn x hx g e;rw [aa g(by rw [this];simp)];exact this
theorem KpH.done(h:KpH B w0 w b who0 who n m f0 f K0 K lv len R 4 ex):∃ who' f' K',HsK B w b who' n f' K'/\oK 4 w0 w who0 who' f0 f' K0 K' ex:=
 ⟨mM who,f,K,⟨h.hs.settled.1,h.hs.settled.2⟩,⟨h.fr.settled,h.lent,h.len,h.oth⟩⟩
end
end
section
open Go.RowKit
attribute [local go_sem] Go.World.cell?_alloc_some
theorem DV:((Tryz.prog.info? 66).map fun i=>(i.zero,i.size,i.bytes))=some(some(.slice none 0 0),1,24):=by kernel_rfl
theorem Fy:((Tryz.prog.info? 35).map fun i=>(i.zero,i.size,i.bytes))=some(some(.slice none 0 0),1,24):=by kernel_rfl
theorem FP {B:Nat} {w:World} {b n3:Nat} {who:Nat->Role} {n:Int} {f:Nat->Value} {K:Nat->List(Value × Int)} {x1:Option Addr} {x3 len:Nat} {xs:List Value}(h3:w.cell?⟨n3,0,none⟩=some(.slice x1 len x3))(hH:HsK B w b who n f K)(hl:w.ownsRow B 66 1(.slice x1 len x3)len xs)(ho:∀ g,(Value.slice x1 len x3).ownBlock=some g->who g= .other)
  (b4:0<=n)(hn1:n<=10000000000000)(hK:(K 4).length<=5000000000000)(ha:len<=900)
  {Q:Exit->Act->World->Prop} {c1 c2 c4 c5 c6 c7 c8 c9 da dI bl dy br cn d7 d9 dJ cV cY eN cf bX bV d0 ca d2 cg eU dN dw eq b5 et es cW cD dn dg d6 cR ce eP dK cw eb bT dL bU dj b2 bB dq eG cr d5 bN dl eH eC dt eT de cH dO dv bO d3 eh cv eD cx cP cU bH cM cj bj cF cN bC eF cT cO eE cl b1 cb dm em cc bx cm ch du dd dh bP co aG aV az aU a7 aP aX aY aM a0 aS aK aQ:Value}
  (HQ:Hid(∀ {z0 z1 z2 z3 z4 z5 z6 z7 z8 z9 bK bw bL cq cZ ep cG cE dQ bZ bW dM bg er bF ck eB dH bD dW ci cL cS bh d1 bi b8 bp dP dU dT b0 eo dB cz en ec bo eV b3 bG dG el ct dY di b6 dA cJ bE cX cQ dC cB bz ew eR bI ef bA dk ez db dD cK ei eA b7 bR ea cI eS dS dE bq ey bQ eg dc bn cy dp eL cd dx bY d8 cA bu bJ aI aW aO a5 aN a3 aT aB a2 aH aL aC aA:Value}(w':World),(∃ who' f' K',HsK B w' b who'(n+1)f' K'/\oK 4 w w' who who' f f' K K'(fun g=>(Value.slice x1 len x3).ownBlock=some g))->Q .normal⟨#[z0,z1,z2,z3,z4,z5,z6,z7,z8,z9,bK,bw,bL,cq,cZ,ep,cG,cE,dQ,bZ,bW,dM,bg,er,bF,ck,eB,dH,bD,dW,ci,cL,cS,bh,d1,bi,b8,bp,dP,dU,dT,b0,eo,dB,cz,en,ec,bo,eV,b3,bG,dG,el,ct,dY,di,b6,dA,cJ,bE,cX,cQ,dC,cB,bz,ew,eR,bI,ef,bA,dk,ez,db,dD,cK,ei,eA,b7,bR,ea,cI,eS,dS,dE,bq,ey,bQ,eg,dc,bn,cy,dp,eL,cd,dx,bY,d8,cA,bu,bJ,aI,aW,aO,a5,aN,a3,aT,aB,a2,aH,aL,aC,aA], []⟩w')):
  Code.wp Tryz.prog(oU Tryz.f44 16)Q⟨#[.pointer(some⟨b,0,none⟩),c1,c2, .pointer(some⟨n3,0,none⟩),c4,c5,c6,c7,c8,c9,da,dI,bl,dy,br,cn,d7,d9,dJ,cV,cY,eN,cf,bX,bV,d0,ca,d2,cg,eU,dN,dw,eq,b5,et,es,cW,cD,dn,dg,d6,cR,ce,eP,dK,cw,eb,bT,dL,bU,dj,b2,bB,dq,eG,cr,d5,bN,dl,eH,eC,dt,eT,de,cH,dO,dv,bO,d3,eh,cv,eD,cx,cP,cU,bH,cM,cj,bj,cF,cN,bC,eF,cT,cO,eE,cl,b1,cb,dm,em,cc,bx,cm,ch,du,dd,dh,bP,co,aG,aV,az,aU,a7,aP,aX,aY,aM,a0,aS,aK,aQ], []⟩w:=by
 conv=>arg 2;whnf
 go_upto_region 17 with fail
 clear h3;obtain⟨i0,eJ,dR,dV,dz⟩:=info_parts DV;obtain⟨i1,dr,d4,ex,eQ⟩:=info_parts Fy;obtain⟨i2,df,eK,dX,bt⟩:=info_parts kt;have HM:=hZ(tk hH.1 b4(by omega));have H0:Hid(WrK B w(w.setCell⟨b,5,none⟩(.int .i64(n+1)))b who who(n+1)f(lC f 5(.int .i64(n+1)))K(.slice x1 len x3)len xs(-77000000 - (n+1))0):=by
  refine⟨⟨hH.1.setCnt _,hH.2⟩, ?_,fun j hj=>by omega,Fr.set(Or.inl(by rw [hH.1.wb];simp)),ho,fun o ho=>iT _ _(by omega)⟩;have dZ:(Value.slice x1 len x3).ownBlock≠some b:=fun e=>by have:=ho b e;rw [hH.1.wb]at this;cases this
  exact ownsRow_setCell_other(a:=⟨b,5,none⟩)hl dZ(.int .i64(n+1))
 have bf:pt b= .pointer(some⟨b,0,none⟩):=rfl;rw [bf]at HM;clear hH hl ho bf;generalize hm: -77000000 - (n+1)=m at*;have HMM:=hZ hm;clear hm;go_wp2_with(go_at_call 55;refine HM.out.mono ?_;rintro e w1⟨rfl,rfl⟩)
 go_loopw [11](fun i w'=>∃ (k:Nat)(who':Nat->Role)(R:List Value),k<=len/\i= .int .i64 k/\Hid(WrK B w w' b who who'(n+1)f(lC f 5(.int .i64(n+1)))K(.slice x1 len x3)len R m k))(fun i _=>len - (intOf i).toNat)
 case atStart=>exact⟨0,who,xs,Nat.zero_le _,rfl,H0⟩
 case round=>
  clear H0 HM;obtain⟨k,who',R,hk,rfl,HI⟩:=hrel;obtain⟨w5,bc⟩:∃ w5,w5=wr:=⟨_,rfl⟩;rw [<-bc]at HI ⊢;clear bc;by_cases ds:k<len
  ·obtain⟨g,cp,e0,_,_⟩:=HI.out.row.form(by omega);have af:=HI.out.row;rw [e0]at af;have bk:g<w5.heap.size:=iW af g rfl;have a4:=HI.out.step e0 ds;rw [World.setCell_alloc_past _ _ _ _ bk]at a4;have bv:=hZ a4;clear a4;simp only [Value.slice.injEq,true_and]at e0;obtain⟨rfl,rfl⟩:=e0;have aR:=iG(o:= .cells #[.int .i64 m, .int .i64 0, .int .i64 0, .int .i64 0]65)af;obtain⟨u0,y0⟩:∃ u,(w5.alloc(.cells #[.int .i64 m, .int .i64 0, .int .i64 0, .int .i64 0]65)).cell?⟨g,k,none⟩=some u:=lS aR(by omega);have z0:(w5.alloc(.cells #[.int .i64 m, .int .i64 0, .int .i64 0, .int .i64 0]65)).frozen?⟨g,k,none⟩=false:=lO aR;have q0:(0:Int)<=(k:Int):=by omega
   have q1:(k:Int)<len:=by omega
   clear af aR;go_wp2_with fail
   go_roundw
   case rel=>exact⟨k+1,_,_,by omega,by go_num,bv⟩
   case measure=>simp [intOf];omega
  ·have ek:k=len:=by omega
   have q1:(len:Int)<=(k:Int):=by omega
   have HS:Hid(∃ ai,KpH B w w5 b who ai(n+1)m f(lC f 5(.int .i64(n+1)))K K(.slice x1 len x3)len R 0(fun g=>(Value.slice x1 len x3).ownBlock=some g)):=by
    have hi:=HI.out;rw [ek]at hi;exact hi.kp(by omega)
   clear HI ek;go_wp2_with fail
   go_loopw [9,12](fun lv' i w'=>∃ (k:Nat)(who':Nat->Role)(f':Nat->Value)(K':Nat->List(Value × Int))(R:List Value),k<=4/\i= .int .i64 k/\Hid(KpH B w w' b who who'(n+1)m f f' K K' lv'(len+k)R k(fun g=>(Value.slice x1 len x3).ownBlock=some g)))(fun _ i _=>4 - (intOf i).toNat)
   case atStart=>
    obtain⟨ai,h1⟩:=HS.out;exact⟨0,ai,_,K,R,by omega,rfl,hZ h1⟩
   case round=>
    clear HS;obtain⟨j,who',f',K',R,hj,rfl,HK⟩:=hrel;obtain⟨w7,be⟩:∃ w7,w7=wr:=⟨_,rfl⟩;rw [<-be]at HK ⊢;clear be;have rO:w7.ownsRow B 35 1(f' 14)(K' 4).length((K' 4).map(·.1)):=HK.out.hs.lst 4(by omega);have rM:w7.ownsRow B 3 1(f' 15)(K' 4).length(iI((K' 4).map(·.2))):=by have:=HK.out.hs.mrk 4(by omega);simpa [jk]using this
    have rL:w7.ownsRow B 66 1 u9(len+j)R:=HK.out.cu.row;have ed:Hid((K' 4).length=(K 4).length+j):=HK.out.len;have c6:w7.cell?⟨b,14,none⟩=some(f' 14):=HK.out.hs.blk.cell(by omega);have hbase:B<=w7.heap.size:=by have:=HK.out.hs.blk.lt;have:=(HK.out.hs.dom b(by rw [HK.out.hs.wb];simp)).1;omega
    obtain⟨l1,l2,l3,rfl⟩:=iq rL;have ee:=iy rL;subst ee;obtain⟨o1,o2,o3,eO⟩:=iq rO;rw [eO]at rO c6;have bM:=iy rO;subst bM;have c3:(K' 4).length<=5000000000003\/¬j<4:=by have:=ed.out;omega
    have b9:=hZ rL;have ba:=hZ rO;have aD:=hZ eO;have bS:=hZ rM;clear rL rO rM eO;by_cases hj4:j<4
    ·have c3:(K' 4).length<=5000000000003:=by omega
     have z2:(j:Int)<4:=by omega
     have aq:(K' 4).length+1<=maxLen:=by unfold maxLen;omega
     have a6:len+j+1<=maxLen:=by unfold maxLen;omega
     have ay:Hid(∀ {o:Obj} {g6 c6:Nat} {w6:World},w6.ownsRow B 35 1(.slice(some⟨g6,0,none⟩)((K' 4).length+1)c6)((K' 4).length+1)((K' 4).map(·.1)++ [.slice l1(len+j)l3])->
       (((Value.slice o1(K' 4).length o3).ownBlock=some g6/\(w7.alloc o).grownBy w6(some g6))\/(g6=w7.heap.size+1/\(w7.alloc o).grownBy w6 none))->
       HB w6 b f'/\∃ who'' f'',KpB B w(w6.setCell⟨b,14,none⟩(.slice(some⟨g6,0,none⟩)((K' 4).length+1)c6))b who who''(n+1)m f f'' K K'(.slice l1(len+j)l3)(len+j)R j(fun g=>(Value.slice x1 len x3).ownBlock=some g)/\f'' 15=f' 15):=by
      intro o g6 c6 w6 aZ key;rw [<-aD.out]at key;exact HK.out.push aZ key
     generalize bb:(K' 4).length=N at*;generalize eu:(K' 4).map(·.1)=L1 at*;have a1:=hZ bb;clear bb eu;go_upto_region 26 with(at_builtin;go_must(refine iD rfl _ _ _ rfl B 35 i1 _ 1 24 Tryz.underlying41 dr d4 ex eQ rfl(by omega)(.slice o1 N o3)N L1 rfl(iG ba.out)⟨w7.heap.size,0,none⟩1 1 [.slice l1(len+j)l3]rfl rfl(World.news_of_block(cs:= #[.slice l1(len+j)l3])(t:=35)(fr:=(0,0))(heap_alloc_new w7 _))(by simp [Value.oneCell'])(by omega)aq(by omega)(by simp;omega)(w7.heap.size+1)(by simp) ?_);intro g8 aJ w8 ac aj a9;have aF:=(ay.out ac aj).1;have p6:w8.cell?⟨b,14,none⟩=some(.slice o1 N o3):=(by rw [aF.cell(by omega),aD.out]);have p7:=aF.frozen 14)
     obtain⟨_,who9,f9,ak,e9⟩:=ay.out ac aj;generalize w8.setCell⟨b,14,none⟩(.slice(some⟨g8,0,none⟩)(N+1)aJ)=w9 at*;have a8:=hZ ak;have ar:w9.ownsRow B 3 1(f9 15)N(iI((K' 4).map(·.2))):=by
      have:=ak.hs.mrk 4(by omega);rw [<-a1.out];simpa [jk]using this
     have c7:w9.cell?⟨b,15,none⟩=some(f9 15):=ak.hs.blk.cell(by omega);obtain⟨m1,m2,m3,eM⟩:=iq ar;rw [eM]at ar c7;have bm:=(iy ar).symm;subst bm;have hbase9:B<=w9.heap.size:=by have:=ak.hs.blk.lt;have:=(ak.hs.dom b(by rw [ak.hs.wb];simp)).1;omega
     have av:=hZ ar;have ax:=hZ eM;clear ac aj aF p6 p7 a9 c6 ak e9 ay ar eM aD ba bS;go_upto_region 27 with(at_builtin;go_must(refine iD rfl _ _ _ rfl B 3 i2 _ 1 8 Tryz.underlying39 df eK dX bt rfl(by omega)(.slice m1 N m3)N(iI((K' 4).map(·.2)))rfl(iG av.out)⟨w9.heap.size,0,none⟩1 1 [.int .i64 m]rfl rfl(World.news_of_block(cs:= #[.int .i64 m])(t:=3)(fr:=(0,0))(heap_alloc_new w9 _))(by simp [Value.oneCell'])(by omega)aq(by omega)(by simp;omega)(w9.heap.size+1)(by simp) ?_);intro eI ao bd aa ae aw;have ah:=(a8.out.tell(M1:=m1)(M3:=m3)ax.out a1.out aa ae).1;have p6:bd.cell?⟨b,15,none⟩=some(.slice m1 N m3):=(by rw [ah.cell(by omega),ax.out]);have p7:=ah.frozen 15)
     obtain⟨_,al,f11,ad⟩:=a8.out.tell(M1:=m1)(M3:=m3)ax.out a1.out aa ae;generalize bd.setCell⟨b,15,none⟩(.slice(some⟨eI,0,none⟩)(N+1)ao)=w11 at*;have an:=hZ(ad.made(.cells #[.int .i64 m, .int .i64 0, .int .i64 0, .int .i64 0]65));have am:Hid((w11.alloc(.cells #[.int .i64 m, .int .i64 0, .int .i64 0, .int .i64 0]65)).ownsRow B 66 1(.slice l1(len+j)l3)(len+j)R):=an.out.cu.row;have ev:Hid(∃ g' cap',Value.slice(some⟨w11.heap.size,0,none⟩)1 1= .slice(some⟨g',0,none⟩)1 cap'/\(w11.alloc(.cells #[.int .i64 m, .int .i64 0, .int .i64 0, .int .i64 0]65)).heap[g']?=some(.cells(elC m 3).toArray 65(0,0))/\setW al w11.heap.size .kept g'= .kept):=⟨w11.heap.size,1,rfl,heap_alloc_new w11 _,jz _ _ _⟩;have hbase11:B<=w11.heap.size:=by have:=ad.hs.blk.lt;have:=(ad.hs.dom b(by rw [ad.hs.wb];simp)).1;omega
     have cC:((w11.alloc(.cells #[.int .i64 m, .int .i64 0, .int .i64 0, .int .i64 0]65)).alloc(.cells #[.slice(some⟨w11.heap.size,0,none⟩)1 1]66)).heap[w11.heap.size+1]?=some(.cells #[.slice(some⟨w11.heap.size,0,none⟩)1 1]66(0,0)):=by
      have:=heap_alloc_new(w11.alloc(.cells #[.int .i64 m, .int .i64 0, .int .i64 0, .int .i64 0]65))(.cells #[.slice(some⟨w11.heap.size,0,none⟩)1 1]66);simpa using this
     clear aa ae ah p6 p7 aw c7 ad a8 av ax b9;go_wp2_with(at_builtin;go_must(refine iD rfl _ _ _ rfl B 66 i0 _ 1 24 Tryz.underlying35 eJ dR dV dz rfl(by omega)(.slice l1(len+j)l3)(len+j)R rfl(iG am.out)⟨w11.heap.size+1,0,none⟩1 1 [.slice(some⟨w11.heap.size,0,none⟩)1 1]rfl rfl(World.news_of_block(cs:= #[.slice(some⟨w11.heap.size,0,none⟩)1 1])(t:=66)(fr:=(0,0))cC)(by simp [Value.oneCell'])(by omega)a6(by omega)(by simp;omega)((w11.alloc(.cells #[.int .i64 m, .int .i64 0, .int .i64 0, .int .i64 0]65)).heap.size+1)(by simp) ?_);intro g12 cap12 w12 ab ag ap;have aE:=hZ(an.out.grow(by omega)ev.out ab ag);clear ab ag ap)
     go_roundw
     case rel=>
      obtain⟨au,dF⟩:=aE.out;exact⟨j+1,au,_,_,_,by omega,by go_num,hZ dF⟩
     case measure=>simp [intOf];omega
    ·have z2:(4:Int)<=(j:Int):=by omega
     have HE:Hid(∃ who' f' K',HsK B w7 b who'(n+1)f' K'/\oK 4 w w7 who who' f f' K K'(fun g=>(Value.slice x1 len x3).ownBlock=some g)):=by
      have ej:j=4:=by omega
      have hk:=HK.out;rw [ej]at hk;exact hk.done
     go_wp2_with fail
     exact HQ.out w7 HE.out
end
section
open Go.RowKit
attribute [local go_sem] Go.World.cell?_alloc_some
structure ThrD(B:Nat)(w:World)(tv:Value)(T:List(Value × Nat × List Value)):Prop where
 row:w.ownsRow B 66 1 tv T.length(T.map(·.1))
 el:∀ x∈T,w.ownsRow B 65 4 x.1 x.2.1 x.2.2/\x.2.1<=900
 dis:∀ i j(hi:i<T.length)(hj:j<T.length),i<j->∀ g,T[i].1.ownBlock=some g->T[j].1.ownBlock≠some g
theorem uZ {w:World} {B B':Nat} {v v':Value} {m q:Nat} {xs ys:List Value}(h:w.ownsRow B 66 1 v m xs)(h':w.ownsRow B' 65 4 v' q ys) {g:Nat}(e:v.ownBlock=some g)(e':v'.ownBlock=some g):False:=by
 rcases h.2 with⟨rfl,_⟩ | ⟨g1,cap1,cur1,rfl,_,hh,_⟩
 ·cases e
 ·rcases h'.2 with⟨rfl,_⟩ | ⟨g2,cap2,cur2,rfl,_,hh',_⟩
  ·cases e'
  ·simp only [Value.ownBlock,Option.some.injEq]at e e';subst e e';rw [hh]at hh';simp only [Option.some.injEq,Obj.cells.injEq]at hh';exact absurd hh'.2.1(by decide)
structure KpQ(B:Nat)(w0 w:World)(b:Nat)(who0 who:Nat->Role)(n:Int)(f0 f:Nat->Value)(K0 K:Nat->List(Value × Int))(T:List(Value × Nat × List Value))(t:Nat):Prop where
 hs:HsK B w b who(n+t)f K
 fr:Fr w0 w who0 who(fun g=>∃ x∈T.take t,x.1.ownBlock=some g)
 lent:∀ o,o<5->f o=f0 o
 len:(K 3).length=(K0 3).length+4*t
 oth:∀ c,c≠3->K c=K0 c
theorem ur(B:Nat)(w:World)(b:Nat)(who:Nat->Role)(n:Int)(f:Nat->Value)(K:Nat->List(Value × Int))(tv:Value)(T:List(Value × Nat × List Value))(hH:HsK B w b who n f K)(hT:ThrD B w tv T)
  (ho:∀ g,tv.ownBlock=some g->who g= .other)(ar:∀ x∈T,∀ g,x.1.ownBlock=some g->who g= .other)(hn0:0<=n)(hn1:n<=9000000000000)(hK3:(K 3).length<=4900000000000)(hK4:(K 4).length<=4900000000000)(hl:T.length<=100):
  Calls Tryz.prog 44 #[pt b, .agg #[tv]]w fun e w'=>(∃ v,e= .returned v)/\∃ who' f' K',HsK B w' b who'(n+T.length+1)f' K'/\Fr w w' who who'(fun g=>tv.ownBlock=some g\/∃ x∈T,x.1.ownBlock=some g)/\(∀ o,o<5->f' o=f o)/\(K' 3).length=(K 3).length+4*T.length/\(K' 4).length=(K 4).length+4/\∀ c,c≠3->c≠4->K' c=K c:=by
 obtain⟨t1,t2,t3,rfl⟩:=iq hT.row;have bi:=iy hT.row;subst bi;have HH:=hZ hH;have HT:=hZ hT;have HO:=hZ ho;have ap:=hZ ar;have be:pt b= .pointer(some⟨b,0,none⟩):=rfl;have qT:(T.length:Int)<=100:=by omega
 rw [be];clear hH hT ho ar;go_enter Tryz.func44,Tryz.ntmps44
 go_upto_region 1 with fail
 obtain⟨w1,ag⟩:∃ w1,w1=w.alloc(.cells #[.slice t1 T.length t3]37):=⟨_,rfl⟩;have an:Hid(w1.heap[w.heap.size]?=some(.cells #[.slice t1 T.length t3]37(0,0))):=by unfold Hid;rw [ag];exact heap_alloc_new w _
 have af:Hid(w.grownBy w1 none):=by unfold Hid;rw [ag];exact ij(il _ _)
 rw [<-ag];clear ag;have aS:Hid(who w.heap.size= .other):=by
  unfold Hid;by_cases e:who w.heap.size= .other
  ·exact e
  ·exact absurd(HH.out.1.dom _ e).2(by omega)
 have aa:Hid(ThrD B w1(.slice t1 T.length t3)T):=⟨iA HT.out.row af.out(fun _ e=>by cases e),fun x hx=>⟨iA(HT.out.el x hx).1 af.out(fun _ e=>by cases e),(HT.out.el x hx).2⟩,HT.out.dis⟩;have H0:Hid(KpQ B w1 w1 b who who n f f K K T 0):=⟨by simpa using HH.out.grown af.out,Fr.refl _ _ _,fun _ _=>rfl,by simp,fun _ _=>rfl⟩;have aj:Hid(∀ (w':World)(who':Nat->Role)(f':Nat->Value)(K':Nat->List(Value × Int))(t:Nat),t<=T.length->KpQ B w1 w' b who who' n f f' K K' T t->w'.cell?⟨w.heap.size,0,none⟩=some(.slice t1 T.length t3)/\(w'.ownsRow B 66 1(.slice t1 T.length t3)T.length(T.map(·.1))/\∀ g,(Value.slice t1 T.length t3).ownBlock=some g->who' g= .other)/\∀ (ht:t<T.length),w'.ownsRow B 65 4 T[t].1 T[t].2.1 T[t].2.2/\∀ g,T[t].1.ownBlock=some g->who' g= .other):=by
  intro w' who' f' K' t ht hq;have ac:w.heap.size<w1.heap.size:=(Array.getElem?_eq_some_iff.1 an.out).1;have ab:∀ x∈T.take t,x∈T:=fun x hx=>List.mem_of_mem_take hx
  have ak:=hq.fr.oth w.heap.size ac aS.out(fun⟨x,hx,e⟩=>by
   have:=iW(HT.out.el x(ab x hx)).1 _ e;omega)
  refine⟨?_,⟨?_, ?_⟩,fun htl=>⟨?_, ?_⟩⟩
  ·rw [World.cell?_of_block ak.1];simp [World.cell?,an.out]
  ·exact iJ aa.out.row(fun g e=>(hq.fr.oth g(iW aa.out.row g e)(HO.out g e)(fun⟨x,hx,e2⟩=>uZ aa.out.row(aa.out.el x(ab x hx)).1 e e2)).1)
  ·exact fun g e=>(hq.fr.oth g(iW aa.out.row g e)(HO.out g e)(fun⟨x,hx,e2⟩=>uZ aa.out.row(aa.out.el x(ab x hx)).1 e e2)).2
  ·have hx:=aa.out.el T[t](List.getElem_mem htl);refine iJ hx.1(fun g e=>(hq.fr.oth g(iW hx.1 g e)(ap.out _(List.getElem_mem htl)g e)(fun⟨x,hx',e2⟩=> ?_)).1);obtain⟨i,hi,rfl⟩:=List.getElem_of_mem hx';simp only [List.length_take]at hi;rw [List.getElem_take]at e2;exact aa.out.dis i t(by omega)htl(by omega)g e2 e
  ·intro g e;have hx:=aa.out.el T[t](List.getElem_mem htl);refine(hq.fr.oth g(iW hx.1 g e)(ap.out _(List.getElem_mem htl)g e)(fun⟨x,hx',e2⟩=> ?_)).2;obtain⟨i,hi,rfl⟩:=List.getElem_of_mem hx';simp only [List.length_take]at hi;rw [List.getElem_take]at e2;exact aa.out.dis i t(by omega)htl(by omega)g e2 e
 go_wp2_with fail
 go_loopw [4](fun tv' w'=>∃ t:Nat,t<=T.length/\tv'= .int .i64 t/\Hid(∃ who' f' K',KpQ B w1 w' b who who' n f f' K K' T t))(fun tv' _=>T.length - (intOf tv').toNat)
 case atStart=>exact⟨0,Nat.zero_le _,rfl,⟨_,_,_,H0.out⟩⟩
 case round=>
  clear H0;obtain⟨t,ht,rfl,HE⟩:=hrel;obtain⟨who',f',K',hq⟩:=HE.out;clear HE;obtain⟨w2,ao⟩:∃ w2,w2=wr:=⟨_,rfl⟩;rw [<-ao]at hq ⊢;clear ao;have HQ:=hZ hq;obtain⟨c3,⟨ad,a4⟩,bk⟩:=aj.out w2 who' f' K' t ht hq;clear hq;by_cases ac:t<T.length
  ·have q1:(t:Int)<T.length:=by omega
   obtain⟨tg,rfl⟩:∃ g,t1=some⟨g,0,none⟩:=by
    rcases ad.2 with⟨_,e⟩ | ⟨g,cap,cur,hv,_⟩
    ·omega
    ·simp only [Value.slice.injEq]at hv;exact⟨g,hv.1⟩
   obtain⟨ah,ai⟩:=bk ac;have al:=(aa.out.el T[t](List.getElem_mem ac)).2;have aq:w2.cell?⟨tg,t,none⟩=some T[t].1:=by rw [ad.cellAt _(by omega)];simp [ac]
   have am:Hid(T.take(t+1)=T.take t++ [T[t]]):=List.take_succ_eq_append_getElem ac;generalize T[t]=x at*;obtain⟨xv,xn,xs⟩:=x;simp only at ah ai al aq;obtain⟨x1,x2,x3,rfl⟩:=iq ah;have aA:=iy ah;subst aA;go_upto_if 17 with fail
   refine wp_cond_true rfl ?_;refine wp_skip ?_;refine ‹∀ a w,Code.wp Tryz.prog _ _ a w->_› _ _ ?_;have HXO:=hZ ai;refine Ek c3 ac(by omega)aq HQ.out.hs ah ai(by omega)(by omega)(by have:=HQ.out.len;omega)al ?_;intro z5 z6 z7 z8 aO aP aM aL au ba bm a1 bh aK aD aV a0 bd bg av aZ aw aX ay aN aU aT aQ a7 aG a8 a6 a2 ax bn aR aJ aI a5 a3 aY az aW aE bc aH bj bf aF a9 aC bb bl w3 hh;have aB:Hid(∃ who' f' K',KpQ B w1 w3 b who who' n f f' K K' T(t+1)):=by
    obtain⟨ae,f3,K3,h1,h2⟩:=hh;refine⟨ae,f3,K3, ?_, ?_,fun o ho'=>(h2.lent o ho').trans(HQ.out.lent o ho'), ?_,fun c hc=>(h2.oth c hc).trans(HQ.out.oth c hc)⟩
    ·have e:n+((t+1:Nat):Int)=n+(t:Int)+1:=by omega
     rw [e];exact h1
    ·exact(HQ.out.fr.mono(fun g⟨x,hx,e⟩=>⟨x,(by rw [am.out];exact List.mem_append.2(Or.inl hx)),e⟩)).trans(h2.fr.mono(fun g e=>⟨(.slice x1 x2 x3,x2,xs),(by rw [am.out];exact List.mem_append.2(Or.inr(List.mem_singleton.2 rfl))),e⟩))
    ·have e1:=h2.len;have e2:=HQ.out.len;omega
   clear hh;go_wp2_with fail
   go_roundw
   case rel=>exact⟨t+1,by omega,by go_num,aB⟩
   case measure=>simp [intOf]<;>omega
  ·have q1:(T.length:Int)<=(t:Int):=by omega
   have et:t=T.length:=by omega
   subst et;go_upto_if 17 with fail
   refine wp_cond_false rfl ?_;refine wp_exit ?_;refine ‹∀ a w,Code.wp Tryz.prog _ _ a w->_› _ _ ?_;refine FP c3 HQ.out.hs ad a4(by omega)(by omega)(by have:=HQ.out.oth 4(by omega);rw [this];omega)(by omega) ?_;intro z0 z1 z2 z3 z4 z5 z6 z7 z8 z9 z10 z11 z12 z13 z14 z15 z16 z17 aO aP aM aL au ba bm a1 bh aK aD aV a0 bd bg av aZ aw aX ay aN aU aT aQ a7 aG a8 a6 a2 ax bn aR aJ aI a5 a3 aY az aW aE bc aH bj bf aF a9 aC bb bl z67 z68 z69 z70 z71 z72 z73 z74 z75 z76 z77 z78 z79 z80 z81 z82 z83 z84 z85 z86 z87 z88 z89 z90 z91 z92 z93 z94 z95 z96 z97 z98 z99 z100 z101 z102 z103 z104 z105 z106 z107 z108 z109 z110 z111 z112 w3 hh;have HF:Hid(∃ who' f' K',HsK B w3 b who'(n+T.length+1)f' K'/\Fr w w3 who who'(fun g=>(Value.slice t1 T.length t3).ownBlock=some g\/∃ x∈T,x.1.ownBlock=some g)/\(∀ o,o<5->f' o=f o)/\(K' 3).length=(K 3).length+4*T.length/\(K' 4).length=(K 4).length+4/\∀ c,c≠3->c≠4->K' c=K c):=by
    obtain⟨ae,f3,K3,h1,h2⟩:=hh;refine⟨ae,f3,K3,h1, ?_,fun o ho'=>(h2.lent o ho').trans(HQ.out.lent o ho'), ?_, ?_,fun c hc3 hc4=>(h2.oth c hc4).trans(HQ.out.oth c hc3)⟩
    ·refine(((Fr.grown af.out).trans(HQ.out.fr.mono(fun g⟨x,hx,e⟩=> ?_))).trans(h2.fr.mono(fun g e=>Or.inl e)));exact Or.inr⟨x,List.mem_of_mem_take hx,e⟩
    ·rw [h2.oth 3(by omega)];exact HQ.out.len
    ·rw [h2.len,HQ.out.oth 4(by omega)]
   clear hh;go_end0
   exact⟨⟨_,rfl⟩,HF.out⟩
end
end Go.Proofs.YtklenjmfalljgabGreatDoor
