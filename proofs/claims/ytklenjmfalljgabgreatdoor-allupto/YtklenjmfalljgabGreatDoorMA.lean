/- The texts Pure Reg Clo Clo2 Clo3 Clo4 Mem Act Rdy Stp Mach End Fol Run Val Mk. -/
import Derived.RowKit
import Derived.StillTailTactics
import Derived.OrdersHeld
import Derived.Test.YtklenjmfalljgabGreatDoorProg
import Derived.WalkKit
import Derived.WalkSpells
import Derived.WalkLawsBesides
import Derived.RegionTactic
import Derived.BigRegion
import Derived.ChangeAlike
import Derived.BigQuiet
import Derived.Deep.QuietTactic
import Derived.Deep.RegionHeld3
import Derived.Laws.Rows
import Derived.Deep.DeepMust
import Derived.Laws.EntriesVeiled
import Derived.Deep.AppendLies
import Derived.OwnWalk
import Derived.Laws.CopyRow
namespace Go.Proofs.YtklenjmfalljgabGreatDoor
set_option maxRecDepth 100000
set_option maxHeartbeats 8000000
section
open Go.RowKit (wrap64)
structure Ins where
 op:Int
 a:Int
 b:Int
 n:Int
structure St where
 vars:Nat->Int
 held:Nat->Bool
 own:Nat->Int
 regs:Nat->Nat->Int
 next:Nat->Int
def St.zero:St:=⟨fun _=>0,fun _=>false,fun _=>0,fun _ _=>0,fun _=>0⟩
def St.setReg(s:St)(t r:Nat)(v:Int):St:=⟨s.vars,s.held,s.own,fun t' r'=>if t'=t/\r'=r then v else s.regs t' r',s.next⟩
def St.setVar(s:St)(x:Nat)(v:Int):St:=⟨fun x'=>if x'=x then v else s.vars x',s.held,s.own,s.regs,s.next⟩
def St.setNext(s:St)(t:Nat)(v:Int):St:=⟨s.vars,s.held,s.own,s.regs,fun t'=>if t'=t then v else s.next t'⟩
def St.setLock(s:St)(l:Nat)(h:Bool)(o:Int):St:=⟨s.vars,fun l'=>if l'=l then h else s.held l',fun l'=>if l'=l then o else s.own l',s.regs,s.next⟩
def act(t:Nat)(i:Ins)(s:St):Bool × St:=
 if i.op=1 then(true,s.setReg t i.a.toNat i.n)
 else if i.op=2 then(true,s.setReg t i.a.toNat(s.vars i.b.toNat))
 else if i.op=3 then(true,s.setVar i.a.toNat(s.regs t i.b.toNat))
 else if i.op=4 then(true,s.setReg t i.a.toNat(wrap64(s.regs t i.a.toNat+s.regs t i.b.toNat)))
 else if i.op=5 then(true,s.setReg t i.a.toNat(wrap64(s.regs t i.a.toNat - s.regs t i.b.toNat)))
 else if i.op=6 then(true,s.setReg t i.a.toNat(wrap64(s.regs t i.a.toNat*s.regs t i.b.toNat)))
 else if i.op=7 then(if s.regs t i.b.toNat=0 then(false,s)else(true,s.setReg t i.a.toNat(wrap64((s.regs t i.a.toNat).tdiv(s.regs t i.b.toNat)))))
 else if i.op=8 then(true,if s.regs t i.a.toNat=0 then s.setNext t i.n else s)
 else if i.op=9 then(true,s.setLock i.a.toNat true t)
 else if i.op=10 then(if s.held i.a.toNat=true/\s.own i.a.toNat=t then(true,s.setLock i.a.toNat false 0)else(false,s))
 else(s.regs t i.a.toNat !=0,s)
def shp(op j:Nat):Int:=
 ((([[0,0,0], [1,0,5], [1,2,0], [2,1,0], [1,1,0], [1,1,0], [1,1,0], [1,1,0], [1,0,4], [3,0,0], [3,0,0], [1,0,0]]:List(List Int))[op]?).getD [])[j]?.getD 0
def jA(x n:Int):Bool:=decide(0<=x)&& decide(x<n)
def mw(k x len:Int):Bool:=
 if k=1 then jA x 4 else if k=2 then jA x 4 else if k=3 then jA x 3 else if k=4 then jA x(len+1)else if k=5 then true else(x==0)
def lL(i:Ins)(len:Int):Bool:=
 decide(1<=i.op)&&(decide(i.op<=11)&&(mw(shp i.op.toNat 0)i.a len &&(mw(shp i.op.toNat 1)i.b len && mw(shp i.op.toNat 2)i.n len)))
def kW(c:List Ins):Bool:=decide(c.length<=16)&& c.all fun i=>lL i c.length
def iR(p:List(List Ins)):Bool:=decide(1<=p.length)&&(decide(p.length<=4)&& p.all kW)
def iL(p:List(List Ins))(t:Nat):List Ins:=(p[t]?).getD []
def jq(p:List(List Ins))(t:Nat)(k:Int):Ins:=((iL p t)[k.toNat]?).getD⟨0,0,0,0⟩
def jO(p:List(List Ins))(s:St)(t:Nat):Bool:=s.next t==((iL p t).length:Int)
def jB(p:List(List Ins))(s:St)(t:Nat):Bool:= !jO p s t &&(!((jq p t(s.next t)).op==9) || !s.held(jq p t(s.next t)).a.toNat)
def jM(p:List(List Ins))(s:St)(t:Nat):Bool × St:=act t(jq p t(s.next t))(s.setNext t(s.next t+1))
def jN(p:List(List Ins))(s:St):Int:=
 if(List.range p.length).any(jB p s)then 5 else if(List.range p.length).all(jO p s)then 3 else 4
def nh(p:List(List Ins))(s:St)(t:Int):Bool:=jA t p.length && jB p s t.toNat
structure Out where
 steps:List(Int × Int)
 kind:Int
 thread:Int
 at_:Int
 st:St
def ja(p:List(List Ins)):List Int->Int->St->List(Int × Int)->Out
 | [],_,s,acc=>⟨acc,jN p s,0,0,s⟩
 | t::r,i,s,acc=>
  if nh p s t=true then
   (if(jM p s t.toNat).1=true then ja p r(i+1)(jM p s t.toNat).2(acc++ [(t,s.next t.toNat)])
    else⟨acc++ [(t,s.next t.toNat)],1,t,s.next t.toNat,(jM p s t.toNat).2⟩)
  else⟨acc,2,0,i,s⟩
def iF(p:List(List Ins))(sch:List Int):Out:=ja p sch 0 St.zero []
def Inv(p:List(List Ins))(s:St):Prop:=∀ t,t<p.length->0<=s.next t/\s.next t<=(iL p t).length
theorem Inv.zero(p:List(List Ins)):Inv p St.zero:=fun t _=>⟨by simp [St.zero],by simp [St.zero]⟩
theorem vJ {i:Ins} {len:Int}(h:lL i len=true):1<=i.op/\i.op<=11:=by
 simp only [lL,Bool.and_eq_true,decide_eq_true_eq]at h;exact⟨h.1,h.2.1⟩
theorem sR {i:Ins} {len:Int}(h:lL i len=true):mw(shp i.op.toNat 0)i.a len=true/\mw(shp i.op.toNat 1)i.b len=true/\mw(shp i.op.toNat 2)i.n len=true:=by
 simp only [lL,Bool.and_eq_true,decide_eq_true_eq]at h;exact h.2.2
theorem pf {i:Ins} {len:Int}(h:lL i len=true):
  (i.op=1/\0<=i.a/\i.a<4)\/(i.op=2/\0<=i.a/\i.a<4/\0<=i.b/\i.b<4)\/(i.op=3/\0<=i.a/\i.a<4/\0<=i.b/\i.b<4)\/
  (i.op=4/\0<=i.a/\i.a<4/\0<=i.b/\i.b<4)\/(i.op=5/\0<=i.a/\i.a<4/\0<=i.b/\i.b<4)\/(i.op=6/\0<=i.a/\i.a<4/\0<=i.b/\i.b<4)\/
  (i.op=7/\0<=i.a/\i.a<4/\0<=i.b/\i.b<4)\/(i.op=8/\0<=i.a/\i.a<4/\0<=i.n/\i.n<len+1)\/(i.op=9/\0<=i.a/\i.a<3)\/(i.op=10/\0<=i.a/\i.a<3)\/(i.op=11/\0<=i.a/\i.a<4):=by
 obtain⟨h1,h2⟩:=vJ h;obtain⟨h3,h4,h5⟩:=sR h;have hc:i.op=1\/i.op=2\/i.op=3\/i.op=4\/i.op=5\/i.op=6\/i.op=7\/i.op=8\/i.op=9\/i.op=10\/i.op=11:=by omega
 rcases hc with e | e | e | e | e | e | e | e | e | e | e<;>rw [e]at h3 h4 h5<;>simp [shp,mw,jA]at h3 h4 h5<;>simp [e]<;>omega
theorem BZ(t:Nat)(i:Ins)(s:St)(t':Nat):(act t i s).2.next t'=s.next t'\/(t'=t/\i.op=8/\(act t i s).2.next t'=i.n):=by
 by_cases h8:i.op=8
 ·have e:act t i s=(true,if s.regs t i.a.toNat=0 then s.setNext t i.n else s):=by simp [act,h8]
  rw [e];by_cases h0:s.regs t i.a.toNat=0
  ·simp only [h0,if_true,St.setNext];by_cases ht:t'=t
   ·right;simp [ht,h8]
   ·left;simp [ht]
  ·left;simp [h0]
 ·left
  unfold act;repeat' split
  all_goals first | rfl | (exfalso;exact h8 ‹_›)
theorem nw {p:List(List Ins)} {t:Nat}(h:t<p.length):iL p t=p[t]:=by simp [iL,h]
theorem kl {p:List(List Ins)}(h:iR p=true) {t:Nat}(ht:t<p.length):kW(iL p t)=true:=by
 simp only [iR,Bool.and_eq_true,List.all_eq_true]at h;rw [nw ht];exact h.2.2 _(List.getElem_mem ht)
theorem ju {p:List(List Ins)}(h:iR p=true):1<=p.length/\p.length<=4:=by
 simp only [iR,Bool.and_eq_true,decide_eq_true_eq]at h;exact⟨h.1,h.2.1⟩
theorem lh {c:List Ins}(h:kW c=true):c.length<=16:=by
 simp only [kW,Bool.and_eq_true,decide_eq_true_eq]at h;exact h.1
theorem uO {c:List Ins}(h:kW c=true) {k:Nat}(hk:k<c.length):lL c[k]c.length=true:=by
 simp only [kW,Bool.and_eq_true,List.all_eq_true]at h;exact h.2 _(List.getElem_mem hk)
theorem mJ {p:List(List Ins)} {t:Nat} {k:Int}(h:k.toNat<(iL p t).length):jq p t k=(iL p t)[k.toNat]:=by simp [jq,h]
theorem mh {p:List(List Ins)}(h:iR p=true) {t:Nat}(ht:t<p.length) {k:Int}(hk:k.toNat<(iL p t).length):lL(jq p t k)(iL p t).length=true:=by
 rw [mJ hk];exact uO(kl h ht)hk
theorem Inv.step {p:List(List Ins)} {s:St}(hp:iR p=true)(h:Inv p s) {t:Nat}(ht:t<p.length)(hd:jO p s t=false):Inv p(jM p s t).2:=by
 intro t' ab;have hn:=h t ht;have ac:=h t' ab;have hne:s.next t≠((iL p t).length:Int):=by simpa [jO]using hd
 have hk:(s.next t).toNat<(iL p t).length:=by omega
 have hv:=mh hp ht hk;have aa:∀ t'',t''=t->(iL p t'').length=(iL p t).length:=fun t'' e=>by rw [e]
 rcases BZ t(jq p t(s.next t))(s.setNext t(s.next t+1))t' with e | ⟨e1,e2,e3⟩
 ·unfold jM;rw [e];simp only [St.setNext]
  split
  ·rename_i e4;have:=aa t' e4;omega
  ·exact ac
 ·unfold jM;rw [e3]
  have:=pf hv;have hl:=aa t' e1;rcases this with h1 | h1 | h1 | h1 | h1 | h1 | h1 | h1 | h1 | h1 | h1<;>omega
theorem pZ(p:List(List Ins))(i:Int)(s:St)(acc:List(Int × Int)):ja p []i s acc=⟨acc,jN p s,0,0,s⟩:=rfl
theorem ku(p:List(List Ins))(t:Int)(r:List Int)(i:Int)(s:St)(acc:List(Int × Int))(h:nh p s t=false):ja p(t::r)i s acc=⟨acc,2,0,i,s⟩:=by simp [ja,h]
theorem mT(p:List(List Ins))(t:Int)(r:List Int)(i:Int)(s:St)(acc:List(Int × Int))(h:nh p s t=true)(h2:(jM p s t.toNat).1=false):
  ja p(t::r)i s acc=⟨acc++ [(t,s.next t.toNat)],1,t,s.next t.toNat,(jM p s t.toNat).2⟩:=by simp [ja,h,h2]
theorem oe(p:List(List Ins))(t:Int)(r:List Int)(i:Int)(s:St)(acc:List(Int × Int))(h:nh p s t=true)(h2:(jM p s t.toNat).1=true):
  ja p(t::r)i s acc=ja p r(i+1)(jM p s t.toNat).2(acc++ [(t,s.next t.toNat)]):=by simp [ja,h,h2]
end
section
open Go
section
variable {P : Program} {ops : Array Oper} {Q : Exit -> Act -> World -> Prop} {S : World -> Prop} {n : Nat}
def GF(P:Program)(ops:Array Oper)(Q:Exit->Act->World->Prop)(n:Nat)(listed:Array Bool)(a:Act)(w:World):Prop:=
 Region.ready .any ops listed= [n]/\Region.ready .any ops(listed.setIfInBounds n true)= []/\wpOp P ops Q n(fun a' w'=>Q .normal a' w')a w
def mF(P:Program)(ops:Array Oper)(Q:Exit->Act->World->Prop)(S:World->Prop)(n:Nat):Nat->Array Bool->Act->World->Prop
 | 0,listed,a,w=>GF P ops Q n listed a w
 | f+1,listed,a,w=>Region.ready .any ops listed≠ []/\∀ i∈Region.ready .any ops listed,i<n/\wpOp P ops Q i(fun a' w'=>S w'/\mF P ops Q S n f(listed.setIfInBounds i true)a' w')a w
theorem oG:∀ (f:Nat)(listed:Array Bool)(a:Act)(w:World),mF P ops Q S n f listed a w->wpAny P .any ops Q(f+1)listed a w
 | 0,listed,a,w,⟨h1,h2,h3⟩=>⟨fun h=>(by rw [h1]at h;cases h),fun i hi=>by
   rw [h1]at hi;have:i=n:=by simpa using hi
   subst this;exact wpOp_mono(fun a' w' h=>⟨h2,h⟩)h3⟩
 | f+1,listed,a,w,⟨h1,h2⟩=>⟨fun h=>absurd h h1,fun i hi=>wpOp_mono(fun a' w' h=>oG f _ a' w' h.2)(h2 i hi).2⟩
theorem vy {i:Nat} {oi:Oper} {v:Value}(hi:ops[i]?=some oi)(ae:∀ (j:Nat)(o:Oper)cs b,ops[j]?=some o->o.op≠ .select cs b)
  (hQ:∀ c a w,Q(.panic c)(a.put oi.dst v)w->Q(.panic c)a w)(hs:Region.sinkB .any ops n=true)(hc:Region.chainB .any ops n=true)(hn:n<ops.size)(ah:i<n):
  ∀ (f:Nat)(aa:Array Bool)(a:Act)(w:World),
   (∀ j oj,ops[j]?=some oj->j≠i->aa.getD j true=false->(∀ e∈oj.after,Region.binds .any e=true->e.on≠i)->oi.apart ops oj=true)->
   i∈Region.ready .any ops aa->HeadInv .any ops n aa->YieldsIf P ops S oi v a->S w->
   mF P ops Q S n f(aa.setIfInBounds i true)(a.put oi.dst v)w->mF P ops Q S n(f+1)aa a w:=by
 intro f;induction f with
 | zero=>
  intro aa a w _ hr ai hy hS H;refine⟨fun h=>(by rw [h]at hr;cases hr),fun j hj=> ?_⟩;by_cases ac:j=i
  ·subst ac;exact⟨ah,hy.wpOp hi hS⟨hS,H⟩⟩
  ·have h1:=ready_mono hj ac;rw [H.1]at h1;have:j=n:=by simpa using h1
   subst this;exact absurd hj(tail_waits hs hc hn ai _ i rfl ah(mem_ready.1 hr).1 j(Nat.le_refl _))
 | succ f ih=>
  intro aa a w ab hr ai hy hS H;refine⟨fun h=>(by rw [h]at hr;cases hr),fun j hj=> ?_⟩;by_cases ac:j=i
  ·subst ac;exact⟨ah,hy.wpOp hi hS⟨hS,H⟩⟩
  ·have h0:=H.2 j(ready_mono hj ac);refine⟨h0.1, ?_⟩;obtain⟨ad,oj,aj,af⟩:=mem_ready.1 hj;have ag:∀ e∈oj.after,Region.binds .any e=true->e.on≠i:=fun e he hb heq=>by
    have h1:=af e he hb;have h2:=getD_both(mem_ready.1 hr).1;rw [heq,h2]at h1;cases h1
   have h2:=wpOp_putIf aj(ab j oj aj ac ad ag)(fun cs b=>ae i oi cs b hi)(fun cs b=>ae j oj cs b aj)hQ hy h0.2;refine wpOp_mono(fun a' w' h3=>⟨h3.2.1,ih(aa.setIfInBounds j true)a' w'(fun k ok hk hki hun hno=> ?_)(ready_mono hr(Ne.symm ac))(ai.set hj h0.1)h3.1 h3.2.1 ?_⟩)h2
   ·refine ab k ok hk hki ?_ hno;by_cases ak:j=k
    ·subst ak;exact ad
    ·rw [getD_set_ne true ak]at hun;exact hun
   ·rw [Array.setIfInBounds_comm _ _ ac];exact h3.2.2
theorem hY {i:Nat} {oi:Oper} {v:Value} {f:Nat} {aa:Array Bool} {a:Act} {w:World}(hi:ops[i]?=some oi)
  (hs:(Region.noSelect ops &&(Region.sinkB .any ops n &&(Region.chainB .any ops n &&(decide(n<ops.size)&&(decide(i<n)&&(Region.free .any ops aa i &&(Region.ready .any ops aa).contains i))))))=true)
  (hQ:∀ c a w,Q(.panic c)(a.put oi.dst v)w->Q(.panic c)a w)(hy:YieldsIf P ops S oi v a)(hS:S w)
  (h:HeadInv .any ops n(aa.setIfInBounds i true)->mF P ops Q S n f(aa.setIfInBounds i true)(a.put oi.dst v)w):HeadInv .any ops n aa->mF P ops Q S n(f+1)aa a w:=by
 simp only [Bool.and_eq_true,decide_eq_true_eq]at hs;obtain⟨h1,h2,h3,h4,h5,h6,h7⟩:=hs;have h8:i∈Region.ready .any ops aa:=by simpa using h7
 exact fun inv=>vy hi(Region.noSelect_spec h1)hQ h2 h3 h4 h5 f aa a w(Region.free_spec hi h6)h8 inv hy hS(h(inv.set h8 h5))
theorem ip {i:Nat} {oi:Oper} {f:Nat} {aa:Array Bool} {a:Act} {w:World}(hi:ops[i]?=some oi)
  (hr:Region.ready .any ops aa= [i])(ac:decide(i<n)=true)(hw:Region.wanted oi(yielded ops a.tmps)=true)
  (h:∀ K:Act->World->Prop,(∀ a' w',S w'->(HeadInv .any ops n(aa.setIfInBounds i true)->mF P ops Q S n f(aa.setIfInBounds i true)a' w')->K a' w')->oi.wp P a w K Q):
  HeadInv .any ops n aa->mF P ops Q S n(f+1)aa a w:=by
 intro ab;have h5:i<n:=of_decide_eq_true ac;have h8:i∈Region.ready .any ops aa:=by rw [hr];simp
 refine⟨fun h=>(by rw [hr]at h;cases h),fun j hj=> ?_⟩;rw [hr]at hj;have:j=i:=by simpa using hj
 subst this;refine⟨h5, ?_⟩;unfold wpOp;simp only [hi,hw,if_true];exact Or.inl(h _(fun a' w' hS hh=>⟨hS,hh(ab.set h8 h5)⟩))
theorem iE {on:Oper} {aa:Array Bool} {a:Act} {w:World}(hi:ops[n]?=some on)
  (hr:Region.ready .any ops aa= [n])(ab:Region.ready .any ops(aa.setIfInBounds n true)= [])(hw:Region.wanted on(yielded ops a.tmps)=true)
  (h:on.wp P a w(fun a' w'=>Q .normal a' w')Q):HeadInv .any ops n aa->mF P ops Q S n 0 aa a w:=by
 intro _;refine⟨hr,ab, ?_⟩;unfold wpOp;simp only [hi,hw,if_true];exact Or.inl h
theorem iu {id:Nat} {a:Act} {w:World}(S:World->Prop)(n:Nat)(hm:P.follows .mixedOrders=true)(hn:ops.size=n+1)(hS:S w.drew)
  (h:S w.drew->HeadInv .any ops n(Array.replicate ops.size false)->mF P ops Q S n n(Array.replicate ops.size false)a w.drew):(Code.region id ops true).wp P Q a w:=by
 refine wp_region_any hm ?_;have aa:HeadInv .any ops n(Array.replicate ops.size false):=
  ⟨by simp,fun j oj _ hl=>(by rw [getD_replicate_false]at hl;cases hl),fun t _ ht=>getD_in(by simpa using ht)(getD_replicate_false _ _)⟩
 have:=oG(P:=P)(Q:=Q)n _ a _(h hS aa);rw [hn]at this ⊢;exact this
end
def jr(w' w:World):Prop:=w'.heap=w.heap/\w'.os=w.os/\w'.output=w.output/\w'.tape=w.tape
end
section
open Go.RowKit
theorem DT(t r:Nat)(ht:t<4)(hr:r<4)(n:Int)(b bn bt br:Nat)(w:World)(x:Value)
  (hn:w.cell?⟨bn,0,none⟩=some(.int .i64 n))(htc:w.cell?⟨bt,0,none⟩=some(.int .i64 t))(hrc:w.cell?⟨br,0,none⟩=some(.int .i64 r))
  (hx:w.cell?⟨b,10+t*4+r,none⟩=some x)(hf:w.frozen?⟨b,10+t*4+r,none⟩=false):
  Calls Tryz.prog 148 #[.pointer(some⟨b,0,none⟩), .pointer(some⟨bn,0,none⟩), .pointer(some⟨bt,0,none⟩), .pointer(some⟨br,0,none⟩)]w
   fun e w'=>e= .returned(.bool true)/\jr w'(w.setCell⟨b,10+t*4+r,none⟩(.int .i64 n)):=by
 have h1:(0:Int)<=(t:Int):=by omega
 have h2:(t:Int)<4:=by omega
 have h3:(0:Int)<=(r:Int):=by omega
 have h4:(r:Int)<4:=by omega
 go_enter Tryz.func148,Tryz.ntmps148
 go_wp2
 go_region
 all_goals(go_wp2;go_ret;exact⟨rfl,rfl,rfl,rfl,rfl⟩)
theorem Cp(t r v:Nat)(ht:t<4)(hr:r<4)(hv:v<4)(n:Int)(b bv bt br:Nat)(w:World)(x:Value)
  (hvc:w.cell?⟨bv,0,none⟩=some(.int .i64 v))(htc:w.cell?⟨bt,0,none⟩=some(.int .i64 t))(hrc:w.cell?⟨br,0,none⟩=some(.int .i64 r))
  (hn:w.cell?⟨b,v,none⟩=some(.int .i64 n))
  (hx:w.cell?⟨b,10+t*4+r,none⟩=some x)(hf:w.frozen?⟨b,10+t*4+r,none⟩=false):
  Calls Tryz.prog 149 #[.pointer(some⟨b,0,none⟩), .pointer(some⟨bv,0,none⟩), .pointer(some⟨bt,0,none⟩), .pointer(some⟨br,0,none⟩)]w
   fun e w'=>e= .returned(.bool true)/\jr w'(w.setCell⟨b,10+t*4+r,none⟩(.int .i64 n)):=by
 have h1:(0:Int)<=(t:Int):=by omega
 have h2:(t:Int)<4:=by omega
 have h3:(0:Int)<=(r:Int):=by omega
 have h4:(r:Int)<4:=by omega
 have h5:(0:Int)<=(v:Int):=by omega
 have h6:(v:Int)<4:=by omega
 go_enter Tryz.func149,Tryz.ntmps149
 go_wp2
 go_region
 all_goals(go_wp2;go_ret;exact⟨rfl,rfl,rfl,rfl,rfl⟩)
theorem AT(t r v:Nat)(ht:t<4)(hr:r<4)(hv:v<4)(n:Int)(b bv bt br:Nat)(w:World)(x:Value)
  (hvc:w.cell?⟨bv,0,none⟩=some(.int .i64 v))(htc:w.cell?⟨bt,0,none⟩=some(.int .i64 t))(hrc:w.cell?⟨br,0,none⟩=some(.int .i64 r))
  (hn:w.cell?⟨b,10+t*4+r,none⟩=some(.int .i64 n))
  (hx:w.cell?⟨b,v,none⟩=some x)(hf:w.frozen?⟨b,v,none⟩=false):
  Calls Tryz.prog 150 #[.pointer(some⟨b,0,none⟩), .pointer(some⟨bt,0,none⟩), .pointer(some⟨br,0,none⟩), .pointer(some⟨bv,0,none⟩)]w
   fun e w'=>e= .returned(.bool true)/\jr w'(w.setCell⟨b,v,none⟩(.int .i64 n)):=by
 have h1:(0:Int)<=(t:Int):=by omega
 have h2:(t:Int)<4:=by omega
 have h3:(0:Int)<=(r:Int):=by omega
 have h4:(r:Int)<4:=by omega
 have h5:(0:Int)<=(v:Int):=by omega
 have h6:(v:Int)<4:=by omega
 go_enter Tryz.func150,Tryz.ntmps150
 go_wp2
 go_region
 all_goals(go_wp2;go_ret;exact⟨rfl,rfl,rfl,rfl,rfl⟩)
theorem CO(t r:Nat)(ht:t<4)(hr:r<4)(n y:Int)(b bn bt br:Nat)(w:World)(x:Value)
  (hnc:w.cell?⟨bn,0,none⟩=some(.int .i64 n))(htc:w.cell?⟨bt,0,none⟩=some(.int .i64 t))(hrc:w.cell?⟨br,0,none⟩=some(.int .i64 r))
  (hy:w.cell?⟨b,10+t*4+r,none⟩=some(.int .i64 y))
  (hx:w.cell?⟨b,26+t,none⟩=some x)(hf:w.frozen?⟨b,26+t,none⟩=false):
  Calls Tryz.prog 153 #[.pointer(some⟨b,0,none⟩), .pointer(some⟨bt,0,none⟩), .pointer(some⟨br,0,none⟩), .pointer(some⟨bn,0,none⟩)]w
   fun e w'=>e= .returned(.bool true)/\jr w'(if y=0 then w.setCell⟨b,26+t,none⟩(.int .i64 n)else w):=by
 have h1:(0:Int)<=(t:Int):=by omega
 have h2:(t:Int)<4:=by omega
 have h3:(0:Int)<=(r:Int):=by omega
 have h4:(r:Int)<4:=by omega
 by_cases hz:(y==0)=true
 ·have aa:y=0:=by simpa using hz
  rw [if_pos aa];have HZ:Hid(y=0):=aa;clear aa;go_enter Tryz.func153,Tryz.ntmps153
  go_wp2
  go_region
  all_goals(go_wp2;go_region)
  all_goals(go_wp2;go_ret;exact⟨rfl,rfl,rfl,rfl,rfl⟩)
 ·have hz2:(y==0)=false:=by simpa using hz
  rw [if_neg(by simpa using hz)];clear hz;go_enter Tryz.func153,Tryz.ntmps153
  go_wp2
  go_region
  all_goals(go_wp2;go_ret;exact⟨rfl,rfl,rfl,rfl,rfl⟩)
theorem zG(t r:Nat)(ht:t<4)(hr:r<4)(y:Int)(b bt br:Nat)(w:World)
  (htc:w.cell?⟨bt,0,none⟩=some(.int .i64 t))(hrc:w.cell?⟨br,0,none⟩=some(.int .i64 r))
  (hy:w.cell?⟨b,10+t*4+r,none⟩=some(.int .i64 y)):
  Calls Tryz.prog 156 #[.pointer(some⟨b,0,none⟩), .pointer(some⟨bt,0,none⟩), .pointer(some⟨br,0,none⟩)]w
   fun e w'=>e= .returned(.bool(y !=0))/\jr w' w:=by
 have h1:(0:Int)<=(t:Int):=by omega
 have h2:(t:Int)<4:=by omega
 have h3:(0:Int)<=(r:Int):=by omega
 have h4:(r:Int)<4:=by omega
 go_enter Tryz.func156,Tryz.ntmps156
 go_wp2
 go_region
 all_goals(go_wp2;go_ret;exact⟨rfl,rfl,rfl,rfl,rfl⟩)
end
section
open Go.RowKit
theorem Co(t l:Nat)(hl:l<3)(b bt bl:Nat)(w:World)(x y:Value)
  (htc:w.cell?⟨bt,0,none⟩=some(.int .i64 t))(hlc:w.cell?⟨bl,0,none⟩=some(.int .i64 l))
  (hx:w.cell?⟨b,4+l*2,none⟩=some x)(hf:w.frozen?⟨b,4+l*2,none⟩=false)
  (hy:w.cell?⟨b,4+l*2+1,none⟩=some y)(hf2:w.frozen?⟨b,4+l*2+1,none⟩=false):
  Calls Tryz.prog 154 #[.pointer(some⟨b,0,none⟩), .pointer(some⟨bt,0,none⟩), .pointer(some⟨bl,0,none⟩)]w
   fun e w'=>e= .returned(.bool true)/\jr w'((w.setCell⟨b,4+l*2,none⟩(.bool true)).setCell⟨b,4+l*2+1,none⟩(.int .i64 t)):=by
 have h3:(0:Int)<=(l:Int):=by omega
 have h4:(l:Int)<3:=by omega
 go_enter Tryz.func154,Tryz.ntmps154
 go_wp2
 go_region
 all_goals(go_wp2;go_ret;exact⟨rfl,rfl,rfl,rfl,rfl⟩)
theorem sq(t l:Nat)(hl:l<3)(b bm bl:Nat)(w:World)
  (hmc:w.cell?⟨bm,0,none⟩=some(.bool true))(hmc2:w.cell?⟨bm,1,none⟩=some(.int .i64 t))(hlc:w.cell?⟨bl,0,none⟩=some(.int .i64 l))
  (hx:w.cell?⟨b,4+l*2,none⟩=some(.bool true))(hf:w.frozen?⟨b,4+l*2,none⟩=false)
  (hy:w.cell?⟨b,4+l*2+1,none⟩=some(.int .i64 t))(hf2:w.frozen?⟨b,4+l*2+1,none⟩=false):
  Calls Tryz.prog 155 #[.pointer(some⟨b,0,none⟩), .pointer(some⟨bl,0,none⟩), .pointer(some⟨bm,0,none⟩)]w
   fun e w'=>e= .returned(.bool true)/\jr w'((w.setCell⟨b,4+l*2,none⟩(.bool false)).setCell⟨b,4+l*2+1,none⟩(.int .i64 0)):=by
 have h3:(0:Int)<=(l:Int):=by omega
 have h4:(l:Int)<3:=by omega
 go_enter Tryz.func155,Tryz.ntmps155
 go_wp2
 go_region
 all_goals(go_wp2;go_region)
 all_goals(go_wp2;go_ret;exact⟨rfl,rfl,rfl,rfl,rfl⟩)
theorem rx(t l:Nat)(hl:l<3)(b bm bl:Nat)(w:World)(o:Int)
  (hmc:w.cell?⟨bm,0,none⟩=some(.bool true))(hmc2:w.cell?⟨bm,1,none⟩=some(.int .i64 t))(hlc:w.cell?⟨bl,0,none⟩=some(.int .i64 l))
  (hx:w.cell?⟨b,4+l*2,none⟩=some(.bool false))
  (hy:w.cell?⟨b,4+l*2+1,none⟩=some(.int .i64 o)):
  Calls Tryz.prog 155 #[.pointer(some⟨b,0,none⟩), .pointer(some⟨bl,0,none⟩), .pointer(some⟨bm,0,none⟩)]w
   fun e w'=>e= .returned(.bool false)/\jr w' w:=by
 have h3:(0:Int)<=(l:Int):=by omega
 have h4:(l:Int)<3:=by omega
 go_enter Tryz.func155,Tryz.ntmps155
 go_wp2
 go_region
 all_goals(go_wp2;go_ret;exact⟨rfl,rfl,rfl,rfl,rfl⟩)
theorem tT(t l:Nat)(hl:l<3)(b bm bl:Nat)(w:World)(o:Int)(ho:¬o=t)
  (hmc:w.cell?⟨bm,0,none⟩=some(.bool true))(hmc2:w.cell?⟨bm,1,none⟩=some(.int .i64 t))(hlc:w.cell?⟨bl,0,none⟩=some(.int .i64 l))
  (hx:w.cell?⟨b,4+l*2,none⟩=some(.bool true))
  (hy:w.cell?⟨b,4+l*2+1,none⟩=some(.int .i64 o)):
  Calls Tryz.prog 155 #[.pointer(some⟨b,0,none⟩), .pointer(some⟨bl,0,none⟩), .pointer(some⟨bm,0,none⟩)]w
   fun e w'=>e= .returned(.bool false)/\jr w' w:=by
 have h3:(0:Int)<=(l:Int):=by omega
 have h4:(l:Int)<3:=by omega
 go_enter Tryz.func155,Tryz.ntmps155
 go_wp2
 go_region
 all_goals(go_wp2;go_ret;exact⟨rfl,rfl,rfl,rfl,rfl⟩)
end
section
open Go.RowKit
theorem EG(x y:Int)(w:World):Calls Tryz.prog 114 #[.int .i64 x, .int .i64 y]w fun e w'=>e= .returned(.int .i64(wrap64(x+y)))/\w'=w:=by
 go_enter Tryz.func114,Tryz.ntmps114
 go_wp2
 go_ret;exact⟨rfl,rfl⟩
theorem EJ(t a c:Nat)(ht:t<4)(hr:a<4)(hv:c<4)(x y:Int)(b bf bt ba bc:Nat)(w:World)
  (hfc:w.cell?⟨bf,0,none⟩=some(.func(.func 114) #[] #[]))
  (htc:w.cell?⟨bt,0,none⟩=some(.int .i64 t))(hac:w.cell?⟨ba,0,none⟩=some(.int .i64 a))(hcc:w.cell?⟨bc,0,none⟩=some(.int .i64 c))
  (hx:w.cell?⟨b,10+t*4+a,none⟩=some(.int .i64 x))(hy:w.cell?⟨b,10+t*4+c,none⟩=some(.int .i64 y))(hf:w.frozen?⟨b,10+t*4+a,none⟩=false):
  Calls Tryz.prog 151 #[.pointer(some⟨b,0,none⟩), .pointer(some⟨bf,0,none⟩), .pointer(some⟨bt,0,none⟩), .pointer(some⟨ba,0,none⟩), .pointer(some⟨bc,0,none⟩)]w
   fun e w'=>e= .returned(.bool true)/\jr w'(w.setCell⟨b,10+t*4+a,none⟩(.int .i64(wrap64(x+y)))):=by
 have h1:(0:Int)<=(t:Int):=by omega
 have h2:(t:Int)<4:=by omega
 have h3:(0:Int)<=(a:Int):=by omega
 have h4:(a:Int)<4:=by omega
 have h5:(0:Int)<=(c:Int):=by omega
 have h6:(c:Int)<4:=by omega
 go_enter Tryz.func151,Tryz.ntmps151
 go_wp2
 refine wp_region_still_tail 25(by kernel_rfl)(by kernel_rfl) ?_;simp only [List.take_succ_cons,List.take_zero,List.drop_succ_cons,List.drop_zero];iterate 20 still_step
 still_call(EG _ _ _)
 iterate 4 still_step
 refine wpStill_nil ?_
 all_goals(go_wp2;go_ret;exact⟨rfl,rfl,rfl,rfl,rfl⟩)
theorem Ed(x y:Int)(w:World):Calls Tryz.prog 115 #[.int .i64 x, .int .i64 y]w fun e w'=>e= .returned(.int .i64(wrap64(x - y)))/\w'=w:=by
 go_enter Tryz.func115,Tryz.ntmps115
 go_wp2
 go_ret;exact⟨rfl,rfl⟩
theorem EM(t a c:Nat)(ht:t<4)(hr:a<4)(hv:c<4)(x y:Int)(b bf bt ba bc:Nat)(w:World)
  (hfc:w.cell?⟨bf,0,none⟩=some(.func(.func 115) #[] #[]))
  (htc:w.cell?⟨bt,0,none⟩=some(.int .i64 t))(hac:w.cell?⟨ba,0,none⟩=some(.int .i64 a))(hcc:w.cell?⟨bc,0,none⟩=some(.int .i64 c))
  (hx:w.cell?⟨b,10+t*4+a,none⟩=some(.int .i64 x))(hy:w.cell?⟨b,10+t*4+c,none⟩=some(.int .i64 y))(hf:w.frozen?⟨b,10+t*4+a,none⟩=false):
  Calls Tryz.prog 151 #[.pointer(some⟨b,0,none⟩), .pointer(some⟨bf,0,none⟩), .pointer(some⟨bt,0,none⟩), .pointer(some⟨ba,0,none⟩), .pointer(some⟨bc,0,none⟩)]w
   fun e w'=>e= .returned(.bool true)/\jr w'(w.setCell⟨b,10+t*4+a,none⟩(.int .i64(wrap64(x - y)))):=by
 have h1:(0:Int)<=(t:Int):=by omega
 have h2:(t:Int)<4:=by omega
 have h3:(0:Int)<=(a:Int):=by omega
 have h4:(a:Int)<4:=by omega
 have h5:(0:Int)<=(c:Int):=by omega
 have h6:(c:Int)<4:=by omega
 go_enter Tryz.func151,Tryz.ntmps151
 go_wp2
 refine wp_region_still_tail 25(by kernel_rfl)(by kernel_rfl) ?_;simp only [List.take_succ_cons,List.take_zero,List.drop_succ_cons,List.drop_zero];iterate 20 still_step
 still_call(Ed _ _ _)
 iterate 4 still_step
 refine wpStill_nil ?_
 all_goals(go_wp2;go_ret;exact⟨rfl,rfl,rfl,rfl,rfl⟩)
theorem Fx(x y:Int)(w:World):Calls Tryz.prog 116 #[.int .i64 x, .int .i64 y]w fun e w'=>e= .returned(.int .i64(wrap64(x*y)))/\w'=w:=by
 go_enter Tryz.func116,Tryz.ntmps116
 go_wp2
 go_ret;exact⟨rfl,rfl⟩
theorem D5(t a c:Nat)(ht:t<4)(hr:a<4)(hv:c<4)(x y:Int)(b bf bt ba bc:Nat)(w:World)
  (hfc:w.cell?⟨bf,0,none⟩=some(.func(.func 116) #[] #[]))
  (htc:w.cell?⟨bt,0,none⟩=some(.int .i64 t))(hac:w.cell?⟨ba,0,none⟩=some(.int .i64 a))(hcc:w.cell?⟨bc,0,none⟩=some(.int .i64 c))
  (hx:w.cell?⟨b,10+t*4+a,none⟩=some(.int .i64 x))(hy:w.cell?⟨b,10+t*4+c,none⟩=some(.int .i64 y))(hf:w.frozen?⟨b,10+t*4+a,none⟩=false):
  Calls Tryz.prog 151 #[.pointer(some⟨b,0,none⟩), .pointer(some⟨bf,0,none⟩), .pointer(some⟨bt,0,none⟩), .pointer(some⟨ba,0,none⟩), .pointer(some⟨bc,0,none⟩)]w
   fun e w'=>e= .returned(.bool true)/\jr w'(w.setCell⟨b,10+t*4+a,none⟩(.int .i64(wrap64(x*y)))):=by
 have h1:(0:Int)<=(t:Int):=by omega
 have h2:(t:Int)<4:=by omega
 have h3:(0:Int)<=(a:Int):=by omega
 have h4:(a:Int)<4:=by omega
 have h5:(0:Int)<=(c:Int):=by omega
 have h6:(c:Int)<4:=by omega
 go_enter Tryz.func151,Tryz.ntmps151
 go_wp2
 refine wp_region_still_tail 25(by kernel_rfl)(by kernel_rfl) ?_;simp only [List.take_succ_cons,List.take_zero,List.drop_succ_cons,List.drop_zero];iterate 20 still_step
 still_call(Fx _ _ _)
 iterate 4 still_step
 refine wpStill_nil ?_
 all_goals(go_wp2;go_ret;exact⟨rfl,rfl,rfl,rfl,rfl⟩)
end
section
open Go.RowKit
theorem ze(t a c:Nat)(ht:t<4)(hr:a<4)(hv:c<4)(b bt ba bc:Nat)(w:World)
  (htc:w.cell?⟨bt,0,none⟩=some(.int .i64 t))(_hac:w.cell?⟨ba,0,none⟩=some(.int .i64 a))(hcc:w.cell?⟨bc,0,none⟩=some(.int .i64 c))
  (hy:w.cell?⟨b,10+t*4+c,none⟩=some(.int .i64 0)):
  Calls Tryz.prog 152 #[.pointer(some⟨b,0,none⟩), .pointer(some⟨bt,0,none⟩), .pointer(some⟨bc,0,none⟩), .pointer(some⟨ba,0,none⟩)]w
   fun e w'=>e= .returned(.bool false)/\jr w' w:=by
 have h1:(0:Int)<=(t:Int):=by omega
 have h2:(t:Int)<4:=by omega
 have h3:(0:Int)<=(a:Int):=by omega
 have h4:(a:Int)<4:=by omega
 have h5:(0:Int)<=(c:Int):=by omega
 have h6:(c:Int)<4:=by omega
 go_enter Tryz.func152,Tryz.ntmps152
 go_wp2
 go_region
 all_goals(go_wp2;go_ret;exact⟨rfl,rfl,rfl,rfl,rfl⟩)
theorem xq(t a c:Nat)(ht:t<4)(hr:a<4)(hv:c<4)(x y:Int)(aa:(y==0)=false)(b bt ba bc:Nat)(w:World)
  (htc:w.cell?⟨bt,0,none⟩=some(.int .i64 t))(hac:w.cell?⟨ba,0,none⟩=some(.int .i64 a))(hcc:w.cell?⟨bc,0,none⟩=some(.int .i64 c))
  (hx:w.cell?⟨b,10+t*4+a,none⟩=some(.int .i64 x))(hy:w.cell?⟨b,10+t*4+c,none⟩=some(.int .i64 y))(hf:w.frozen?⟨b,10+t*4+a,none⟩=false):
  Calls Tryz.prog 152 #[.pointer(some⟨b,0,none⟩), .pointer(some⟨bt,0,none⟩), .pointer(some⟨bc,0,none⟩), .pointer(some⟨ba,0,none⟩)]w
   fun e w'=>e= .returned(.bool true)/\jr w'(w.setCell⟨b,10+t*4+a,none⟩(.int .i64(wrap64(x.tdiv y)))):=by
 have h1:(0:Int)<=(t:Int):=by omega
 have h2:(t:Int)<4:=by omega
 have h3:(0:Int)<=(a:Int):=by omega
 have h4:(a:Int)<4:=by omega
 have h5:(0:Int)<=(c:Int):=by omega
 have h6:(c:Int)<4:=by omega
 have h7:¬y=0:=by simpa using aa
 go_enter Tryz.func152,Tryz.ntmps152
 go_wp2
 go_region
 all_goals(go_wp2;go_region)
 all_goals(go_wp2;go_ret;exact⟨rfl,rfl,rfl,rfl,rfl⟩)
end
section
open Go.RowKit
def St.cells(s:St):Array Value:= #[.int .i64(s.vars 0), .int .i64(s.vars 1), .int .i64(s.vars 2), .int .i64(s.vars 3),
 .bool(s.held 0), .int .i64(s.own 0), .bool(s.held 1), .int .i64(s.own 1), .bool(s.held 2), .int .i64(s.own 2),
 .int .i64(s.regs 0 0), .int .i64(s.regs 0 1), .int .i64(s.regs 0 2), .int .i64(s.regs 0 3), .int .i64(s.regs 1 0), .int .i64(s.regs 1 1), .int .i64(s.regs 1 2), .int .i64(s.regs 1 3),
 .int .i64(s.regs 2 0), .int .i64(s.regs 2 1), .int .i64(s.regs 2 2), .int .i64(s.regs 2 3), .int .i64(s.regs 3 0), .int .i64(s.regs 3 1), .int .i64(s.regs 3 2), .int .i64(s.regs 3 3),
 .int .i64(s.next 0), .int .i64(s.next 1), .int .i64(s.next 2), .int .i64(s.next 3)]
def StAt(w:World)(b:Nat)(s:St):Prop:=w.heap[b]?=some(.cells s.cells 122(0,0))
theorem lt4 {t:Nat}(h:t<4):t=0\/t=1\/t=2\/t=3:=by omega
theorem lt3 {t:Nat}(h:t<3):t=0\/t=1\/t=2:=by omega
theorem StAt.cell {w:World} {b:Nat} {s:St}(h:StAt w b s)(o:Nat):w.cell?⟨b,o,none⟩=s.cells[o]?:=by
 unfold StAt at h;simp [World.cell?,h]
theorem StAt.frozen {w:World} {b:Nat} {s:St}(h:StAt w b s)(o:Nat):w.frozen?⟨b,o,none⟩=false:=by
 unfold StAt at h;simp [World.frozen?,h]
theorem StAt.var {w:World} {b:Nat} {s:St}(h:StAt w b s) {v:Nat}(hv:v<4):w.cell?⟨b,v,none⟩=some(.int .i64(s.vars v)):=by
 rw [h.cell];rcases lt4 hv with rfl | rfl | rfl | rfl<;>rfl
theorem StAt.held {w:World} {b:Nat} {s:St}(h:StAt w b s) {l:Nat}(hl:l<3):w.cell?⟨b,4+l*2,none⟩=some(.bool(s.held l)):=by
 rw [h.cell];rcases lt3 hl with rfl | rfl | rfl<;>rfl
theorem StAt.own {w:World} {b:Nat} {s:St}(h:StAt w b s) {l:Nat}(hl:l<3):w.cell?⟨b,4+l*2+1,none⟩=some(.int .i64(s.own l)):=by
 rw [h.cell];rcases lt3 hl with rfl | rfl | rfl<;>rfl
theorem StAt.reg {w:World} {b:Nat} {s:St}(h:StAt w b s) {t r:Nat}(ht:t<4)(hr:r<4):w.cell?⟨b,10+t*4+r,none⟩=some(.int .i64(s.regs t r)):=by
 rw [h.cell];rcases lt4 ht with rfl | rfl | rfl | rfl<;>rcases lt4 hr with rfl | rfl | rfl | rfl<;>rfl
theorem StAt.next {w:World} {b:Nat} {s:St}(h:StAt w b s) {t:Nat}(ht:t<4):w.cell?⟨b,26+t,none⟩=some(.int .i64(s.next t)):=by
 rw [h.cell];rcases lt4 ht with rfl | rfl | rfl | rfl<;>rfl
theorem lE(s:St) {t r:Nat}(ht:t<4)(hr:r<4)(v:Int):s.cells.setIfInBounds(10+t*4+r)(.int .i64 v)=(s.setReg t r v).cells:=by
 rcases lt4 ht with rfl | rfl | rfl | rfl<;>rcases lt4 hr with rfl | rfl | rfl | rfl<;>rfl
theorem vX(s:St) {x:Nat}(hx:x<4)(v:Int):s.cells.setIfInBounds x(.int .i64 v)=(s.setVar x v).cells:=by
 rcases lt4 hx with rfl | rfl | rfl | rfl<;>rfl
theorem pJ(s:St) {x:Nat}(hx:x<4)(v:Int):s.cells.setIfInBounds(26+x)(.int .i64 v)=(s.setNext x v).cells:=by
 rcases lt4 hx with rfl | rfl | rfl | rfl<;>rfl
theorem pI(s:St) {l:Nat}(hl:l<3)(h:Bool)(o:Int):(s.cells.setIfInBounds(4+l*2)(.bool h)).setIfInBounds(4+l*2+1)(.int .i64 o)=(s.setLock l h o).cells:=by
 rcases lt3 hl with rfl | rfl | rfl<;>rfl
theorem StAt.setCell {w:World} {b:Nat} {s s':St} {o:Nat} {v:Value}(h:StAt w b s)(e:s.cells.setIfInBounds o v=s'.cells):StAt(w.setCell⟨b,o,none⟩v)b s':=by
 unfold StAt at*;rw [heap_setCell_same w b o _ _ v h,e]
theorem StAt.setCell2 {w:World} {b:Nat} {s s':St} {o o':Nat} {v v':Value}(h:StAt w b s)(e:(s.cells.setIfInBounds o v).setIfInBounds o' v'=s'.cells):StAt((w.setCell⟨b,o,none⟩v).setCell⟨b,o',none⟩v')b s':=by
 unfold StAt at*;rw [heap_setCell_same _ b o' _ _ v'(heap_setCell_same w b o _ _ v h),e]
theorem StAt.like {w w':World} {b:Nat} {s:St}(h:StAt w b s)(hl:jr w' w):StAt w' b s:=by unfold StAt at*;rw [hl.1];exact h
theorem il(w:World)(r:Option Nat):w.grownBy w r:=⟨rfl,rfl,rfl,Nat.le_refl _,fun _ _ _=>rfl⟩
theorem jd {w w' w'':World} {r:Option Nat}(h:w.grownBy w' r)(hl:jr w'' w'):w.grownBy w'' r:=
 ⟨hl.2.1.trans h.os,hl.2.2.2.trans h.tape,hl.2.2.1.trans h.output,by rw [hl.1];exact h.size,fun k hk hr=>by rw [hl.1];exact h.block k hk hr⟩
theorem ic {w w' w'':World} {r:Option Nat}(h:w.grownBy w' r)(h':w'.grownBy w'' r):w.grownBy w'' r:=
 ⟨h'.os.trans h.os,h'.tape.trans h.tape,h'.output.trans h.output,Nat.le_trans h.size h'.size,fun k hk hr=>(h'.block k(Nat.lt_of_lt_of_le hk h.size)hr).trans(h.block k hk hr)⟩
theorem iS {w:World} {b o:Nat} {v:Value}:w.grownBy(w.setCell⟨b,o,none⟩v)(some b):=
 ⟨rfl,rfl,rfl,by simp,fun k _ hr=>Below.heap_setCell w _ v k(by simpa using hr)⟩
theorem tK {w:World} {b o o':Nat} {v v':Value}:w.grownBy((w.setCell⟨b,o,none⟩v).setCell⟨b,o',none⟩v')(some b):=ic iS iS
def Gr(w:World)(v:Value)(b:Nat)(R:Bool->World->Prop):Prop:=
 ∃ k caps,v= .func(.func k) #[]caps/\(∀ args w,(callFunc k args).run Tryz.prog w= .ok(.enter k args)w)/\
  Calls Tryz.prog k(#[.pointer(some⟨b,0,none⟩)]++caps)w fun e w'=>∃ r,e= .returned(.bool r)/\R r w'
def pt(b:Nat):Value:= .pointer(some⟨b,0,none⟩)
def ActIs(B:Nat)(w:World)(v:Value)(t:Nat)(i:Ins):Prop:=
 ∃ x y z u:Nat,x<B/\y<B/\z<B/\u<B/\
 ((i.op=1/\v= .func(.func 148) #[] #[pt x,pt y,pt z]/\w.cell?⟨x,0,none⟩=some(.int .i64 i.n)/\w.cell?⟨y,0,none⟩=some(.int .i64 t)/\w.cell?⟨z,0,none⟩=some(.int .i64 i.a))\/
  (i.op=2/\v= .func(.func 149) #[] #[pt x,pt y,pt z]/\w.cell?⟨x,0,none⟩=some(.int .i64 i.b)/\w.cell?⟨y,0,none⟩=some(.int .i64 t)/\w.cell?⟨z,0,none⟩=some(.int .i64 i.a))\/
  (i.op=3/\v= .func(.func 150) #[] #[pt x,pt y,pt z]/\w.cell?⟨x,0,none⟩=some(.int .i64 t)/\w.cell?⟨y,0,none⟩=some(.int .i64 i.b)/\w.cell?⟨z,0,none⟩=some(.int .i64 i.a))\/
  (∃ f,(i.op=4/\f=114\/i.op=5/\f=115\/i.op=6/\f=116)/\v= .func(.func 151) #[] #[pt x,pt y,pt z,pt u]/\w.cell?⟨x,0,none⟩=some(.func(.func f) #[] #[])/\w.cell?⟨y,0,none⟩=some(.int .i64 t)/\w.cell?⟨z,0,none⟩=some(.int .i64 i.a)/\w.cell?⟨u,0,none⟩=some(.int .i64 i.b))\/
  (i.op=7/\v= .func(.func 152) #[] #[pt x,pt y,pt z]/\w.cell?⟨x,0,none⟩=some(.int .i64 t)/\w.cell?⟨y,0,none⟩=some(.int .i64 i.b)/\w.cell?⟨z,0,none⟩=some(.int .i64 i.a))\/
  (i.op=8/\v= .func(.func 153) #[] #[pt x,pt y,pt z]/\w.cell?⟨x,0,none⟩=some(.int .i64 t)/\w.cell?⟨y,0,none⟩=some(.int .i64 i.a)/\w.cell?⟨z,0,none⟩=some(.int .i64 i.n))\/
  (i.op=9/\v= .func(.func 154) #[] #[pt x,pt y]/\w.cell?⟨x,0,none⟩=some(.int .i64 t)/\w.cell?⟨y,0,none⟩=some(.int .i64 i.a))\/
  (i.op=10/\v= .func(.func 155) #[] #[pt x,pt y]/\w.cell?⟨x,0,none⟩=some(.int .i64 i.a)/\w.cell?⟨y,0,none⟩=some(.bool true)/\w.cell?⟨y,1,none⟩=some(.int .i64 t))\/
  (i.op=11/\v= .func(.func 156) #[] #[pt x,pt y]/\w.cell?⟨x,0,none⟩=some(.int .i64 t)/\w.cell?⟨y,0,none⟩=some(.int .i64 i.a)))
theorem ActIs.of_block {B:Nat} {w w':World} {v:Value} {t:Nat} {i:Ins}(h:ActIs B w v t i)(hb:∀ k,k<B->w'.heap[k]?=w.heap[k]?):ActIs B w' v t i:=by
 obtain⟨x,y,z,u,hx,hy,hz,hu,h⟩:=h;have cx:∀ o,w'.cell?⟨x,o,none⟩=w.cell?⟨x,o,none⟩:=fun o=>World.cell?_of_block(hb x hx)
 have cy:∀ o,w'.cell?⟨y,o,none⟩=w.cell?⟨y,o,none⟩:=fun o=>World.cell?_of_block(hb y hy)
 have cz:∀ o,w'.cell?⟨z,o,none⟩=w.cell?⟨z,o,none⟩:=fun o=>World.cell?_of_block(hb z hz)
 have cu:∀ o,w'.cell?⟨u,o,none⟩=w.cell?⟨u,o,none⟩:=fun o=>World.cell?_of_block(hb u hu)
 exact⟨x,y,z,u,hx,hy,hz,hu,by simpa only [cx,cy,cz,cu]using h⟩
theorem ActIs.mono {B B':Nat} {w:World} {v:Value} {t:Nat} {i:Ins}(h:ActIs B w v t i)(hb:B<=B'):ActIs B' w v t i:=by
 obtain⟨x,y,z,u,hx,hy,hz,hu,h⟩:=h;exact⟨x,y,z,u,by omega,by omega,by omega,by omega,h⟩
end
section
open Go.RowKit
def Acted(b:Nat)(w:World)(t:Nat)(i:Ins)(s:St)(r:Bool)(w':World):Prop:=r=(act t i s).1/\StAt w' b(act t i s).2/\w.grownBy w'(some b)
theorem ll {w:World} {b k:Nat} {caps:Array Value} {R:Bool->World->Prop} {r:Bool} {w0:World}(hk:∀ args w,(callFunc k args).run Tryz.prog w= .ok(.enter k args)w)
  (hc:Calls Tryz.prog k(#[.pointer(some⟨b,0,none⟩)]++caps)w fun e w'=>e= .returned(.bool r)/\jr w' w0)(hR:∀ w',jr w' w0->R r w'):Gr w(.func(.func k) #[]caps)b R:=
 ⟨k,caps,rfl,hk,hc.mono fun _e w'⟨he,hl⟩=>⟨r,he,hR w' hl⟩⟩
theorem Acted.mk {b t:Nat} {w w0 w':World} {i:Ins} {s s':St} {r:Bool}(ha:act t i s=(r,s'))(hs:StAt w0 b s')(hg:w.grownBy w0(some b))(hl:jr w' w0):Acted b w t i s r w':=
 ⟨by rw [ha],by rw [ha];exact hs.like hl,jd hg hl⟩
theorem Dv {B:Nat} {w:World} {v:Value} {t:Nat} {i:Ins} {len:Int} {b:Nat} {s:St}(ht:t<4)(hi:lL i len=true)(h:ActIs B w v t i)(hs:StAt w b s):
  Gr w v b(Acted b w t i s):=by
 obtain⟨x,y,z,u,_,_,_,_,h⟩:=h;have hsay:=pf hi;rcases h with⟨e,rfl,h1,h2,h3⟩ | ⟨e,rfl,h1,h2,h3⟩ | ⟨e,rfl,h1,h2,h3⟩ | ⟨f,hf,rfl,h1,h2,h3,h4⟩ | ⟨e,rfl,h1,h2,h3⟩ | ⟨e,rfl,h1,h2,h3⟩ | ⟨e,rfl,h1,h2⟩ | ⟨e,rfl,h1,h2,h3⟩ | ⟨e,rfl,h1,h2⟩
 ·have ha:0<=i.a/\i.a<4:=by omega
  have ea:((i.a.toNat:Nat):Int)=i.a:=by omega
  rw [<-ea]at h3;have aa:i.a.toNat<4:=by omega
  exact ll Tryz.call148(DT t i.a.toNat ht aa i.n b x y z w _ h1 h2 h3(hs.reg ht aa)(hs.frozen _))
   fun w' hl=>Acted.mk(by simp [act,e])(hs.setCell(lE s ht aa _))iS hl
 ·have ha:0<=i.a/\i.a<4/\0<=i.b/\i.b<4:=by omega
  have ea:((i.a.toNat:Nat):Int)=i.a:=by omega
  have eb:((i.b.toNat:Nat):Int)=i.b:=by omega
  rw [<-ea]at h3;rw [<-eb]at h1
  have aa:i.a.toNat<4:=by omega
  have ab:i.b.toNat<4:=by omega
  exact ll Tryz.call149(Cp t i.a.toNat i.b.toNat ht aa ab _ b x y z w _ h1 h2 h3(hs.var ab)(hs.reg ht aa)(hs.frozen _))
   fun w' hl=>Acted.mk(by simp [act,e])(hs.setCell(lE s ht aa _))iS hl
 ·have ha:0<=i.a/\i.a<4/\0<=i.b/\i.b<4:=by omega
  have ea:((i.a.toNat:Nat):Int)=i.a:=by omega
  have eb:((i.b.toNat:Nat):Int)=i.b:=by omega
  rw [<-ea]at h3;rw [<-eb]at h2
  have aa:i.a.toNat<4:=by omega
  have ab:i.b.toNat<4:=by omega
  exact ll Tryz.call150(AT t i.b.toNat i.a.toNat ht ab aa _ b z x y w _ h3 h1 h2(hs.reg ht ab)(hs.var aa)(hs.frozen _))
   fun w' hl=>Acted.mk(by simp [act,e])(hs.setCell(vX s aa _))iS hl
 ·have hop:i.op=4\/i.op=5\/i.op=6:=by rcases hf with hf | hf | hf<;>simp [hf.1]
  have ha:0<=i.a/\i.a<4/\0<=i.b/\i.b<4:=by omega
  have ea:((i.a.toNat:Nat):Int)=i.a:=by omega
  have eb:((i.b.toNat:Nat):Int)=i.b:=by omega
  rw [<-ea]at h3;rw [<-eb]at h4
  have aa:i.a.toNat<4:=by omega
  have ab:i.b.toNat<4:=by omega
  rcases hf with⟨e,rfl⟩ | ⟨e,rfl⟩ | ⟨e,rfl⟩
  ·exact ll Tryz.call151(EJ t i.a.toNat i.b.toNat ht aa ab _ _ b x y z u w h1 h2 h3 h4(hs.reg ht aa)(hs.reg ht ab)(hs.frozen _))
    fun w' hl=>Acted.mk(by simp [act,e])(hs.setCell(lE s ht aa _))iS hl
  ·exact ll Tryz.call151(EM t i.a.toNat i.b.toNat ht aa ab _ _ b x y z u w h1 h2 h3 h4(hs.reg ht aa)(hs.reg ht ab)(hs.frozen _))
    fun w' hl=>Acted.mk(by simp [act,e])(hs.setCell(lE s ht aa _))iS hl
  ·exact ll Tryz.call151(D5 t i.a.toNat i.b.toNat ht aa ab _ _ b x y z u w h1 h2 h3 h4(hs.reg ht aa)(hs.reg ht ab)(hs.frozen _))
    fun w' hl=>Acted.mk(by simp [act,e])(hs.setCell(lE s ht aa _))iS hl
 ·have ha:0<=i.a/\i.a<4/\0<=i.b/\i.b<4:=by omega
  have ea:((i.a.toNat:Nat):Int)=i.a:=by omega
  have eb:((i.b.toNat:Nat):Int)=i.b:=by omega
  rw [<-ea]at h3;rw [<-eb]at h2
  have aa:i.a.toNat<4:=by omega
  have ab:i.b.toNat<4:=by omega
  by_cases h0:s.regs t i.b.toNat=0
  ·have hz:=hs.reg ht ab;rw [h0]at hz;exact ll Tryz.call152(ze t i.a.toNat i.b.toNat ht aa ab b x z y w h1 h3 h2 hz)
    fun w' hl=>Acted.mk(by simp [act,e,h0])hs(il _ _)hl
  ·exact ll Tryz.call152(xq t i.a.toNat i.b.toNat ht aa ab _ _(by simpa using h0)b x z y w h1 h3 h2(hs.reg ht aa)(hs.reg ht ab)(hs.frozen _))
    fun w' hl=>Acted.mk(by simp [act,e,h0])(hs.setCell(lE s ht aa _))iS hl
 ·have ha:0<=i.a/\i.a<4:=by omega
  have ea:((i.a.toNat:Nat):Int)=i.a:=by omega
  rw [<-ea]at h2;have aa:i.a.toNat<4:=by omega
  refine ll Tryz.call153(CO t i.a.toNat ht aa i.n _ b z x y w _ h3 h1 h2(hs.reg ht aa)(hs.next ht)(hs.frozen _))fun w' hl=> ?_
  by_cases h0:s.regs t i.a.toNat=0
  ·rw [if_pos h0]at hl;exact Acted.mk(by simp [act,e,h0])(hs.setCell(pJ s ht _))iS hl
  ·rw [if_neg h0]at hl;exact Acted.mk(by simp [act,e,h0])hs(il _ _)hl
 ·have ha:0<=i.a/\i.a<3:=by omega
  have ea:((i.a.toNat:Nat):Int)=i.a:=by omega
  rw [<-ea]at h2;have ac:i.a.toNat<3:=by omega
  exact ll Tryz.call154(Co t i.a.toNat ac b x y w _ _ h1 h2(hs.held ac)(hs.frozen _)(hs.own ac)(hs.frozen _))
   fun w' hl=>Acted.mk(by simp [act,e])(hs.setCell2(pI s ac _ _))tK hl
 ·have ha:0<=i.a/\i.a<3:=by omega
  have ea:((i.a.toNat:Nat):Int)=i.a:=by omega
  rw [<-ea]at h1;have ac:i.a.toNat<3:=by omega
  by_cases hh:s.held i.a.toNat=true
  ·have c1:=hs.held ac;rw [hh]at c1;by_cases ho:s.own i.a.toNat=t
   ·have c2:=hs.own ac;rw [ho]at c2;exact ll Tryz.call155(sq t i.a.toNat ac b y x w h2 h3 h1 c1(hs.frozen _)c2(hs.frozen _))
     fun w' hl=>Acted.mk(by simp [act,e,hh,ho])(hs.setCell2(pI s ac _ _))tK hl
   ·exact ll Tryz.call155(tT t i.a.toNat ac b y x w _ ho h2 h3 h1 c1(hs.own ac))
     fun w' hl=>Acted.mk(by simp [act,e,hh,ho])hs(il _ _)hl
  ·have hf:s.held i.a.toNat=false:=by simpa using hh
   have c1:=hs.held ac;rw [hf]at c1;exact ll Tryz.call155(rx t i.a.toNat ac b y x w _ h2 h3 h1 c1(hs.own ac))
    fun w' hl=>Acted.mk(by simp [act,e,hf])hs(il _ _)hl
 ·have ha:0<=i.a/\i.a<4:=by omega
  have ea:((i.a.toNat:Nat):Int)=i.a:=by omega
  rw [<-ea]at h2;have aa:i.a.toNat<4:=by omega
  exact ll Tryz.call156(zG t i.a.toNat ht aa _ b x y w h1 h2(hs.reg ht aa))
   fun w' hl=>Acted.mk(by simp [act,e])hs(il _ _)hl
end
section
open Go.RowKit
attribute [local go_sem] Go.World.cell?_alloc_some
theorem iH {w w':World} {r:Option Nat}(h:w'.heap=w.heap/\w'.os=w.os/\w'.output=w.output/\w'.tape=w.tape):w.grownBy w' r:=jd(il w r)h
theorem ij {w w':World} {r:Option Nat} {o:Obj}(h:w.grownBy w' r):w.grownBy(w'.alloc o)r:=
 ic h⟨rfl,rfl,rfl,by simp,fun k hk _=>Below.heap_alloc _ _ _ hk⟩
theorem ir {w w':World} {r:Option Nat}(h:w.grownBy w' r):w.grownBy w'.drew r:=jd h⟨rfl,rfl,rfl,rfl⟩
theorem lq(w:World):∀ n,jr(w.drewN n)w
 | 0=>⟨rfl,rfl,rfl,rfl⟩
 | n+1=>lq w n
theorem iU {w w':World} {r:Option Nat}(n:Nat)(h:w.grownBy w' r):w.grownBy(w'.drewN n)r:=jd h(lq w' n)
theorem qR(m g aa b t n:Nat)(ao:Option Addr)(len c:Nat)(x:Int)(w:World)(ht:t<n)(ht4:t<4)
  (hm:w.cell?⟨m,0,none⟩=some(.slice(some⟨g,0,none⟩)n aa))(hr:w.cell?⟨g,t,none⟩=some(.slice ao len c))(hx:w.cell?⟨b,26+t,none⟩=some(.int .i64 x)):
  Calls Tryz.prog 122 #[.pointer(some⟨m,0,none⟩), .pointer(some⟨b,0,none⟩), .int .i64 t]w
   fun e w'=>e= .returned(.bool(x==(len:Int)))/\jr w' w:=by
 have h1:(0:Int)<=(t:Int):=by omega
 have h2:(t:Int)<4:=by omega
 have h3:(t:Int)<n:=by omega
 go_enter Tryz.func122,Tryz.ntmps122
 go_wp2
 go_region
 all_goals(go_wp2;go_ret;exact⟨rfl,rfl,rfl,rfl,rfl⟩)
theorem tM(m g aa b t n:Nat)(ao:Option Addr)(len c:Nat)(w:World)(ht:t<n)(ab:t<4)
  (hm:w.cell?⟨m,0,none⟩=some(.slice(some⟨g,0,none⟩)n aa))(hr:w.cell?⟨g,t,none⟩=some(.slice ao len c))(hx:w.cell?⟨b,26+t,none⟩=some(.int .i64 len)):
  Calls Tryz.prog 81 #[.pointer(some⟨m,0,none⟩), .pointer(some⟨b,0,none⟩), .int .i64 t]w
   fun e w'=>e= .returned(.bool false)/\jr w' w:=by
 go_enter Tryz.func81,Tryz.ntmps81
 go_wp2_with fail
 refine(qR m g aa b t n ao len c len w ht ab hm hr hx).mono ?_;rintro e w'⟨rfl,hl⟩;simp only [beq_self_eq_true];go_wp2
 go_ret;exact⟨rfl,hl⟩
theorem sW(m g ab b t n h k:Nat)(len c:Nat)(kf:Nat)(aa:Array Value)(l:Int)(w:World)(ht:t<n)(ah:t<4)(hk:k<len)
  (hm:w.cell?⟨m,0,none⟩=some(.slice(some⟨g,0,none⟩)n ab))(hr:w.cell?⟨g,t,none⟩=some(.slice(some⟨h,0,none⟩)len c))(hx:w.cell?⟨b,26+t,none⟩=some(.int .i64 k))
  (ad:w.cell?⟨h,k*3,none⟩=some(.func(.func kf) #[]aa))(ae:w.cell?⟨h,k*3+1,none⟩=some(.bool false))(ac:w.cell?⟨h,k*3+2,none⟩=some(.int .i64 l)):
  Calls Tryz.prog 81 #[.pointer(some⟨m,0,none⟩), .pointer(some⟨b,0,none⟩), .int .i64 t]w
   fun e w'=>e= .returned(.bool true)/\w.grownBy w' none:=by
 have h1:(0:Int)<=(t:Int):=by omega
 have h2:(t:Int)<4:=by omega
 have h3:(t:Int)<n:=by omega
 have h4:(0:Int)<=(k:Int):=by omega
 have h5:(k:Int)<len:=by omega
 have aj:((k:Int)==(len:Int))=false:=by simp;omega
 go_enter Tryz.func81,Tryz.ntmps81
 go_wp2_with fail
 refine(qR m g ab b t n _ len c k w ht ah hm hr hx).mono ?_;rintro e w'⟨rfl,hl⟩;rw [aj];obtain⟨q1,q2,q3,q4⟩:=hl;have c1:∀ a,w'.cell? a=w.cell? a:=fun a=>by simp [World.cell?,q1]
 have Q1:Hid(w'.heap=w.heap/\w'.os=w.os/\w'.output=w.output/\w'.tape=w.tape):=⟨q1,q2,q3,q4⟩;have ai:w'.cell?⟨m,0,none⟩=some(.slice(some⟨g,0,none⟩)n ab):=by rw [c1];exact hm
 have ag:w'.cell?⟨g,t,none⟩=some(.slice(some⟨h,0,none⟩)len c):=by rw [c1];exact hr
 have af:w'.cell?⟨b,26+t,none⟩=some(.int .i64 k):=by rw [c1];exact hx
 have d0:w'.cell?⟨h,k*3,none⟩=some(.func(.func kf) #[]aa):=by rw [c1];exact ad
 have d1:w'.cell?⟨h,k*3+1,none⟩=some(.bool false):=by rw [c1];exact ae
 have d2:w'.cell?⟨h,k*3+2,none⟩=some(.int .i64 l):=by rw [c1];exact ac
 clear q1 q2 q3 q4 c1 hm hr hx ad ae ac;have n1:=World.new_ne w' _ ai;have n2:=World.new_ne w' _ ag;have n3:=World.new_ne w' _ af;have n4:=World.new_ne w' _ d0;simp only at n1 n2 n3 n4;have m1:=Ne.symm n1;have m2:=Ne.symm n2;have m3:=Ne.symm n3;have m4:=Ne.symm n4;go_wp2
 go_region
 go_wp2
 go_quiet(fail)
 go_wp2
 go_ret;exact⟨rfl,iU _(ir(ij(iH Q1.out)))⟩
theorem sQ(m g ab b t n h k:Nat)(len c:Nat)(kf:Nat)(aa:Array Value)(l:Nat)(hd:Bool)(hl3:l<3)(w:World)(ht:t<n)(ah:t<4)(hk:k<len)
  (hm:w.cell?⟨m,0,none⟩=some(.slice(some⟨g,0,none⟩)n ab))(hr:w.cell?⟨g,t,none⟩=some(.slice(some⟨h,0,none⟩)len c))(hx:w.cell?⟨b,26+t,none⟩=some(.int .i64 k))
  (ad:w.cell?⟨h,k*3,none⟩=some(.func(.func kf) #[]aa))(ae:w.cell?⟨h,k*3+1,none⟩=some(.bool true))(ac:w.cell?⟨h,k*3+2,none⟩=some(.int .i64 l))(hh:w.cell?⟨b,4+l*2,none⟩=some(.bool hd)):
  Calls Tryz.prog 81 #[.pointer(some⟨m,0,none⟩), .pointer(some⟨b,0,none⟩), .int .i64 t]w
   fun e w'=>e= .returned(.bool(!hd))/\w.grownBy w' none:=by
 have h1:(0:Int)<=(t:Int):=by omega
 have h2:(t:Int)<4:=by omega
 have h3:(t:Int)<n:=by omega
 have h4:(0:Int)<=(k:Int):=by omega
 have h5:(k:Int)<len:=by omega
 have aj:((k:Int)==(len:Int))=false:=by simp;omega
 go_enter Tryz.func81,Tryz.ntmps81
 go_wp2_with fail
 refine(qR m g ab b t n _ len c k w ht ah hm hr hx).mono ?_;rintro e w'⟨rfl,hl⟩;rw [aj];obtain⟨q1,q2,q3,q4⟩:=hl;have c1:∀ a,w'.cell? a=w.cell? a:=fun a=>by simp [World.cell?,q1]
 have Q1:Hid(w'.heap=w.heap/\w'.os=w.os/\w'.output=w.output/\w'.tape=w.tape):=⟨q1,q2,q3,q4⟩;have ai:w'.cell?⟨m,0,none⟩=some(.slice(some⟨g,0,none⟩)n ab):=by rw [c1];exact hm
 have ag:w'.cell?⟨g,t,none⟩=some(.slice(some⟨h,0,none⟩)len c):=by rw [c1];exact hr
 have af:w'.cell?⟨b,26+t,none⟩=some(.int .i64 k):=by rw [c1];exact hx
 have d0:w'.cell?⟨h,k*3,none⟩=some(.func(.func kf) #[]aa):=by rw [c1];exact ad
 have d1:w'.cell?⟨h,k*3+1,none⟩=some(.bool true):=by rw [c1];exact ae
 have d2:w'.cell?⟨h,k*3+2,none⟩=some(.int .i64 l):=by rw [c1];exact ac
 have d3:w'.cell?⟨b,4+l*2,none⟩=some(.bool hd):=by rw [c1];exact hh
 have h6:(0:Int)<=(l:Int):=by omega
 have h7:(l:Int)<3:=by omega
 clear q1 q2 q3 q4 c1 hm hr hx ad ae ac hh;have n1:=World.new_ne w' _ ai;have n2:=World.new_ne w' _ ag;have n3:=World.new_ne w' _ af;have n4:=World.new_ne w' _ d0;simp only at n1 n2 n3 n4;have m1:=Ne.symm n1;have m2:=Ne.symm n2;have m3:=Ne.symm n3;have m4:=Ne.symm n4;go_wp2
 go_region
 go_wp2
 go_quiet(fail)
 go_wp2
 go_ret;exact⟨rfl,iU _(ir(ij(iH Q1.out)))⟩
end
section
open Go.RowKit
attribute [local go_sem] Go.World.cell?_alloc_some
theorem C3(m g ac b t n h k:Nat)(len c:Nat)(kf:Nat)(aa:Array Value)(w:World)(R:Bool->World->Prop)(ht:t<n)(ht4:t<4)(hk:k<len)(hk16:k<16)
  (af:m≠b)(ad:g≠b)(ae:h≠b)
  (hm:w.cell?⟨m,0,none⟩=some(.slice(some⟨g,0,none⟩)n ac))(hr:w.cell?⟨g,t,none⟩=some(.slice(some⟨h,0,none⟩)len c))(hx:w.cell?⟨b,26+t,none⟩=some(.int .i64 k))(hxf:w.frozen?⟨b,26+t,none⟩=false)
  (ag:w.cell?⟨h,k*3,none⟩=some(.func(.func kf) #[]aa))
  (hent:∀ args w,(callFunc kf args).run Tryz.prog w= .ok(.enter kf args)w)
  (ab:Calls Tryz.prog kf(#[.pointer(some⟨b,0,none⟩)]++aa)(w.setCell⟨b,26+t,none⟩(.int .i64((k:Int)+1)))fun e w'=>∃ r,e= .returned(.bool r)/\R r w'):
  Calls Tryz.prog 82 #[.pointer(some⟨m,0,none⟩), .pointer(some⟨b,0,none⟩), .int .i64 t]w
   fun e w'=>∃ r,e= .returned(.bool r)/\R r w':=by
 have h1:(0:Int)<=(t:Int):=by omega
 have h2:(t:Int)<4:=by omega
 have h3:(t:Int)<n:=by omega
 have h4:(0:Int)<=(k:Int):=by omega
 have h5:(k:Int)<len:=by omega
 have h6:(k:Int)<16:=by omega
 have HC:Hid(Calls Tryz.prog kf(#[.pointer(some⟨b,0,none⟩)]++aa)(w.setCell⟨b,26+t,none⟩(.int .i64((k:Int)+1)))fun e w'=>∃ r,e= .returned(.bool r)/\R r w'):=ab;clear ab;have s1:(w.setCell⟨b,26+t,none⟩(.int .i64((k:Int)+1))).cell?⟨m,0,none⟩=some(.slice(some⟨g,0,none⟩)n ac):=by rw [World.cell?_setCell_far _ _ _ _(by simpa using Ne.symm af)];exact hm
 have s2:(w.setCell⟨b,26+t,none⟩(.int .i64((k:Int)+1))).cell?⟨g,t,none⟩=some(.slice(some⟨h,0,none⟩)len c):=by rw [World.cell?_setCell_far _ _ _ _(by simpa using Ne.symm ad)];exact hr
 have s3:(w.setCell⟨b,26+t,none⟩(.int .i64((k:Int)+1))).cell?⟨h,k*3,none⟩=some(.func(.func kf) #[]aa):=by rw [World.cell?_setCell_far _ _ _ _(by simpa using Ne.symm ae)];exact ag
 go_enter Tryz.func82,Tryz.ntmps82
 go_wp2_with fail
 go_show
 refine HC.out.mono ?_;rintro e w'⟨r,rfl,hR⟩;go_wp2
 go_ret;exact⟨r,rfl,hR⟩
end
section
open Go.RowKit
def MoveAt(B:Nat)(w:World)(h k t:Nat)(i:Ins):Prop:=
 ∃ kf caps,w.cell?⟨h,k*3,none⟩=some(.func(.func kf) #[]caps)/\ActIs B w(.func(.func kf) #[]caps)t i/\
  w.cell?⟨h,k*3+1,none⟩=some(.bool(i.op==9))/\w.cell?⟨h,k*3+2,none⟩=some(.int .i64(if i.op=9 then i.a else 0))
def RowIs(B:Nat)(w:World)(v:Value)(t:Nat)(c:List Ins):Prop:=
 (c= []/\v= .slice none 0 0)\/∃ h cap,v= .slice(some⟨h,0,none⟩)c.length cap/\h<B/\∀ k(hk:k<c.length),MoveAt B w h k t c[k]
def MachAt(B:Nat)(w:World)(m:Nat)(p:List(List Ins)):Prop:=
 ∃ g cap,m<B/\g<B/\w.cell?⟨m,0,none⟩=some(.slice(some⟨g,0,none⟩)p.length cap)/\
  ∀ t,t<p.length->∃ v,w.cell?⟨g,t,none⟩=some v/\RowIs B w v t(iL p t)
theorem MoveAt.of_block {B:Nat} {w w':World} {h k t:Nat} {i:Ins}(hh:h<B)(H:MoveAt B w h k t i)(hb:∀ k,k<B->w'.heap[k]?=w.heap[k]?):MoveAt B w' h k t i:=by
 obtain⟨kf,aa,h0,h1,h2,h3⟩:=H;have c:∀ o,w'.cell?⟨h,o,none⟩=w.cell?⟨h,o,none⟩:=fun o=>World.cell?_of_block(hb h hh)
 exact⟨kf,aa,by rw [c];exact h0,h1.of_block hb,by rw [c];exact h2,by rw [c];exact h3⟩
theorem MoveAt.mono {B B':Nat} {w:World} {h k t:Nat} {i:Ins}(H:MoveAt B w h k t i)(hb:B<=B'):MoveAt B' w h k t i:=by
 obtain⟨kf,aa,h0,h1,h2,h3⟩:=H;exact⟨kf,aa,h0,h1.mono hb,h2,h3⟩
theorem RowIs.of_block {B:Nat} {w w':World} {v:Value} {t:Nat} {c:List Ins}(H:RowIs B w v t c)(hb:∀ k,k<B->w'.heap[k]?=w.heap[k]?):RowIs B w' v t c:=by
 rcases H with H | ⟨h,cap,h1,h2,h3⟩
 ·exact Or.inl H
 ·exact Or.inr⟨h,cap,h1,h2,fun k hk=>(h3 k hk).of_block h2 hb⟩
theorem RowIs.mono {B B':Nat} {w:World} {v:Value} {t:Nat} {c:List Ins}(H:RowIs B w v t c)(hb:B<=B'):RowIs B' w v t c:=by
 rcases H with H | ⟨h,cap,h1,h2,h3⟩
 ·exact Or.inl H
 ·exact Or.inr⟨h,cap,h1,by omega,fun k hk=>(h3 k hk).mono hb⟩
theorem MachAt.of_block {B:Nat} {w w':World} {m:Nat} {p:List(List Ins)}(H:MachAt B w m p)(hb:∀ k,k<B->w'.heap[k]?=w.heap[k]?):MachAt B w' m p:=by
 obtain⟨g,aa,hm,hg,h1,h2⟩:=H;refine⟨g,aa,hm,hg,by rw [World.cell?_of_block(hb m hm)];exact h1,fun t ht=> ?_⟩;obtain⟨v,h3,h4⟩:=h2 t ht;exact⟨v,by rw [World.cell?_of_block(hb g hg)];exact h3,h4.of_block hb⟩
theorem StAt.lt {w:World} {b:Nat} {s:St}(h:StAt w b s):b<w.heap.size:=by
 unfold StAt at h;exact(Array.getElem?_eq_some_iff.1 h).1
theorem StAt.grown {w w':World} {b:Nat} {s:St}(h:StAt w b s)(hg:w.grownBy w' none):StAt w' b s:=by
 have hl:=h.lt;unfold StAt at*;rw [hg.block b hl(by simp)];exact h
theorem MachAt.grown {B b:Nat} {w w':World} {m:Nat} {p:List(List Ins)}(H:MachAt B w m p)(hB:B<=b)(hb:b<w.heap.size)(hg:w.grownBy w'(some b)):MachAt B w' m p:=
 H.of_block fun k hk=>hg.block k(by omega)(by simp;omega)
theorem MachAt.grown' {B:Nat} {w w':World} {m:Nat} {p:List(List Ins)}(H:MachAt B w m p)(hB:B<=w.heap.size)(hg:w.grownBy w' none):MachAt B w' m p:=
 H.of_block fun k hk=>hg.block k(by omega)(by simp)
theorem F0 {B m b t:Nat} {w:World} {p:List(List Ins)} {s:St}(hp:iR p=true)(hM:MachAt B w m p)(hs:StAt w b s)(ht:t<p.length):
  Calls Tryz.prog 122 #[.pointer(some⟨m,0,none⟩), .pointer(some⟨b,0,none⟩), .int .i64 t]w
   fun e w'=>e= .returned(.bool(jO p s t))/\w.grownBy w' none:=by
 obtain⟨g,ab,hm,hg,h1,h2⟩:=hM;obtain⟨v,h3,h4⟩:=h2 t ht;have aa:t<4:=by have:=(ju hp).2;omega
 have hv:∃ ao c,v= .slice ao(iL p t).length c:=by
  rcases h4 with⟨e,rfl⟩ | ⟨h,c,rfl,_⟩
  ·exact⟨none,0,by rw [e];rfl⟩
  ·exact⟨_,_,rfl⟩
 obtain⟨ao,c,rfl⟩:=hv;exact(qR m g ab b t _ ao _ c _ w ht aa h1 h3(hs.next aa)).mono fun e w'⟨he,hl⟩=>⟨he,jd(il _ _)hl⟩
theorem ye {B:Nat} {w:World} {v:Value} {t:Nat} {c:List Ins}(H:RowIs B w v t c) {k:Nat}(hk:k<c.length):
  ∃ h cap,v= .slice(some⟨h,0,none⟩)c.length cap/\h<B/\MoveAt B w h k t c[k]:=by
 rcases H with⟨e,_⟩ | ⟨h,cap,e,hh,hm⟩
 ·subst e;simp at hk
 ·exact⟨h,cap,e,hh,hm k hk⟩
theorem zN {B m b t:Nat} {w:World} {p:List(List Ins)} {s:St}(hp:iR p=true)(hM:MachAt B w m p)(hs:StAt w b s)(hI:Inv p s)(ht:t<p.length):
  Calls Tryz.prog 81 #[.pointer(some⟨m,0,none⟩), .pointer(some⟨b,0,none⟩), .int .i64 t]w
   fun e w'=>e= .returned(.bool(jB p s t))/\w.grownBy w' none:=by
 obtain⟨g,ac,hm,hg,h1,h2⟩:=hM;obtain⟨v,h3,h4⟩:=h2 t ht;have ab:t<4:=by have:=(ju hp).2;omega
 have hn:=hI t ht;by_cases hd:jO p s t=true
 ·have hv:∃ ao c,v= .slice ao(iL p t).length c:=by
   rcases h4 with⟨e,rfl⟩ | ⟨h,c,rfl,_⟩
   ·exact⟨none,0,by rw [e];rfl⟩
   ·exact⟨_,_,rfl⟩
  obtain⟨ao,c,rfl⟩:=hv;have hx:=hs.next ab;have e:s.next t=((iL p t).length:Int):=by simpa [jO]using hd
  rw [e]at hx;exact(tM m g ac b t _ ao _ c w ht ab h1 h3 hx).mono fun e w'⟨he,hl⟩=>⟨by rw [he];simp [jB,hd],jd(il _ _)hl⟩
 ·have ad:jO p s t=false:=by simpa using hd
  have hne:s.next t≠((iL p t).length:Int):=by simpa [jO]using ad
  have hk:(s.next t).toNat<(iL p t).length:=by omega
  have ek:((s.next t).toNat:Int)=s.next t:=by omega
  obtain⟨h,c,rfl,hh,kf,aa,m0,m1,m2,m3⟩:=ye h4 hk;have hx:=hs.next ab;rw [<-ek]at hx;have hv:=mh hp ht hk;have hi:jq p t(s.next t)=(iL p t)[(s.next t).toNat]:=mJ hk;rw [<-hi]at m1 m2 m3;by_cases h9:(jq p t(s.next t)).op=9
  ·have hsay:=pf hv;have ha:0<=(jq p t(s.next t)).a/\(jq p t(s.next t)).a<3:=by omega
   have ea:((jq p t(s.next t)).a.toNat:Int)=(jq p t(s.next t)).a:=by omega
   have ae:(jq p t(s.next t)).a.toNat<3:=by omega
   rw [if_pos h9,<-ea]at m3;rw [h9]at m2;exact(sQ m g ac b t _ h _ _ c kf aa _ _ ae w ht ab hk h1 h3 hx m0 m2 m3(hs.held ae)).mono fun e w'⟨he,hl⟩=>⟨by rw [he];simp [jB,ad,h9],hl⟩
  ·have e9:((jq p t(s.next t)).op==9)=false:=by simpa using h9
   rw [e9]at m2;exact(sW m g ac b t _ h _ _ c kf aa _ w ht ab hk h1 h3 hx m0 m2 m3).mono fun e w'⟨he,hl⟩=>⟨by rw [he];simp [jB,ad,h9],hl⟩
theorem Gk {B m b t:Nat} {w:World} {p:List(List Ins)} {s:St}(hp:iR p=true)(hM:MachAt B w m p)(hB:B<=b)(hs:StAt w b s)(hI:Inv p s)(ht:t<p.length)(hd:jO p s t=false):
  Calls Tryz.prog 82 #[.pointer(some⟨m,0,none⟩), .pointer(some⟨b,0,none⟩), .int .i64 t]w
   fun e w'=>∃ r,e= .returned(.bool r)/\r=(jM p s t).1/\StAt w' b(jM p s t).2/\w.grownBy w'(some b):=by
 obtain⟨g,ae,hm,hg,h1,h2⟩:=hM;obtain⟨v,h3,h4⟩:=h2 t ht;have ab:t<4:=by have:=(ju hp).2;omega
 have hn:=hI t ht;have hne:s.next t≠((iL p t).length:Int):=by simpa [jO]using hd
 have hk:(s.next t).toNat<(iL p t).length:=by omega
 have ek:((s.next t).toNat:Int)=s.next t:=by omega
 have h16:=lh(kl hp ht);obtain⟨h,c,rfl,hh,kf,ac,m0,m1,m2,m3⟩:=ye h4 hk;have hx:=hs.next ab;rw [<-ek]at hx;have hv:=mh hp ht hk;have hi:jq p t(s.next t)=(iL p t)[(s.next t).toNat]:=mJ hk;rw [<-hi]at m1;have ah:StAt(w.setCell⟨b,26+t,none⟩(.int .i64(s.next t+1)))b(s.setNext t(s.next t+1)):=hs.setCell(pJ s ab _);have af:w.grownBy(w.setCell⟨b,26+t,none⟩(.int .i64(s.next t+1)))(some b):=iS;have ag:=m1.of_block(w':=w.setCell⟨b,26+t,none⟩(.int .i64(s.next t+1)))fun k hk=>Below.heap_setCell _ _ _ _(by simp;omega)
 obtain⟨ad,aa,e1,e2,e3⟩:=Dv ab hv ag ah;have e4:ad=kf/\aa=ac:=by simp at e1;exact⟨e1.1.symm,e1.2.symm⟩
 obtain⟨rfl,rfl⟩:=e4;rw [<-ek]at e3;refine(C3 m g ae b t _ h _ _ c ad aa w(fun r w'=>r=(jM p s t).1/\StAt w' b(jM p s t).2/\w.grownBy w'(some b))ht ab hk(by omega)(by omega)(by omega)(by omega)h1 h3 hx(hs.frozen _)m0 e2(e3.mono ?_));rintro e w'⟨r,he,q1,q2,q3⟩;rw [ek]at q1 q2 q3;exact⟨r,he,q1,q2,ic af q3⟩
end
section
open Go.RowKit
def pi(p:List(List Ins))(s:St)(k:Nat):Int:=if(List.range k).all(jO p s)then 3 else 4
theorem yy(p:List(List Ins))(s:St)(k:Nat):pi p s(k+1)=if jO p s k=true then pi p s k else 4:=by
 unfold pi;rw [List.range_succ,List.all_append];by_cases h:jO p s k=true<;>simp [h]
theorem rQ {p:List(List Ins)} {s:St} {k:Nat}(hk:k<p.length)(h:jB p s k=true):jN p s=5:=by
 unfold jN;rw [if_pos];exact List.any_eq_true.2⟨k,List.mem_range.2 hk,h⟩
theorem tA {p:List(List Ins)} {s:St}(h:∀ k,k<p.length->jB p s k=false):jN p s=pi p s p.length:=by
 unfold jN pi;rw [if_neg];intro hc;obtain⟨k,hk,hr⟩:=List.any_eq_true.1 hc;rw [h k(List.mem_range.1 hk)]at hr;cases hr
theorem Dh {B m b:Nat} {w:World} {p:List(List Ins)} {s:St}(hp:iR p=true)(hM:MachAt B w m p)(hB:B<=b)(hs:StAt w b s)(hI:Inv p s):
  Calls Tryz.prog 83 #[.pointer(some⟨m,0,none⟩), .pointer(some⟨b,0,none⟩)]w
   fun e w'=>e= .returned(.int .i64(jN p s))/\w.grownBy w' none:=by
 have hb:=hs.lt;have hlen:=ju hp;have HM:Hid(MachAt B w m p):=hM;have HS:Hid(StAt w b s):=hs;have HI:Hid(Inv p s):=hI;have HP:Hid(iR p=true):=hp;obtain⟨g,cap,hm,hg,h1,h2⟩:=hM;have h3:(p.length:Int)<=4:=by omega
 clear h2 hs hI hp hm hg;go_enter Tryz.func83,Tryz.ntmps83
 go_wp2
 go_loopw [5,12](fun e i w'=>∃ k:Nat,k<=p.length/\i= .int .i64 k/\e= .int .i64(pi p s k)/\Hid(w.grownBy w' none)/\Hid(∀ j,j<k->jB p s j=false))(fun _ i _=>p.length - (intOf i).toNat)
 case atStart=>exact⟨0,Nat.zero_le _,rfl,rfl,il _ _,fun j hj=>by omega⟩
 case round=>
  obtain⟨k,hk,rfl,rfl,HG,HR⟩:=hrel;by_cases ab:k<p.length
  ·go_wp2_with fail
   refine(zN HP.out(HM.out.grown'(by omega)HG.out)(HS.out.grown HG.out)HI.out ab).mono ?_;rintro e w1⟨rfl,ac⟩;have aa:Hid(w.grownBy w1 none):=ic HG.out ac;clear ac;cases hr:jB p s k
   ·go_wp2_with fail
    refine(F0 HP.out(HM.out.grown'(by omega)aa.out)(HS.out.grown aa.out)ab).mono ?_;rintro e w2⟨rfl,af⟩;have ae:Hid(w.grownBy w2 none):=ic aa.out af;clear af;have ag:Hid(pi p s(k+1)=if jO p s k=true then pi p s k else 4):=yy p s k;have ad:Hid(∀ j,j<k+1->jB p s j=false):=fun j hj=>by
     by_cases e:j=k
     ·rw [e];exact hr
     ·exact HR.out j(by omega)
    clear hr;cases hd:jO p s k
    ·go_wp2
     go_roundw
     case rel=>exact⟨k+1,by omega,by go_num,by rw [ag.out,hd];rfl,ae,ad⟩
     case measure=>simp [intOf];omega
    ·go_wp2
     go_roundw
     case rel=>exact⟨k+1,by omega,by go_num,by rw [ag.out,hd];rfl,ae,ad⟩
     case measure=>simp [intOf];omega
   ·have HE:Hid(jN p s=5):=rQ ab hr;clear hr;go_wp2
    go_ret;exact⟨by rw [HE.out];rfl,aa⟩
  ·have e:k=p.length:=by omega
   have HE:Hid(jN p s=pi p s k):=by rw [e];exact tA(fun j hj=>HR.out j(by omega))
   clear e;go_wp2
   go_ret;exact⟨by rw [HE.out];rfl,HG⟩
end
section
open Go.RowKit
theorem re(x n:Int)(w:World):Calls Tryz.prog 80 #[.int .i64 x, .int .i64 n]w fun e w'=>e= .returned(.bool(jA x n))/\w'=w:=by
 by_cases h1:0<=x
 ·by_cases h2:x<n
  ·have HB:Hid(jA x n=true):=by unfold Hid;simp [jA,h1,h2]
   go_enter Tryz.func80,Tryz.ntmps80
   go_wp2
   go_ret;exact⟨by rw [HB.out];rfl,rfl⟩
  ·have HB:Hid(jA x n=false):=by unfold Hid;simp [jA,h1,h2]
   have h3:n<=x:=by omega
   go_enter Tryz.func80,Tryz.ntmps80
   go_wp2
   go_ret;exact⟨by rw [HB.out];rfl,rfl⟩
 ·have HB:Hid(jA x n=false):=by unfold Hid;simp [jA,h1]
  have h3:x<0:=by omega
  go_enter Tryz.func80,Tryz.ntmps80
  go_wp2
  go_ret;exact⟨by rw [HB.out];rfl,rfl⟩
def IntsAt(B:Nat)(w:World)(v:Value)(l:List Int):Prop:=
 ∃ ao cap,v= .slice ao l.length cap/\l.length<=cap/\∀ k(hk:k<l.length),∃ g o,ao=some⟨g,o,none⟩/\g<B/\w.cell?⟨g,o+k,none⟩=some(.int .i64 l[k])
def iO(acc:List(Int × Int)):List Value:=acc.flatMap fun x=> [.int .i64 x.1, .int .i64 x.2]
theorem nu(acc:List(Int × Int))(x:Int × Int):iO(acc++ [x])=iO acc++ [.int .i64 x.1, .int .i64 x.2]:=by simp [iO]
theorem iA {w w':World} {base:Nat} {e:TypeId} {aa:Nat} {v:Value} {n:Nat} {xs:List Value} {r:Option Nat}(h:w.ownsRow base e aa v n xs)(hg:w.grownBy w' r)(hr:∀ k,r=some k->k<base):w'.ownsRow base e aa v n xs:=by
 obtain⟨h1,h2⟩:=h;refine⟨h1, ?_⟩;rcases h2 with h2 | ⟨g,cap,cur,hv,hb,hh,rest⟩
 ·exact Or.inl h2
 ·have ab:g<w.heap.size:=(Array.getElem?_eq_some_iff.1 hh).1;refine Or.inr⟨g,cap,cur,hv,hb, ?_,rest⟩;rw [hg.block g ab(fun e=>by have:=hr g e.symm;omega)];exact hh
theorem iw {w:World} {base:Nat} {e:TypeId} {aa:Nat} {v:Value} {n:Nat} {xs:List Value}(h:w.ownsRow base e aa v n xs):∀ k,v.ownBlock=some k->base<=k:=by
 rcases h.2 with⟨e1,_⟩ | ⟨g,cap,cur,hv,hb,_⟩
 ·intro k hk;rw [e1]at hk;cases hk
 ·intro k hk;rw [hv]at hk;simp [Value.ownBlock]at hk;omega
theorem uF:((Tryz.prog.info? 76).map fun i=>(i.zero,i.size,i.bytes))=some(some(.agg #[.int .i64 0, .int .i64 0]),2,16):=by kernel_rfl
theorem iN {w:World} {base aa:Nat} {e:TypeId} {ab:Nat} {v:Value} {n:Nat} {xs:List Value}(h:w.ownsRow base e ab v n xs)(hb:aa<=base):w.ownsRow aa e ab v n xs:=by
 obtain⟨h1,h2⟩:=h;refine⟨h1,h2.imp id ?_⟩;rintro⟨g,ad,cur,hv,hg,ac⟩;exact⟨g,ad,cur,hv,by omega,ac⟩
theorem iC {w w':World} {r:Option Nat} {g o:Nat} {v:Value}(h:w.grownBy w' r)(hg:w.heap.size<=g):w.grownBy(w'.setCell⟨g,o,none⟩v)r:=
 ⟨h.os,h.tape,h.output,by simpa using h.size,fun k hk hr=>by rw [Below.heap_setCell _ _ _ _(by simp;omega)];exact h.block k hk hr⟩
theorem StAt.setOther {w:World} {b:Nat} {s:St} {g o:Nat} {v:Value}(h:StAt w b s)(hg:b≠g):StAt(w.setCell⟨g,o,none⟩v)b s:=by
 unfold StAt at*;rw [Below.heap_setCell _ _ _ _(by simpa using hg)];exact h
theorem pn {w w':World} {r:Option Nat} {o:Obj}(h:(w.alloc o).grownBy w' r):w.grownBy w' r:=ic(ij(il w r))h
theorem pC {w w':World} {b:Nat} {o:Obj}(h:(w.alloc o).grownBy w'(some b))(hb:b<w.heap.size):w'.heap[w.heap.size]?=some o:=by
 rw [h.block w.heap.size(by simp)(by simp;omega)];show(w.heap.push o)[w.heap.size]?=some o
 simp
theorem lX {w w':World} {r:Option Nat}(h:w.grownBy w' none):w.grownBy w' r:=⟨h.os,h.tape,h.output,h.size,fun k hk _=>h.block k hk(by simp)⟩
theorem jD {w0 w w':World} {r:Option Nat} {v:Value}(h:w0.grownBy w r)(hg:w.grownBy w' v.ownBlock)(hv:∀ k,v.ownBlock=some k->w0.heap.size<=k):w0.grownBy w' r:=
 ⟨hg.os.trans h.os,hg.tape.trans h.tape,hg.output.trans h.output,Nat.le_trans h.size hg.size,fun k hk hr=>by
  rw [hg.block k(Nat.lt_of_lt_of_le hk h.size)(fun e=>by have:=hv k e.symm;omega)];exact h.block k hk hr⟩
theorem StAt.rowGrown {w w':World} {b:Nat} {s:St} {v:Value}(h:StAt w b s)(hg:w.grownBy w' v.ownBlock)(hv:∀ k,v.ownBlock=some k->b<k):StAt w' b s:=by
 have hl:=h.lt;unfold StAt at*;rw [hg.block b hl(fun e=>by have:=hv b e.symm;omega)];exact h
theorem iG {w:World} {base:Nat} {e:TypeId} {size:Nat} {v:Value} {n:Nat} {xs:List Value} {o:Obj}(h:w.ownsRow base e size v n xs):(w.alloc o).ownsRow base e size v n xs:=
 iA h(ij(il w none))(fun _ e=>by cases e)
theorem l8 {w:World} {g:Nat} {x y z:Value} {t:TypeId}(h:w.heap[g]?=some(.cells #[x,y,z]t(0,0))):
  w.cell?⟨g,0,none⟩=some x/\w.cell?⟨g,1,none⟩=some y/\w.cell?⟨g,2,none⟩=some z/\(∀ o,w.frozen?⟨g,o,none⟩=false):=by
 simp [World.cell?,World.frozen?,h]
def Dg(w:World)(b:Nat)(o:Out)(e:Ending)(w':World):Prop:=
 ∃ sv,e= .returned(.tuple #[sv, .agg #[.int .i64 o.kind, .int .i64 o.thread, .int .i64 o.at_]])/\w'.ownsRow w.heap.size 76 2 sv o.steps.length(iO o.steps)/\
  StAt w' b o.st/\w.grownBy w'(some b)
theorem Cg {B m b:Nat} {w:World} {p:List(List Ins)} {s0:St} {v:Value} {aa:List Int}(hp:iR p=true)(hM:MachAt B w m p)(hB:B<=b)(hs:StAt w b s0)(hI:Inv p s0)
  (hv:IntsAt B w v aa)(h500:aa.length<=500):
  Calls Tryz.prog 50 #[.pointer(some⟨m,0,none⟩), .pointer(some⟨b,0,none⟩),v]w(Dg w b(ja p aa 0 s0 [])):=by
 obtain⟨i0,aD,aE,aQ,aK⟩:=info_parts uF;obtain⟨ao,cap,rfl,hcap,ah⟩:=hv;have hb:=hs.lt;have hlen:=ju hp;have HM:Hid(MachAt B w m p):=hM;have HS:Hid(StAt w b s0):=hs;have HI:Hid(Inv p s0):=hI;have HP:Hid(iR p=true):=hp;have HC:Hid(∀ k(hk:k<aa.length),∃ g o,ao=some⟨g,o,none⟩/\g<B/\w.cell?⟨g,o+k,none⟩=some(.int .i64 aa[k])):=ah;obtain⟨g,aC,hm,hg,h1,h2⟩:=hM;have h3:(p.length:Int)<=4:=by omega
 have h4:(aa.length:Int)<=500:=by omega
 clear h2 hs hI hp ah;have HI0:Hid(Tryz.prog.info? 76=some i0):=aD;have HZ0:=aE;go_enter Tryz.func50,Tryz.ntmps50
 go_wp2_with(at_make;refine wpList_make_own _ rfl _ _ _ rfl(w.heap.size+1)76 i0 _ 2 Tryz.underlying27 aD aE aQ .i64 .i64 _ aa.length rfl rfl rfl(by rw [aK];omega)(by unfold maxLen;omega)(by simp) ?_;intro w0 ag ay)
 have aF:Hid(w0.ownsRow(w.heap.size+1)76 2(.slice(some⟨w.heap.size+1,0,none⟩)0 aa.length)0 []):=by unfold Hid;simpa using ag
 have aN:Hid((w.alloc(.cells #[.int .i64 0, .int .i64 0, .int .i64 0]26)).grownBy w0(some b)):=lX ay;have aO:=(show Hid _ from ay);clear ag ay;go_loopw [8,17](fun sv i w'=>∃ (k:Nat)(s:St)(ab:List(Int × Int)),k<=aa.length/\i= .int .i64 k/\ab.length=k/\Hid(w'.ownsRow(w.heap.size+1)76 2 sv k(iO ab))/\
   Hid(StAt w' b s)/\Hid(Inv p s)/\Hid((w.alloc(.cells #[.int .i64 0, .int .i64 0, .int .i64 0]26)).grownBy w'(some b))/\
   Hid(ja p aa 0 s0 []=ja p(aa.drop k)k s ab))(fun _ i _=>aa.length - (intOf i).toNat)
 case atStart=>
  refine⟨0,s0, [],Nat.zero_le _,rfl,rfl,aF, ?_,HI,aN,rfl⟩;have hh:w0.heap[b]?=w.heap[b]?:=by rw [aO.out.block b(by simp;omega)(by simp),Below.heap_alloc _ _ _(by omega)]
  have aT:=HS.out;unfold StAt at*;unfold Hid;rw [hh];exact aT
 case round=>
  clear aF aN aO;obtain⟨k,s,ab,hk,rfl,ae,HO,ar,av,HG,HF⟩:=hrel;have ac:=pC HG.out hb;obtain⟨v0,v1,v2,vf⟩:=l8 ac;have am:=vf 0;have ak:=vf 1;have al:=vf 2;have HV:Hid(∀ o,wr.frozen?⟨w.heap.size,o,none⟩=false):=vf;clear vf ac;have aW:w.heap.size+1<=wr.heap.size:=by have:=HG.out.size;simpa using this
  have au:Hid(MachAt B wr m p):=(HM.out.grown'(by omega)(ij(il w none))).grown hB(by simp;omega)HG.out;by_cases aJ:k<aa.length
  ·obtain⟨gb,go,rfl,hgb,hc⟩:=HC.out k aJ;have aY:wr.cell?⟨gb,go+k,none⟩=some(.int .i64 aa[k]):=by
    rw [HG.out.cell_far _(by simp;omega)(by simp;omega),World.cell?_alloc_lt _ _ _(by simp;omega)];exact hc
   clear hc;have HD:Hid(aa.drop k=aa[k]::aa.drop(k+1)):=List.drop_eq_getElem_cons aJ;generalize aa[k]=t at*;have aZ:wr.cell?⟨m,0,none⟩=some(.slice(some⟨g,0,none⟩)p.length aC):=by
    rw [HG.out.cell_far _(by simp;omega)(by simp;omega),World.cell?_alloc_lt _ _ _(by simp;omega)];exact h1
   have hk0:(0:Int)<=(k:Int):=by omega
   have hk1:(k:Int)<aa.length:=by omega
   have hk2:(k:Int)<500:=by omega
   go_wp2_with fail
   refine(re t p.length wr).mono ?_;rintro e w1⟨rfl,rfl⟩;cases hbl:jA t p.length
   ·have HW:Hid(ja p aa 0 s0 []=⟨ab,2,0,k,s⟩):=by
     unfold Hid;rw [HF.out,HD.out];exact ku _ _ _ _ _ _(by simp [nh,hbl])
    clear hbl;go_wp2
    rw [HW.out];exact bodyPost_ret(v:= .tuple #[u8, .agg #[.int .i64 2, .int .i64 0, .int .i64 k]])(by simp [results,Tryz.results50,go_sem,v0,v1,v2])rfl
     ⟨u8,rfl,by rw [ae];exact iN(ownsRow_setCell_below(ownsRow_setCell_below(ownsRow_setCell_below HO.out(by simp)_)(by simp)_)(by simp)_)(by omega),((ar.out.setOther(by omega)).setOther(by omega)).setOther(by omega),iC(iC(iC(pn HG.out)(by omega))(by omega))(by omega)⟩
   ·have ht:0<=t/\t<p.length:=by simpa [jA]using hbl
    obtain⟨t',rfl⟩:=Int.eq_ofNat_of_zero_le ht.1;have aB:t'<p.length:=by omega
    have HT:Hid(jA(t':Int)p.length=true):=hbl;clear hbl ht;go_wp2_with fail
    refine(zN HP.out au.out ar.out av.out aB).mono ?_;rintro e w1⟨rfl,af⟩;have ai:Hid((w.alloc(.cells #[.int .i64 0, .int .i64 0, .int .i64 0]26)).grownBy w1(some b)):=ic HG.out(lX af);have ap:Hid(w1.ownsRow(w.heap.size+1)76 2 u8 k(iO ab)):=iA HO.out af(fun _ e=>by cases e);have aq:Hid(StAt w1 b s):=ar.out.grown af;have aU:Hid(MachAt B w1 m p):=au.out.grown'(by omega)af;have hsz1:w.heap.size+1<=w1.heap.size:=by have:=ai.out.size;simpa using this
    clear v0 v1 v2 am ak al HV aY aZ af au ar HO HG aW;have ac:=pC ai.out hb;obtain⟨v0,v1,v2,vf⟩:=l8 ac;have am:=vf 0;have ak:=vf 1;have al:=vf 2;clear vf ac;cases hrd:jB p s t'
    ·have HW:Hid(ja p aa 0 s0 []=⟨ab,2,0,k,s⟩):=by
      unfold Hid;rw [HF.out,HD.out];exact ku _ _ _ _ _ _(by simp [nh,hrd])
     clear hrd;go_wp2
     rw [HW.out];exact bodyPost_ret(v:= .tuple #[u8, .agg #[.int .i64 2, .int .i64 0, .int .i64 k]])(by simp [results,Tryz.results50,go_sem,v0,v1,v2])rfl
      ⟨u8,rfl,by rw [ae];exact iN(ownsRow_setCell_below(ownsRow_setCell_below(ownsRow_setCell_below ap.out(by simp)_)(by simp)_)(by simp)_)(by omega),((aq.out.setOther(by omega)).setOther(by omega)).setOther(by omega),iC(iC(iC(pn ai.out)(by omega))(by omega))(by omega)⟩
    ·have HK:Hid(nh p s t'=true):=by unfold Hid;simp [nh,hrd,HT.out]
     have aM:Hid(jO p s t'=false):=by
      unfold Hid;cases hd:jO p s t' with
      | false=>rfl
      | true=>simp [jB,hd]at hrd
     clear hrd;have a1:t'<4:=by omega
     have a0:=aq.out.next a1;have ht0:(0:Int)<=(t':Int):=by omega
     have ht1:(t':Int)<4:=by omega
     have a2:k+1<=maxLen:=by unfold maxLen;omega
     have aS:(k+1)*16<=140737488355328:=by omega
     go_wp2_with(at_builtin;refine wpList_append_lies _ rfl _ _ _ rfl(w.heap.size+1)76 i0 _ 2 16 Tryz.underlying27 aD aE aQ aK rfl(by omega)u8 k(iO ab)rfl(iG ap.out)⟨w1.heap.size,0,none⟩1 1 [.int .i64 t', .int .i64(s.next t')]rfl rfl(World.news_of_block(cs:= #[.int .i64 t', .int .i64(s.next t')])(t:=76)(fr:=(0,0))(heap_alloc_new w1 _))(by simp [Value.oneCell'])(by omega)a2 aS(by simp;omega)(w1.heap.size+1)(by simp) ?_;intro g2 an w2 aj ad aV hlt2)
     have aA:=iw ap.out;have az:Hid((w.alloc(.cells #[.int .i64 0, .int .i64 0, .int .i64 0]26)).grownBy w2(some b)):=jD(ij ai.out)ad(fun k e=>by have:=aA k e;simp;omega);have aG:Hid(StAt w2 b s):=StAt.rowGrown(aq.out.grown(ij(il _ _)))ad(fun k e=>by have:=aA k e;omega);have aR:Hid(MachAt B w2 m p):=(HM.out.grown'(by omega)(ij(il w none))).grown hB(by simp;omega)az.out;have aH:Hid(w2.ownsRow(w.heap.size+1)76 2(.slice(some⟨g2,0,none⟩)(k+1)an)(k+1)(iO(ab++ [((t':Int),s.next t')]))):=by
      unfold Hid;rw [nu];exact aj
     clear v0 v1 v2 am ak al aA ad aV aj aq aU ap ai a0;refine(Gk HP.out aR.out hB aG.out av.out aB aM.out).mono ?_;rintro e w3⟨r,rfl,hr,aL,aw⟩;have ax:Hid((w.alloc(.cells #[.int .i64 0, .int .i64 0, .int .i64 0]26)).grownBy w3(some b)):=ic az.out aw;have aI:Hid(w3.ownsRow(w.heap.size+1)76 2(.slice(some⟨g2,0,none⟩)(k+1)an)(k+1)(iO(ab++ [((t':Int),s.next t')]))):=iA aH.out aw(fun k e=>by cases e;omega);have aP:Hid(StAt w3 b(jM p s t').2):=aL;have aX:Hid(Inv p(jM p s t').2):=Inv.step HP.out av.out aB aM.out;have HR:Hid(r=(jM p s t').1):=hr;clear hr aL aw aH aR aG az;have ac:=pC ax.out hb;obtain⟨v0,v1,v2,vf⟩:=l8 ac;have am:=vf 0;have ak:=vf 1;have al:=vf 2;clear vf ac;cases r
     ·have HW:Hid(ja p aa 0 s0 []=⟨ab++ [((t':Int),s.next t')],1,t',s.next t',(jM p s t').2⟩):=by
       unfold Hid;rw [HF.out,HD.out,mT p t' _ _ s ab HK.out(by simpa using HR.out.symm)];rfl
      go_wp2
      rw [HW.out];exact bodyPost_ret(v:= .tuple #[.slice(some⟨g2,0,none⟩)(k+1)an, .agg #[.int .i64 1, .int .i64 t', .int .i64(s.next t')]])(by simp [results,Tryz.results50,go_sem,v0,v1,v2])rfl
       ⟨_,rfl,by
        have e:(ab++ [((t':Int),s.next t')]).length=k+1:=by simp [ae]
        simp only [e];exact iN(ownsRow_setCell_below(ownsRow_setCell_below(ownsRow_setCell_below aI.out(by simp)_)(by simp)_)(by simp)_)(by omega),((aP.out.setOther(by omega)).setOther(by omega)).setOther(by omega),iC(iC(iC(pn ax.out)(by omega))(by omega))(by omega)⟩
     ·have HW:Hid(ja p aa 0 s0 []=ja p(aa.drop(k+1))((k+1:Nat):Int)(jM p s t').2(ab++ [((t':Int),s.next t')])):=by
       unfold Hid;rw [HF.out,HD.out,oe p t' _ _ s ab HK.out(by simpa using HR.out.symm)];rfl
      clear v0 v1 v2 am ak al;go_wp2
      go_roundw
      case rel=>exact⟨k+1,(jM p s t').2,ab++ [((t':Int),s.next t')],by omega,by go_num,by simp [ae],aI,aP,aX,ax,HW⟩
      case measure=>simp [intOf];omega
  ·have HW:Hid(ja p aa 0 s0 []=⟨ab,jN p s,0,0,s⟩):=by
    unfold Hid;rw [HF.out,List.drop_of_length_le(by omega)];rfl
   go_wp2_with fail
   refine(Dh HP.out au.out hB ar.out av.out).mono ?_;rintro e w1⟨rfl,af⟩;have ai:Hid((w.alloc(.cells #[.int .i64 0, .int .i64 0, .int .i64 0]26)).grownBy w1(some b)):=ic HG.out(lX af);have ap:Hid(w1.ownsRow(w.heap.size+1)76 2 u8 k(iO ab)):=iA HO.out af(fun _ e=>by cases e);have aq:Hid(StAt w1 b s):=ar.out.grown af;clear v0 v1 v2 am ak al HV af;have ac:=pC ai.out hb;obtain⟨v0,v1,v2,vf⟩:=l8 ac;have am:=vf 0;have ak:=vf 1;have al:=vf 2;clear vf ac;go_wp2
   rw [HW.out];exact bodyPost_ret(v:= .tuple #[u8, .agg #[.int .i64(jN p s), .int .i64 0, .int .i64 0]])(by simp [results,Tryz.results50,go_sem,v0,v1,v2])rfl
    ⟨u8,rfl,by rw [ae];exact iN(ownsRow_setCell_below(ownsRow_setCell_below(ownsRow_setCell_below ap.out(by simp)_)(by simp)_)(by simp)_)(by omega),((aq.out.setOther(by omega)).setOther(by omega)).setOther(by omega),iC(iC(iC(pn ai.out)(by omega))(by omega))(by omega)⟩
end
section
open Go.RowKit
attribute [local go_sem] Go.World.cell?_alloc_some
theorem hZ {p:Prop}(h:p):Hid p:=h
theorem nC {p:Prop}(h:Hid p):p:=h
section
variable {P : Program}
theorem um(w:World)(dT sT ty ab:TypeId)(g aa af:Nat)(a:Addr)(ac ad sz:Nat)(cur:Array Value)(t:TypeId)(cs:List Value)
  (hu:P.underlying dT=some(.slice ab))(hs:(P.info? ab).map(·.size)=some sz)
  (hg:w.heap[g]?=some(.cells cur t(0,0)))(hn:cs.length=Nat.min ac aa*sz)
  (ae:∀ j v,cs[j]?=some v->w.cell?(a.add j)=some v)(hfit:cs.length=cur.size)(h1:∀ v∈cs,v.oneCell'=true):
  (Builtin.copy_ #[dT,sT]ty #[.slice(some⟨g,0,none⟩)aa af, .slice(some a)ac ad]).run P w=
   .ok(goInt(Nat.min ac aa))(w.setRow g cs.toArray):=by
 have hl:=run_loadCells_list(P:=P)w a cs ae;have ag:=run_storeCells_at P g 0 t cs 0 cur w hg(by omega)h1;have e:(cur.toList.take(0+0)++cs++cur.toList.drop(0+0+cs.length))=cs:=by
  have:cur.toList.drop(0+0+cs.length)= []:=List.drop_of_length_le(by simp;omega);rw [this];simp
 rw [e]at ag;cases hq:P.info? ab with
 | none=>simp [hq]at hs
 | some i=>
  have hi:i.size=sz:=by simpa [hq]using hs
  simp [Builtin.copy_,run_underlying hu,Builtin.lenOf,Builtin.firstCells,sizeOf,typeInfo,hq,hi,<-hn,hl,ag]
end
def jm(n:Nat)(s:St):List Value:=(List.range n).flatMap fun t=> [.int .i64(s.regs t 0), .int .i64(s.regs t 1), .int .i64(s.regs t 2), .int .i64(s.regs t 3)]
theorem kq(n:Nat)(s:St):(jm n s).length=n*4:=by
 induction n with
 | zero=>rfl
 | succ n ih=>unfold jm at*;rw [List.range_succ,List.flatMap_append,List.length_append,ih];simp;omega
theorem wK {w:World} {b:Nat} {s:St}(hs:StAt w b s) {n:Nat}(hn:n<=4):∀ j v,(jm n s)[j]?=some v->w.cell?((⟨b,10,none⟩:Addr).add j)=some v:=by
 intro j v hj;have aa:(⟨b,10,none⟩:Addr).add j=⟨b,10+j,none⟩:=by unfold Addr.add;split<;>simp_all
 have ab:j<n*4:=by
  have:=(List.getElem?_eq_some_iff.1 hj).1;rw [kq]at this;exact this
 rw [aa,hs.cell];have hc:n=0\/n=1\/n=2\/n=3\/n=4:=by omega
 have e:(jm 4 s)[j]?=some v:=by
  have h4:∃ l,jm 4 s=jm n s++l:=by
   rcases hc with rfl | rfl | rfl | rfl | rfl
   ·exact⟨_,rfl⟩
   ·exact⟨_,rfl⟩
   ·exact⟨_,rfl⟩
   ·exact⟨_,rfl⟩
   ·exact⟨[],by simp⟩
  obtain⟨l,e⟩:=h4;rw [e,List.getElem?_append_left(by rw [kq];exact ab)];exact hj
 have h16:j<16:=by omega
 have hd:s.cells[10+j]?=(jm 4 s)[j]?:=by
  have:s.cells.toList.drop 10=jm 4 s++ [.int .i64(s.next 0), .int .i64(s.next 1), .int .i64(s.next 2), .int .i64(s.next 3)]:=rfl;have h2:(s.cells.toList.drop 10)[j]?=(jm 4 s)[j]?:=by
   rw [this,List.getElem?_append_left(by rw [kq];omega)]
  rw [<-h2,List.getElem?_drop];simp
 rw [hd];exact e
theorem AF(n:Nat)(s:St):∀ v∈jm n s,v.oneCell'=true:=by
 intro v hv;unfold jm at hv;simp only [List.mem_flatMap,List.mem_cons,List.not_mem_nil,or_false]at hv;obtain⟨t,_,h⟩:=hv;rcases h with rfl | rfl | rfl | rfl<;>rfl
theorem te {w:World} {base:Nat} {e:TypeId} {aa:Nat} {g n ab:Nat} {xs:List Value}(h:w.ownsRow base e aa(.slice(some⟨g,0,none⟩)n ab)n xs):
  ∃ cur,w.heap[g]?=some(.cells cur e(0,0))/\cur.size=ab*aa:=by
 rcases h.2 with⟨e1,_⟩ | ⟨g',cap',cur,hv,hb,hh,_,_,hs,_⟩
 ·cases e1
 ·simp at hv;obtain⟨rfl,rfl⟩:=hv;exact⟨cur,hh,hs⟩
theorem kA {w:World} {g:Nat} {x0 x1 x2 x3 x4 x5 x6 x7 x8:Value} {t:TypeId}(h:w.heap[g]?=some(.cells #[x0,x1,x2,x3,x4,x5,x6,x7,x8]t(0,0))):
  w.cell?⟨g,0,none⟩=some x0/\w.cell?⟨g,1,none⟩=some x1/\w.cell?⟨g,2,none⟩=some x2/\w.cell?⟨g,3,none⟩=some x3/\w.cell?⟨g,4,none⟩=some x4/\w.cell?⟨g,5,none⟩=some x5/\w.cell?⟨g,6,none⟩=some x6/\w.cell?⟨g,7,none⟩=some x7/\w.cell?⟨g,8,none⟩=some x8/\(∀ o,w.frozen?⟨g,o,none⟩=false):=by
 simp [World.cell?,World.frozen?,h]
theorem qV(w:World)(g k:Nat)(cs:Array Value)(h:k≠g):(w.setRow g cs).heap[k]?=w.heap[k]?:=by
 simp only [World.setRow,Array.getElem?_modify];rw [if_neg(by omega)]
theorem iq {w:World} {base:Nat} {e:TypeId} {aa:Nat} {v:Value} {n:Nat} {xs:List Value}(h:w.ownsRow base e aa v n xs):∃ ao n c,v= .slice ao n c:=by
 rcases h.2 with⟨e1,_⟩ | ⟨g',cap',cur,hv,_⟩
 ·exact⟨_,_,_,e1⟩
 ·exact⟨_,_,_,hv⟩
def Dw(base:Nat)(w:World)(o:Out)(n:Nat)(rv:Value):Prop:=
 ∃ sv gv,rv= .agg #[.int .i64 o.kind, .int .i64 o.thread, .int .i64 o.at_,sv, .int .i64(o.st.vars 0), .int .i64(o.st.vars 1), .int .i64(o.st.vars 2), .int .i64(o.st.vars 3),gv]/\
  w.ownsRow base 76 2 sv o.steps.length(iO o.steps)/\w.ownsRow base 28 4 gv n(jm n o.st)
theorem xS:((Tryz.prog.info? 28).map fun i=>(i.zero,i.size,i.bytes))=some(some(.agg #[.int .i64 0, .int .i64 0, .int .i64 0, .int .i64 0]),4,32):=by kernel_rfl
theorem uY {B m:Nat} {w:World} {p:List(List Ins)} {v:Value} {ab:List Int}(hp:iR p=true)(hM:MachAt B w m p)(hB:B<=w.heap.size)
  (hv:IntsAt B w v ab)(ah:ab.length<=500):
  Calls Tryz.prog 17 #[.pointer(some⟨m,0,none⟩),v]w fun e w'=>∃ rv,e= .returned rv/\Dw w.heap.size w'(iF p ab)p.length rv/\w.grownBy w' none:=by
 obtain⟨i0,au,aJ,aw,aF⟩:=info_parts xS;have hlen:=ju hp;have HM:Hid(MachAt B w m p):=hM;have HV:Hid(IntsAt B w v ab):=hv;have HP:Hid(iR p=true):=hp;clear hM hv hp;go_enter Tryz.func17,Tryz.ntmps17
 go_wp2_with fail
 generalize am:Obj.cells #[Value.int IntKind.i64 0,Value.int IntKind.i64 0,Value.int IntKind.i64 0,Value.slice none 0 0,Value.int IntKind.i64 0,Value.int IntKind.i64 0,Value.int IntKind.i64 0,Value.int IntKind.i64 0,Value.slice none 0 0]31=R9;have ax:=hZ am;clear am;have HZ:Hid(StAt((w.alloc R9).alloc(.cells St.zero.cells 122))(w.heap.size+1)St.zero):=by
  unfold Hid StAt;have:=heap_alloc_new(w.alloc R9)(.cells St.zero.cells 122);simpa using this
 have HB:Hid(w.grownBy((w.alloc R9).alloc(.cells St.zero.cells 122))none):=ij(ij(il _ _));have aB:Hid(IntsAt B((w.alloc R9).alloc(.cells St.zero.cells 122))v ab):=by
  obtain⟨ao,az,e,h1,h2⟩:=HV.out;refine⟨ao,az,e,h1,fun k hk=> ?_⟩;obtain⟨g,o,e1,e2,e3⟩:=h2 k hk;exact⟨g,o,e1,e2,by rw [HB.out.cell_far _(by simp;omega)(by simp)];exact e3⟩
 have HF:=hZ(Cg HP.out(HM.out.grown' hB HB.out)(by omega:B<=w.heap.size+1)HZ.out(Inv.zero p)aB.out ah);refine(nC HF).mono ?_;rintro e w1⟨sv,rfl,ho,hs,hg⟩;have HO:Hid(w1.ownsRow(w.heap.size+2)76 2 sv(iF p ab).steps.length(iO(iF p ab).steps)):=by
  have e:((w.alloc R9).alloc(.cells St.zero.cells 122)).heap.size=w.heap.size+2:=by simp
  rw [e]at ho;exact ho
 have HS:Hid(StAt w1(w.heap.size+1)(iF p ab).st):=hs;have HG:Hid(((w.alloc R9).alloc(.cells St.zero.cells 122)).grownBy w1(some(w.heap.size+1))):=hg;have hsz:w.heap.size+2<=w1.heap.size:=by have:=hg.size;simpa using this
 have aq:Hid(w.grownBy w1 none):=by
  refine⟨hg.os,hg.tape,hg.output,by omega,fun k hk _=> ?_⟩;rw [hg.block k(by simp;omega)(by simp;omega)];exact HB.out.block k hk(by simp)
 obtain⟨aD,aI,aK,rfl⟩:=iq ho;have ay:Hid(MachAt B w1 m p):=HM.out.grown' hB aq.out;clear ho hs hg HF;generalize hO:iF p ab=o at*;have av:ja p ab 0 St.zero []=o:=hO;rw [av];clear av;have aE:=hZ hO;clear hO;obtain⟨mg,mcap,hm1,hm2,aH,aA⟩:=ay.out;clear aA;have hn4:(p.length:Int)<=4:=by omega
 have an:Hid(StAt(w1.alloc(.cells #[.int .i64 o.kind, .int .i64 o.thread, .int .i64 o.at_]26))(w.heap.size+1)o.st):=HS.out.grown(ij(il _ _));go_wp2_with(at_make;refine wpList_make_full _ rfl _ _ _ rfl(w.heap.size+2)28 i0 _ 4 Tryz.underlying29 au aJ aw .i64 .i64 _ _ p.length rfl rfl rfl rfl(by rw [aF];omega)(by unfold maxLen;omega)(by simp;omega) ?_;intro w2 aa ak;simp only [World.size_alloc]at aa;obtain⟨cur,ac,ai⟩:=te aa)
 rw [um w2 29 29 3 28(w1.heap.size+1)p.length p.length⟨w.heap.size+1,10,none⟩4 4 4 cur 28(jm p.length o.st)Tryz.underlying29(by rw [au];simp [aw])ac(by rw [kq];show p.length*4=min 4 p.length*4;omega)(wK(an.out.grown ak)(by omega))(by rw [kq,ai])(AF _ _)];have ag:Hid((w1.alloc(.cells #[.int .i64 o.kind, .int .i64 o.thread, .int .i64 o.at_]26)).grownBy w2 none):=ak;have aG:Hid(w2.heap[w1.heap.size+1]?=some(.cells cur 28(0,0))):=ac;clear ak aa ac;generalize ar:w2.setRow(w1.heap.size+1)(jm p.length o.st).toArray=w3;have af:=hZ ar;clear ar;have ae:∀ k,k<w1.heap.size+1->w3.heap[k]?=(w1.alloc(.cells #[.int .i64 o.kind, .int .i64 o.thread, .int .i64 o.at_]26)).heap[k]?:=fun k hk=>by
  rw [<-af.out,qV _ _ _ _(by omega),ag.out.block k(by simp;omega)(by simp)]
 have HB3:=hZ ae;have ap:w3.heap[w1.heap.size]?=some(.cells #[.int .i64 o.kind, .int .i64 o.thread, .int .i64 o.at_]26(0,0)):=by rw [ae _(by omega)];exact heap_alloc_new w1 _
 have ad:StAt w3(w.heap.size+1)o.st:=by
  unfold StAt;rw [ae _(by omega)];exact an.out
 have aj:w3.heap[w.heap.size]?=some R9:=by
  rw [ae _(by omega),Below.heap_alloc _ _ _(by omega),HG.out.block _(by simp;omega)(by simp)];rw [Below.heap_alloc _ _ _(by simp)];exact heap_alloc_new w R9
 obtain⟨q0,q1,q2,_⟩:=l8 ap;have s0:=ad.var(v:=0)(by omega);have s1:=ad.var(v:=1)(by omega);have s2:=ad.var(v:=2)(by omega);have s3:=ad.var(v:=3)(by omega);have HST:=hZ ad;rw [<-ax.out]at aj;obtain⟨r0,r1,r2,r3,r4,r5,r6,r7,r8,rf⟩:=kA aj;have f0:=rf 0;have f1:=rf 1;have f2:=rf 2;have f3:=rf 3;have f4:=rf 4;have f5:=rf 5;have f6:=rf 6;have f7:=rf 7;have f8:=rf 8;have al:Hid(w1.grownBy w3 none):=by
  refine⟨?_, ?_, ?_, ?_,fun k hk _=>by rw [ae k(by omega),Below.heap_alloc _ _ _ hk]⟩
  ·rw [<-af.out];exact ag.out.os
  ·rw [<-af.out];exact ag.out.tape
  ·rw [<-af.out];exact ag.out.output
  ·rw [<-af.out];have:=ag.out.size;simp at this ⊢;omega
 have aC:Hid(w3.ownsRow(w.heap.size+2)28 4(.slice(some⟨w1.heap.size+1,0,none⟩)p.length p.length)p.length(jm p.length o.st)):=by
  refine⟨kq _ _,Or.inr⟨w1.heap.size+1,p.length,(jm p.length o.st).toArray,rfl,by omega, ?_,Nat.le_refl _,by unfold maxLen;omega,by simp [kq], ?_⟩⟩
  ·rw [<-af.out];exact setRow_heap _ _ _ _ _ _ aG.out
  ·rw [List.take_of_length_le(by simp [kq])]
 clear rf aj ap ad ae aH;go_wp2
 rw [aE.out];refine bodyPost_ret(v:= .agg #[.int .i64 o.kind, .int .i64 o.thread, .int .i64 o.at_, .slice aD aI aK, .int .i64(o.st.vars 0), .int .i64(o.st.vars 1), .int .i64(o.st.vars 2), .int .i64(o.st.vars 3), .slice(some⟨w1.heap.size+1,0,none⟩)p.length p.length]) ?_ rfl⟨_,rfl,⟨_,_,rfl, ?_, ?_⟩, ?_⟩
 ·simp [results,Tryz.results17,go_sem,r0,r1,r2,r3,r4,r5,r6,r7,r8]
 ·refine iN(base:=w.heap.size+2) ?_(by omega);iterate 9 refine ownsRow_setCell_below ?_(by simp)_
  exact iA HO.out al.out(fun _ e=>by cases e)
 ·refine iN(base:=w.heap.size+2) ?_(by omega);iterate 9 refine ownsRow_setCell_below ?_(by simp)_
  exact aC.out
 ·iterate 9 refine iC ?_(by omega)
  exact ic aq.out al.out
end
section
open Go.RowKit
attribute [local go_sem] Go.World.cell?_alloc_some
theorem zD(k x len:Int)(h0:0<=len)(h16:len<=16)(w:World):Calls Tryz.prog 157 #[.int .i64 k, .int .i64 x, .int .i64 len]w fun e w'=>e= .returned(.bool(mw k x len))/\w'=w:=by
 by_cases e1:k=1
 ·subst e1;go_enter Tryz.func157,Tryz.ntmps157
  go_wp2_with(go_at_call 80;refine(re _ _ _).mono ?_;rintro e w'⟨rfl,rfl⟩)
  go_ret;exact⟨rfl,rfl⟩
 by_cases e2:k=2
 ·subst e2;go_enter Tryz.func157,Tryz.ntmps157
  go_wp2_with(go_at_call 80;refine(re _ _ _).mono ?_;rintro e w'⟨rfl,rfl⟩)
  go_ret;exact⟨rfl,rfl⟩
 by_cases e3:k=3
 ·subst e3;go_enter Tryz.func157,Tryz.ntmps157
  go_wp2_with(go_at_call 80;refine(re _ _ _).mono ?_;rintro e w'⟨rfl,rfl⟩)
  go_ret;exact⟨rfl,rfl⟩
 by_cases e4:k=4
 ·subst e4;go_enter Tryz.func157,Tryz.ntmps157
  go_wp2_with(go_at_call 80;refine(re _ _ _).mono ?_;rintro e w'⟨rfl,rfl⟩)
  go_ret;exact⟨rfl,rfl⟩
 by_cases e5:k=5
 ·subst e5;go_enter Tryz.func157,Tryz.ntmps157
  go_wp2_with fail
  go_ret;exact⟨rfl,rfl⟩
 have HB:Hid(mw k x len=(x==0)):=by unfold Hid;simp [mw,e1,e2,e3,e4,e5]
 have f1:(k==1)=false:=by simpa using e1
 have f2:(k==2)=false:=by simpa using e2
 have f3:(k==3)=false:=by simpa using e3
 have f4:(k==4)=false:=by simpa using e4
 have f5:(k==5)=false:=by simpa using e5
 go_enter Tryz.func157,Tryz.ntmps157
 go_wp2_with fail
 go_ret;exact⟨by rw [HB.out];rfl,rfl⟩
def ShpAt(w:World):Prop:=∀ o j,o<12->j<3->w.cell?⟨0,o*3+j,none⟩=some(.int .i64(shp o j))
theorem yU(i:Ins)(len:Int)(h0:0<=len)(aa:len<=16)(w:World)(hS:ShpAt w):
  Calls Tryz.prog 123 #[.agg #[.int .i64 i.op, .int .i64 i.a, .int .i64 i.b, .int .i64 i.n], .int .i64 len]w fun e w'=>e= .returned(.bool(lL i len))/\w.grownBy w' none:=by
 have ab:Hid(ShpAt w):=hS;clear hS;by_cases h1:1<=i.op
 ·by_cases h2:i.op<=11
  ·have eo:((i.op.toNat:Nat):Int)=i.op:=by omega
   have c0:=ab.out i.op.toNat 0(by omega)(by omega);have c1:=ab.out i.op.toNat 1(by omega)(by omega);have c2:=ab.out i.op.toNat 2(by omega)(by omega);simp only [Nat.add_zero]at c0;have HV:Hid(lL i len=(mw(shp i.op.toNat 0)i.a len &&(mw(shp i.op.toNat 1)i.b len && mw(shp i.op.toNat 2)i.n len))):=by unfold Hid;simp [lL,h1,h2]
   generalize shp i.op.toNat 0=k0 at*;generalize shp i.op.toNat 1=k1 at*;generalize shp i.op.toNat 2=k2 at*;go_enter Tryz.func123,Tryz.ntmps123
   go_wp2_with fail
   refine(zD _ _ _ h0 aa _).mono ?_;rintro e w'⟨rfl,rfl⟩;cases hf0:mw k0 i.a len
   ·go_wp2_with fail
    go_ret;exact⟨by rw [HV.out,hf0];rfl,ij(ij(il _ _))⟩
   ·go_wp2_with fail
    refine(zD _ _ _ h0 aa _).mono ?_;rintro e w'⟨rfl,rfl⟩;cases hf1:mw k1 i.b len
    ·go_wp2_with fail
     go_ret;exact⟨by rw [HV.out,hf0,hf1];rfl,ij(ij(il _ _))⟩
    ·go_wp2_with fail
     refine(zD _ _ _ h0 aa _).mono ?_;rintro e w'⟨rfl,rfl⟩;go_wp2_with fail
     go_ret;exact⟨by rw [HV.out,hf0,hf1];simp,ij(ij(il _ _))⟩
  ·have HV:Hid(lL i len=false):=by unfold Hid;simp [lL,h2]
   have h3:11<i.op:=by omega
   go_enter Tryz.func123,Tryz.ntmps123
   go_wp2_with fail
   go_ret;exact⟨by rw [HV.out];rfl,ij(il _ _)⟩
 ·have HV:Hid(lL i len=false):=by unfold Hid;simp [lL,h1]
  have h3:i.op<1:=by omega
  go_enter Tryz.func123,Tryz.ntmps123
  go_wp2_with fail
  go_ret;exact⟨by rw [HV.out];rfl,ij(il _ _)⟩
def CodeAt(w:World)(v:Value)(c:List Ins):Prop:=
 ∃ ao cap,v= .slice ao c.length cap/\∀ k(hk:k<c.length),∃ g o,ao=some⟨g,o,none⟩/\w.cell?⟨g,o+k*4,none⟩=some(.int .i64 c[k].op)/\
  w.cell?⟨g,o+k*4+1,none⟩=some(.int .i64 c[k].a)/\w.cell?⟨g,o+k*4+2,none⟩=some(.int .i64 c[k].b)/\w.cell?⟨g,o+k*4+3,none⟩=some(.int .i64 c[k].n)
def ProgAt(w:World)(v:Value)(p:List(List Ins)):Prop:=
 ∃ ao cap,v= .agg #[.slice ao p.length cap]/\∀ t(ht:t<p.length),∃ g o,ao=some⟨g,o,none⟩/\∃ rv,w.cell?⟨g,o+t,none⟩=some rv/\CodeAt w rv p[t]
def Pres(w w':World):Prop:=∀ a v,w.cell? a=some v->w'.cell? a=some v
theorem Pres.refl(w:World):Pres w w:=fun _ _ h=>h
theorem Pres.trans {a b c:World}(h:Pres a b)(h':Pres b c):Pres a c:=fun x v hx=>h' x v(h x v hx)
theorem ie {w w':World}(h:w.grownBy w' none):Pres w w':=fun a v ha=>by
 rw [h.cell_far a(World.block_lt_of_cell? w a ha)(by simp)];exact ha
theorem CodeAt.pres {w w':World} {v:Value} {c:List Ins}(h:CodeAt w v c)(hp:Pres w w'):CodeAt w' v c:=by
 obtain⟨ao,aa,e,h⟩:=h;refine⟨ao,aa,e,fun k hk=> ?_⟩;obtain⟨g,o,e1,e2,e3,e4,e5⟩:=h k hk;exact⟨g,o,e1,hp _ _ e2,hp _ _ e3,hp _ _ e4,hp _ _ e5⟩
theorem ProgAt.pres {w w':World} {v:Value} {p:List(List Ins)}(h:ProgAt w v p)(hp:Pres w w'):ProgAt w' v p:=by
 obtain⟨ao,aa,e,h⟩:=h;refine⟨ao,aa,e,fun k hk=> ?_⟩;obtain⟨g,o,e1,rv,e2,e3⟩:=h k hk;exact⟨g,o,e1,rv,hp _ _ e2,e3.pres hp⟩
theorem ShpAt.pres {w w':World}(h:ShpAt w)(hp:Pres w w'):ShpAt w':=fun o j h1 h2=>hp _ _(h o j h1 h2)
theorem la {α:Type}(l:List α)(f:α->Bool)(k:Nat)(h:k<l.length):(l.take(k+1)).all f=((l.take k).all f && f l[k]):=by
 rw [List.take_succ_eq_append_getElem h,List.all_append];simp
theorem ut(c:List Ins)(v:Value)(w:World)(hS:ShpAt w)(hc:CodeAt w v c):
  Calls Tryz.prog 84 #[v]w fun e w'=>e= .returned(.bool(kW c))/\w.grownBy w' none:=by
 obtain⟨ao,cap,rfl,hc⟩:=hc;have ai:Hid(ShpAt w):=hS;have HC:=hZ hc;clear hS hc;by_cases ag:c.length<=16
 ·have h2:(c.length:Int)<=16:=by omega
  have HV:Hid(kW c=c.all fun i=>lL i c.length):=by unfold Hid;simp [kW,ag]
  go_enter Tryz.func84,Tryz.ntmps84
  go_wp2
  go_loopw [10](fun i w'=>∃ k:Nat,k<=c.length/\i= .int .i64 k/\Hid(w.grownBy w' none)/\Hid((c.take k).all(fun i=>lL i c.length)=true))(fun i _=>c.length - (intOf i).toNat)
  case atStart=>exact⟨0,Nat.zero_le _,rfl,il _ _,rfl⟩
  case round=>
   obtain⟨k,hk,rfl,HG,HA⟩:=hrel;by_cases ae:k<c.length
   ·obtain⟨g,o,rfl,c0,c1,c2,c3⟩:=HC.out k ae;have aa:=ie HG.out;have d0:=aa _ _ c0;have d1:=aa _ _ c1;have d2:=aa _ _ c2;have d3:=aa _ _ c3;have ab:=hZ(la c(fun i=>lL i c.length)k ae);clear c0 c1 c2 c3 aa;have hk0:(0:Int)<=(k:Int):=by omega
    have hk1:(k:Int)<c.length:=by omega
    have ac:Hid(ShpAt wr):=ai.out.pres(ie HG.out);generalize c[k]=i at*;go_wp2_with fail
    refine(yU i c.length(by omega)(by omega)_(ac.out.pres(ie(ij(il _ _))))).mono ?_;rintro e w1⟨rfl,af⟩;have ad:Hid(w.grownBy w1 none):=ic(ij HG.out)af;clear af;cases hv:lL i c.length
    ·have HE:Hid(kW c=false):=by
      unfold Hid;rw [HV.out];have:(c.take(k+1)).all(fun i=>lL i c.length)=false:=by rw [ab.out,hv];simp
      rw [<-List.take_append_drop(k+1)c,List.all_append,List.take_append_drop,this];rfl
     go_wp2_with fail
     go_ret;exact⟨by rw [HE.out];rfl,ad⟩
    ·have ah:Hid((c.take(k+1)).all(fun i=>lL i c.length)=true):=by unfold Hid;rw [ab.out,hv,HA.out];rfl
     clear ab hv;go_wp2
     go_roundw
     case rel=>exact⟨k+1,by omega,by go_num,ad,ah⟩
     case measure=>simp [intOf];omega
   ·have HE:Hid(kW c=true):=by
     unfold Hid;rw [HV.out];have:=HA.out;rw [List.take_of_length_le(by omega)]at this;exact this
    go_wp2
    go_ret;exact⟨by rw [HE.out];rfl,HG⟩
 ·have HV:Hid(kW c=false):=by unfold Hid;simp [kW,ag]
  have h2:(16:Int)<c.length:=by omega
  go_enter Tryz.func84,Tryz.ntmps84
  go_wp2
  go_ret;exact⟨by rw [HV.out];rfl,il _ _⟩
end
section
open Go.RowKit
attribute [local go_sem] Go.World.cell?_alloc_some
def Made(w:World)(t:Nat)(i:Ins)(e:Ending)(w':World):Prop:=∃ v,e= .returned v/\(∀ w'':World,(∀ k,w.heap.size<=k->k<w'.heap.size->w''.heap[k]?=w'.heap[k]?)->ActIs w'.heap.size w'' v t i)/\w.grownBy w' none
theorem Ge(t:Nat)(i:Ins)(h:i.op=1)(w:World):Calls Tryz.prog 110 #[.int .i64 t, .int .i64 i.a, .int .i64 i.n]w(Made w t i):=by
 have hmf:∀ (fn:Fn)(first cap:Array Value)(w:World),(Instr.makeFunc fn first cap).run Tryz.prog w= .ok(.func fn first cap)w:=fun _ _ _ _=>rfl
 have H:Hid(i.op=1):=h;clear h;go_enter Tryz.func110,Tryz.ntmps110
 go_wp2
 go_ret;have h:=H.out;refine⟨_,rfl,fun w2 hw2=>⟨w.heap.size+2,w.heap.size,w.heap.size+1,0,by(simp<;>omega),by(simp<;>omega),by(simp<;>omega),by simp,Or.inl⟨h,rfl, ?_, ?_, ?_⟩⟩,ij(ij(ij(il _ _)))⟩
 all_goals(rw [World.cell?_of_block(hw2 _(by(simp<;>omega))(by(simp<;>omega)))];simp [go_sem])
theorem EX(t:Nat)(i:Ins)(h:i.op=2)(w:World):Calls Tryz.prog 111 #[.int .i64 t, .int .i64 i.a, .int .i64 i.b]w(Made w t i):=by
 have hmf:∀ (fn:Fn)(first cap:Array Value)(w:World),(Instr.makeFunc fn first cap).run Tryz.prog w= .ok(.func fn first cap)w:=fun _ _ _ _=>rfl
 have H:Hid(i.op=2):=h;clear h;go_enter Tryz.func111,Tryz.ntmps111
 go_wp2
 go_ret;have h:=H.out;refine⟨_,rfl,fun w2 hw2=>⟨w.heap.size+2,w.heap.size,w.heap.size+1,0,by(simp<;>omega),by(simp<;>omega),by(simp<;>omega),by simp,Or.inr(Or.inl⟨h,rfl, ?_, ?_, ?_⟩)⟩,ij(ij(ij(il _ _)))⟩
 all_goals(rw [World.cell?_of_block(hw2 _(by(simp<;>omega))(by(simp<;>omega)))];simp [go_sem])
theorem DJ(t:Nat)(i:Ins)(h:i.op=3)(w:World):Calls Tryz.prog 112 #[.int .i64 t, .int .i64 i.a, .int .i64 i.b]w(Made w t i):=by
 have hmf:∀ (fn:Fn)(first cap:Array Value)(w:World),(Instr.makeFunc fn first cap).run Tryz.prog w= .ok(.func fn first cap)w:=fun _ _ _ _=>rfl
 have H:Hid(i.op=3):=h;clear h;go_enter Tryz.func112,Tryz.ntmps112
 go_wp2
 go_ret;have h:=H.out;refine⟨_,rfl,fun w2 hw2=>⟨w.heap.size,w.heap.size+2,w.heap.size+1,0,by(simp<;>omega),by(simp<;>omega),by(simp<;>omega),by simp,Or.inr(Or.inr(Or.inl⟨h,rfl, ?_, ?_, ?_⟩))⟩,ij(ij(ij(il _ _)))⟩
 all_goals(rw [World.cell?_of_block(hw2 _(by(simp<;>omega))(by(simp<;>omega)))];simp [go_sem])
theorem AR(t:Nat)(i:Ins)(h:i.op=7)(w:World):Calls Tryz.prog 117 #[.int .i64 t, .int .i64 i.a, .int .i64 i.b]w(Made w t i):=by
 have hmf:∀ (fn:Fn)(first cap:Array Value)(w:World),(Instr.makeFunc fn first cap).run Tryz.prog w= .ok(.func fn first cap)w:=fun _ _ _ _=>rfl
 have H:Hid(i.op=7):=h;clear h;go_enter Tryz.func117,Tryz.ntmps117
 go_wp2
 go_ret;have h:=H.out;refine⟨_,rfl,fun w2 hw2=>⟨w.heap.size,w.heap.size+2,w.heap.size+1,0,by(simp<;>omega),by(simp<;>omega),by(simp<;>omega),by simp,Or.inr(Or.inr(Or.inr(Or.inr(Or.inl⟨h,rfl, ?_, ?_, ?_⟩))))⟩,ij(ij(ij(il _ _)))⟩
 all_goals(rw [World.cell?_of_block(hw2 _(by(simp<;>omega))(by(simp<;>omega)))];simp [go_sem])
theorem Ef(t:Nat)(i:Ins)(h:i.op=8)(w:World):Calls Tryz.prog 118 #[.int .i64 t, .int .i64 i.a, .int .i64 i.n]w(Made w t i):=by
 have hmf:∀ (fn:Fn)(first cap:Array Value)(w:World),(Instr.makeFunc fn first cap).run Tryz.prog w= .ok(.func fn first cap)w:=fun _ _ _ _=>rfl
 have H:Hid(i.op=8):=h;clear h;go_enter Tryz.func118,Tryz.ntmps118
 go_wp2
 go_ret;have h:=H.out;refine⟨_,rfl,fun w2 hw2=>⟨w.heap.size,w.heap.size+1,w.heap.size+2,0,by(simp<;>omega),by(simp<;>omega),by(simp<;>omega),by simp,Or.inr(Or.inr(Or.inr(Or.inr(Or.inr(Or.inl⟨h,rfl, ?_, ?_, ?_⟩)))))⟩,ij(ij(ij(il _ _)))⟩
 all_goals(rw [World.cell?_of_block(hw2 _(by(simp<;>omega))(by(simp<;>omega)))];simp [go_sem])
theorem FB(t:Nat)(i:Ins)(h:i.op=9)(w:World):Calls Tryz.prog 119 #[.int .i64 t, .int .i64 i.a]w(Made w t i):=by
 have hmf:∀ (fn:Fn)(first cap:Array Value)(w:World),(Instr.makeFunc fn first cap).run Tryz.prog w= .ok(.func fn first cap)w:=fun _ _ _ _=>rfl
 have H:Hid(i.op=9):=h;clear h;go_enter Tryz.func119,Tryz.ntmps119
 go_wp2
 go_ret;have h:=H.out;refine⟨_,rfl,fun w2 hw2=>⟨w.heap.size,w.heap.size+1,0,0,by(simp<;>omega),by simp,by simp,by simp,Or.inr(Or.inr(Or.inr(Or.inr(Or.inr(Or.inr(Or.inl⟨h,rfl, ?_, ?_⟩))))))⟩,ij(ij(il _ _))⟩
 all_goals(rw [World.cell?_of_block(hw2 _(by(simp<;>omega))(by(simp<;>omega)))];simp [go_sem])
theorem BJ(t:Nat)(i:Ins)(h:i.op=11)(w:World):Calls Tryz.prog 121 #[.int .i64 t, .int .i64 i.a]w(Made w t i):=by
 have hmf:∀ (fn:Fn)(first cap:Array Value)(w:World),(Instr.makeFunc fn first cap).run Tryz.prog w= .ok(.func fn first cap)w:=fun _ _ _ _=>rfl
 have H:Hid(i.op=11):=h;clear h;go_enter Tryz.func121,Tryz.ntmps121
 go_wp2
 go_ret;have h:=H.out;refine⟨_,rfl,fun w2 hw2=>⟨w.heap.size,w.heap.size+1,0,0,by(simp<;>omega),by simp,by simp,by simp,Or.inr(Or.inr(Or.inr(Or.inr(Or.inr(Or.inr(Or.inr(Or.inr(⟨h,rfl, ?_, ?_⟩))))))))⟩,ij(ij(il _ _))⟩
 all_goals(rw [World.cell?_of_block(hw2 _(by(simp<;>omega))(by(simp<;>omega)))];simp [go_sem])
theorem zC(t:Nat)(i:Ins)(h:i.op=10)(w:World):Calls Tryz.prog 120 #[.int .i64 t, .int .i64 i.a]w(Made w t i):=by
 have hmf:∀ (fn:Fn)(first cap:Array Value)(w:World),(Instr.makeFunc fn first cap).run Tryz.prog w= .ok(.func fn first cap)w:=fun _ _ _ _=>rfl
 have H:Hid(i.op=10):=h;clear h;go_enter Tryz.func120,Tryz.ntmps120
 go_wp2
 go_ret;have h:=H.out;refine⟨_,rfl,fun w2 hw2=>⟨w.heap.size,w.heap.size+1,0,0,by(simp<;>omega),by simp,by simp,by simp,Or.inr(Or.inr(Or.inr(Or.inr(Or.inr(Or.inr(Or.inr(Or.inl⟨h,rfl, ?_, ?_, ?_⟩)))))))⟩,ij(ij(il _ _))⟩
 all_goals(rw [World.cell?_of_block(hw2 _(by(simp<;>omega))(by(simp<;>omega)))];simp [go_sem])
theorem Gs(t:Nat)(i:Ins)(h:i.op=4)(w:World):Calls Tryz.prog 113 #[.int .i64 t, .int .i64 i.a, .int .i64 i.b, .func(.func 114) #[] #[]]w(Made w t i):=by
 have hmf:∀ (fn:Fn)(first cap:Array Value)(w:World),(Instr.makeFunc fn first cap).run Tryz.prog w= .ok(.func fn first cap)w:=fun _ _ _ _=>rfl
 have H:Hid(i.op=4):=h;clear h;go_enter Tryz.func113,Tryz.ntmps113
 go_wp2
 go_ret;have h:=H.out;refine⟨_,rfl,fun w2 hw2=>⟨w.heap.size+3,w.heap.size,w.heap.size+1,w.heap.size+2,by(simp<;>omega),by(simp<;>omega),by(simp<;>omega),by(simp<;>omega),Or.inr(Or.inr(Or.inr(Or.inl⟨_,Or.inl⟨h,rfl⟩,rfl, ?_, ?_, ?_, ?_⟩)))⟩,ij(ij(ij(ij(il _ _))))⟩
 all_goals(rw [World.cell?_of_block(hw2 _(by(simp<;>omega))(by(simp<;>omega)))];simp [go_sem])
theorem FU(t:Nat)(i:Ins)(h:i.op=5)(w:World):Calls Tryz.prog 113 #[.int .i64 t, .int .i64 i.a, .int .i64 i.b, .func(.func 115) #[] #[]]w(Made w t i):=by
 have hmf:∀ (fn:Fn)(first cap:Array Value)(w:World),(Instr.makeFunc fn first cap).run Tryz.prog w= .ok(.func fn first cap)w:=fun _ _ _ _=>rfl
 have H:Hid(i.op=5):=h;clear h;go_enter Tryz.func113,Tryz.ntmps113
 go_wp2
 go_ret;have h:=H.out;refine⟨_,rfl,fun w2 hw2=>⟨w.heap.size+3,w.heap.size,w.heap.size+1,w.heap.size+2,by(simp<;>omega),by(simp<;>omega),by(simp<;>omega),by(simp<;>omega),Or.inr(Or.inr(Or.inr(Or.inl⟨_,Or.inr(Or.inl⟨h,rfl⟩),rfl, ?_, ?_, ?_, ?_⟩)))⟩,ij(ij(ij(ij(il _ _))))⟩
 all_goals(rw [World.cell?_of_block(hw2 _(by(simp<;>omega))(by(simp<;>omega)))];simp [go_sem])
theorem FO(t:Nat)(i:Ins)(h:i.op=6)(w:World):Calls Tryz.prog 113 #[.int .i64 t, .int .i64 i.a, .int .i64 i.b, .func(.func 116) #[] #[]]w(Made w t i):=by
 have hmf:∀ (fn:Fn)(first cap:Array Value)(w:World),(Instr.makeFunc fn first cap).run Tryz.prog w= .ok(.func fn first cap)w:=fun _ _ _ _=>rfl
 have H:Hid(i.op=6):=h;clear h;go_enter Tryz.func113,Tryz.ntmps113
 go_wp2
 go_ret;have h:=H.out;refine⟨_,rfl,fun w2 hw2=>⟨w.heap.size+3,w.heap.size,w.heap.size+1,w.heap.size+2,by(simp<;>omega),by(simp<;>omega),by(simp<;>omega),by(simp<;>omega),Or.inr(Or.inr(Or.inr(Or.inl⟨_,Or.inr(Or.inr⟨h,rfl⟩),rfl, ?_, ?_, ?_, ?_⟩)))⟩,ij(ij(ij(ij(il _ _))))⟩
 all_goals(rw [World.cell?_of_block(hw2 _(by(simp<;>omega))(by(simp<;>omega)))];simp [go_sem])
end
end Go.Proofs.YtklenjmfalljgabGreatDoor
