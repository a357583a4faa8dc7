/- The texts Pure Reg Clo Clo2 Clo3 Clo4 Mem Act Rdy Stp Mach End Fol Run Val Mk. -/
import Derived.RowKit
import Derived.StillTailTactics
import Derived.OrdersHeld
import Derived.Test.YtklenjmfalljgabGreatDoorProg
import Derived.WalkKit
import Derived.WalkSpells
import Derived.WalkLawsBesides
import Derived.RegionTactic
import Derived.BigRegion
import Derived.ChangeAlike
import Derived.BigQuiet
import Derived.Deep.QuietTactic
import Derived.Deep.RegionHeld3
import Derived.Laws.Rows
import Derived.Deep.DeepMust
import Derived.Laws.EntriesVeiled
import Derived.Deep.AppendLies
import Derived.OwnWalk
import Derived.Laws.CopyRow
namespace Go.Proofs.YtklenjmfalljgabGreatDoor
set_option maxRecDepth 100000
set_option maxHeartbeats 8000000
section
open Go.RowKit (wrap64)
structure Ins where
 op:Int
 a:Int
 b:Int
 n:Int
structure St where
 vars:Nat->Int
 held:Nat->Bool
 own:Nat->Int
 regs:Nat->Nat->Int
 next:Nat->Int
def St.zero:St:=⟨fun _=>0,fun _=>false,fun _=>0,fun _ _=>0,fun _=>0⟩
def St.setReg(s:St)(t r:Nat)(v:Int):St:=⟨s.vars,s.held,s.own,fun t' r'=>if t'=t/\r'=r then v else s.regs t' r',s.next⟩
def St.setVar(s:St)(x:Nat)(v:Int):St:=⟨fun x'=>if x'=x then v else s.vars x',s.held,s.own,s.regs,s.next⟩
def St.setNext(s:St)(t:Nat)(v:Int):St:=⟨s.vars,s.held,s.own,s.regs,fun t'=>if t'=t then v else s.next t'⟩
def St.setLock(s:St)(l:Nat)(h:Bool)(o:Int):St:=⟨s.vars,fun l'=>if l'=l then h else s.held l',fun l'=>if l'=l then o else s.own l',s.regs,s.next⟩
def act(t:Nat)(i:Ins)(s:St):Bool × St:=
 if i.op=1 then (true,s.setReg t i.a.toNat i.n)
 else if i.op=2 then (true,s.setReg t i.a.toNat (s.vars i.b.toNat))
 else if i.op=3 then (true,s.setVar i.a.toNat (s.regs t i.b.toNat))
 else if i.op=4 then (true,s.setReg t i.a.toNat (wrap64 (s.regs t i.a.toNat+s.regs t i.b.toNat)))
 else if i.op=5 then (true,s.setReg t i.a.toNat (wrap64 (s.regs t i.a.toNat - s.regs t i.b.toNat)))
 else if i.op=6 then (true,s.setReg t i.a.toNat (wrap64 (s.regs t i.a.toNat*s.regs t i.b.toNat)))
 else if i.op=7 then (if s.regs t i.b.toNat=0 then (false,s) else (true,s.setReg t i.a.toNat (wrap64 ((s.regs t i.a.toNat).tdiv (s.regs t i.b.toNat)))))
 else if i.op=8 then (true,if s.regs t i.a.toNat=0 then s.setNext t i.n else s)
 else if i.op=9 then (true,s.setLock i.a.toNat true t)
 else if i.op=10 then (if s.held i.a.toNat=true/\s.own i.a.toNat=t then (true,s.setLock i.a.toNat false 0) else (false,s))
 else (s.regs t i.a.toNat !=0,s)
def shp(op j:Nat):Int:=
 ((([[0,0,0],[1,0,5],[1,2,0],[2,1,0],[1,1,0],[1,1,0],[1,1,0],[1,1,0],[1,0,4],[3,0,0],[3,0,0],[1,0,0]]:List (List Int))[op]?).getD [])[j]?.getD 0
def jD(x n:Int):Bool:=decide (0<=x) && decide (x<n)
def mi(k x len:Int):Bool:=
 if k=1 then jD x 4 else if k=2 then jD x 4 else if k=3 then jD x 3 else if k=4 then jD x (len+1) else if k=5 then true else (x==0)
def lG(i:Ins)(len:Int):Bool:=
 decide (1<=i.op) && (decide (i.op<=11) && (mi (shp i.op.toNat 0) i.a len && (mi (shp i.op.toNat 1) i.b len && mi (shp i.op.toNat 2) i.n len)))
def kT(c:List Ins):Bool:=decide (c.length<=16) && c.all fun i=>lG i c.length
def iU(p:List (List Ins)):Bool:=decide (1<=p.length) && (decide (p.length<=4) && p.all kT)
def iO(p:List (List Ins))(t:Nat):List Ins:=(p[t]?).getD []
def ju(p:List (List Ins))(t:Nat)(k:Int):Ins:=((iO p t)[k.toNat]?).getD ⟨0,0,0,0⟩
def jR(p:List (List Ins))(s:St)(t:Nat):Bool:=s.next t==((iO p t).length:Int)
def jE(p:List (List Ins))(s:St)(t:Nat):Bool:=!jR p s t && (!((ju p t (s.next t)).op==9) || !s.held (ju p t (s.next t)).a.toNat)
def jP(p:List (List Ins))(s:St)(t:Nat):Bool × St:=act t (ju p t (s.next t)) (s.setNext t (s.next t+1))
def jQ(p:List (List Ins))(s:St):Int:=
 if (List.range p.length).any (jE p s) then 5 else if (List.range p.length).all (jR p s) then 3 else 4
def m8(p:List (List Ins))(s:St)(t:Int):Bool:=jD t p.length && jE p s t.toNat
structure Out where
 steps:List (Int × Int)
 kind:Int
 thread:Int
 at_:Int
 st:St
def jd(p:List (List Ins)):List Int->Int->St->List (Int × Int)->Out
 | [],_,s,acc=>⟨acc,jQ p s,0,0,s⟩
 | t::r,i,s,acc=>
  if m8 p s t=true then
   (if (jP p s t.toNat).1=true then jd p r (i+1) (jP p s t.toNat).2 (acc++[(t,s.next t.toNat)])
    else ⟨acc++[(t,s.next t.toNat)],1,t,s.next t.toNat,(jP p s t.toNat).2⟩)
  else ⟨acc,2,0,i,s⟩
def iI(p:List (List Ins))(sch:List Int):Out:=jd p sch 0 St.zero []
def Inv(p:List (List Ins))(s:St):Prop:=∀ t,t<p.length->0<=s.next t/\s.next t<=(iO p t).length
theorem Inv.zero(p:List (List Ins)):Inv p St.zero:=fun t _=>⟨by simp [St.zero],by simp [St.zero]⟩
theorem vM{i:Ins}{len:Int}(h:lG i len=true):1<=i.op/\i.op<=11:=by
 simp only [lG,Bool.and_eq_true,decide_eq_true_eq]at h;exact⟨h.1,h.2.1⟩
theorem sV{i:Ins}{len:Int}(h:lG i len=true):mi (shp i.op.toNat 0) i.a len=true/\mi (shp i.op.toNat 1) i.b len=true/\mi (shp i.op.toNat 2) i.n len=true:=by
 simp only [lG,Bool.and_eq_true,decide_eq_true_eq]at h;exact h.2.2
theorem oV{i:Ins}{len:Int}(h:lG i len=true):
  (i.op=1/\0<=i.a/\i.a<4)\/(i.op=2/\0<=i.a/\i.a<4/\0<=i.b/\i.b<4)\/(i.op=3/\0<=i.a/\i.a<4/\0<=i.b/\i.b<4)\/
  (i.op=4/\0<=i.a/\i.a<4/\0<=i.b/\i.b<4)\/(i.op=5/\0<=i.a/\i.a<4/\0<=i.b/\i.b<4)\/(i.op=6/\0<=i.a/\i.a<4/\0<=i.b/\i.b<4)\/
  (i.op=7/\0<=i.a/\i.a<4/\0<=i.b/\i.b<4)\/(i.op=8/\0<=i.a/\i.a<4/\0<=i.n/\i.n<len+1)\/(i.op=9/\0<=i.a/\i.a<3)\/(i.op=10/\0<=i.a/\i.a<3)\/(i.op=11/\0<=i.a/\i.a<4):=by
 obtain⟨h1,h2⟩:=vM h;obtain⟨d,c,f⟩:=sV h;have hc:i.op=1\/i.op=2\/i.op=3\/i.op=4\/i.op=5\/i.op=6\/i.op=7\/i.op=8\/i.op=9\/i.op=10\/i.op=11:=by omega
 rcases hc with e | e | e | e | e | e | e | e | e | e | e<;>rw [e]at d c f<;>simp [shp,mi,jD]at d c f<;>simp [e]<;>omega
theorem BN(t:Nat)(i:Ins)(s:St)(b:Nat):(act t i s).2.next b=s.next b\/(b=t/\i.op=8/\(act t i s).2.next b=i.n):=by
 by_cases c:i.op=8
 ·have e:act t i s=(true,if s.regs t i.a.toNat=0 then s.setNext t i.n else s):=by simp [act,c]
  rw [e];by_cases d:s.regs t i.a.toNat=0
  ·simp only [d,if_true,St.setNext];by_cases f:b=t
   ·right;simp [f,c]
   ·left;simp [f]
  ·left;simp [d]
 ·left
  unfold act;repeat' split
  all_goals first | rfl | (exfalso;exact c ‹_›)
theorem nw{p:List (List Ins)}{t:Nat}(h:t<p.length):iO p t=p[t]:=by simp [iO,h]
theorem kd{p:List (List Ins)}(h:iU p=true){t:Nat}(a:t<p.length):kT (iO p t)=true:=by
 simp only [iU,Bool.and_eq_true,List.all_eq_true]at h;rw [nw a];exact h.2.2 _ (List.getElem_mem a)
theorem jz{p:List (List Ins)}(h:iU p=true):1<=p.length/\p.length<=4:=by
 simp only [iU,Bool.and_eq_true,decide_eq_true_eq]at h;exact⟨h.1,h.2.1⟩
theorem kX{c:List Ins}(h:kT c=true):c.length<=16:=by
 simp only [kT,Bool.and_eq_true,decide_eq_true_eq]at h;exact h.1
theorem ua{c:List Ins}(h:kT c=true){k:Nat}(a:k<c.length):lG c[k] c.length=true:=by
 simp only [kT,Bool.and_eq_true,List.all_eq_true]at h;exact h.2 _ (List.getElem_mem a)
theorem mz{p:List (List Ins)}{t:Nat}{k:Int}(h:k.toNat<(iO p t).length):ju p t k=(iO p t)[k.toNat]:=by simp [ju,h]
theorem l8{p:List (List Ins)}(h:iU p=true){t:Nat}(b:t<p.length){k:Int}(a:k.toNat<(iO p t).length):lG (ju p t k) (iO p t).length=true:=by
 rw [mz a];exact ua (kd h b) a
theorem Inv.step{p:List (List Ins)}{s:St}(k:iU p=true)(h:Inv p s){t:Nat}(c:t<p.length)(l:jR p s t=false):Inv p (jP p s t).2:=by
 intro b m;have hn:=h t c;have j:=h b m;have hne:s.next t≠((iO p t).length:Int):=by simpa [jR]using l
 have i:(s.next t).toNat<(iO p t).length:=by omega
 have f:=l8 k c i;have d:∀ t'',t''=t->(iO p t'').length=(iO p t).length:=fun t'' e=>by rw [e]
 rcases BN t (ju p t (s.next t)) (s.setNext t (s.next t+1)) b with e | ⟨e1,e2,e3⟩
 ·unfold jP;rw [e];simp only [St.setNext]
  split
  ·rename_i e4;have:=d b e4;omega
  ·exact j
 ·unfold jP;rw [e3]
  have:=oV f;have hl:=d b e1;rcases this with h1 | h1 | h1 | h1 | h1 | h1 | h1 | h1 | h1 | h1 | h1<;>omega
theorem pF(p:List (List Ins))(i:Int)(s:St)(acc:List (Int × Int)):jd p [] i s acc=⟨acc,jQ p s,0,0,s⟩:=rfl
theorem kn(p:List (List Ins))(t:Int)(r:List Int)(i:Int)(s:St)(acc:List (Int × Int))(h:m8 p s t=false):jd p (t::r) i s acc=⟨acc,2,0,i,s⟩:=by simp [jd,h]
theorem mQ(p:List (List Ins))(t:Int)(r:List Int)(i:Int)(s:St)(acc:List (Int × Int))(h:m8 p s t=true)(h2:(jP p s t.toNat).1=false):
  jd p (t::r) i s acc=⟨acc++[(t,s.next t.toNat)],1,t,s.next t.toNat,(jP p s t.toNat).2⟩:=by simp [jd,h,h2]
theorem nO(p:List (List Ins))(t:Int)(r:List Int)(i:Int)(s:St)(acc:List (Int × Int))(h:m8 p s t=true)(h2:(jP p s t.toNat).1=true):
  jd p (t::r) i s acc=jd p r (i+1) (jP p s t.toNat).2 (acc++[(t,s.next t.toNat)]):=by simp [jd,h,h2]
end
section
open Go
section
variable {P : Program} {ops : Array Oper} {Q : Exit -> Act -> World -> Prop} {S : World -> Prop} {n : Nat}
def F9(P:Program)(ops:Array Oper)(Q:Exit->Act->World->Prop)(n:Nat)(listed:Array Bool)(a:Act)(w:World):Prop:=
 Region.ready .any ops listed=[n]/\Region.ready .any ops (listed.setIfInBounds n true)=[]/\wpOp P ops Q n (fun a' w'=>Q .normal a' w') a w
def lU(P:Program)(ops:Array Oper)(Q:Exit->Act->World->Prop)(S:World->Prop)(n:Nat):Nat->Array Bool->Act->World->Prop
 | 0,listed,a,w=>F9 P ops Q n listed a w
 | f+1,listed,a,w=>Region.ready .any ops listed≠[]/\∀ i∈Region.ready .any ops listed,i<n/\wpOp P ops Q i (fun a' w'=>S w'/\lU P ops Q S n f (listed.setIfInBounds i true) a' w') a w
theorem oA:∀ (f:Nat) (listed:Array Bool) (a:Act) (w:World),lU P ops Q S n f listed a w->wpAny P .any ops Q (f+1) listed a w
 | 0,listed,a,w,⟨h1,h2,h3⟩=>⟨fun h=>(by rw [h1]at h;cases h),fun i hi=>by
   rw [h1]at hi;have:i=n:=by simpa using hi
   subst this;exact wpOp_mono (fun a' w' h=>⟨h2,h⟩) h3⟩
 | f+1,listed,a,w,⟨h1,h2⟩=>⟨fun h=>absurd h h1,fun i hi=>wpOp_mono (fun a' w' h=>oA f _ a' w' h.2) (h2 i hi).2⟩
theorem vi{i:Nat}{p:Oper}{v:Value}(u:ops[i]?=some p)(B:∀ (j:Nat) (o:Oper) cs b,ops[j]?=some o->o.op≠ .select cs b)
  (K:∀ c a w,Q (.panic c) (a.put p.dst v) w->Q (.panic c) a w) (J:Region.sinkB .any ops n=true) (hc:Region.chainB .any ops n=true) (G:n<ops.size) (x:i<n):
  ∀ (f:Nat) (l:Array Bool) (a:Act) (w:World),
   (∀ j oj,ops[j]?=some oj->j≠i->l.getD j true=false->(∀ e∈oj.after,Region.binds .any e=true->e.on≠i)->p.apart ops oj=true)->
   i∈Region.ready .any ops l->HeadInv .any ops n l->YieldsIf P ops S p v a->S w->
   lU P ops Q S n f (l.setIfInBounds i true) (a.put p.dst v) w->lU P ops Q S n (f+1) l a w:=by
 intro f;induction f with
 | zero=>
  intro l a w _ m z s r H;refine⟨fun h=>(by rw [h]at m;cases m),fun j hj=>?_⟩;by_cases d:j=i
  ·subst d;exact⟨x,s.wpOp u r ⟨r,H⟩⟩
  ·have q:=ready_mono hj d;rw [H.1]at q;have:j=n:=by simpa using q
   subst this;exact absurd hj (tail_waits J hc G z _ i rfl x (mem_ready.1 m).1 j (Nat.le_refl _))
 | succ f ih=>
  intro l a w D m z s r H;refine⟨fun h=>(by rw [h]at m;cases m),fun j hj=>?_⟩;by_cases d:j=i
  ·subst d;exact⟨x,s.wpOp u r ⟨r,H⟩⟩
  ·have y:=H.2 j (ready_mono hj d);refine⟨y.1,?_⟩;obtain⟨E,oj,A,I⟩:=mem_ready.1 hj;have F:∀ e∈oj.after,Region.binds .any e=true->e.on≠i:=fun e he hb heq=>by
    have q:=I e he hb;have t:=getD_both (mem_ready.1 m).1;rw [heq,t]at q;cases q
   have t:=wpOp_putIf A (D j oj A d E F) (fun cs b=>B i p cs b u) (fun cs b=>B j oj cs b A) K s y.2;refine wpOp_mono (fun a' w' h3=>⟨h3.2.1,ih (l.setIfInBounds j true) a' w' (fun k ok hk hki hun hno=>?_) (ready_mono m (Ne.symm d)) (z.set hj y.1) h3.1 h3.2.1 ?_⟩) t
   ·refine D k ok hk hki ?_ hno;by_cases C:j=k
    ·subst C;exact E
    ·rw [getD_set_ne true C]at hun;exact hun
   ·rw [Array.setIfInBounds_comm _ _ d];exact h3.2.2
theorem kJ{i:Nat}{d:Oper}{v:Value}{f:Nat}{b:Array Bool}{a:Act}{w:World}(j:ops[i]?=some d)
  (e:(Region.noSelect ops && (Region.sinkB .any ops n && (Region.chainB .any ops n && (decide (n<ops.size) && (decide (i<n) && (Region.free .any ops b i && (Region.ready .any ops b).contains i))))))=true)
  (q:∀ c a w,Q (.panic c) (a.put d.dst v) w->Q (.panic c) a w) (s:YieldsIf P ops S d v a) (x:S w)
  (h:HeadInv .any ops n (b.setIfInBounds i true)->lU P ops Q S n f (b.setIfInBounds i true) (a.put d.dst v) w):HeadInv .any ops n b->lU P ops Q S n (f+1) b a w:=by
 simp only [Bool.and_eq_true,decide_eq_true_eq]at e;obtain⟨m,o,r,p,l,t,u⟩:=e;have k:i∈Region.ready .any ops b:=by simpa using u
 exact fun inv=>vi j (Region.noSelect_spec m) q o r p l f b a w (Region.free_spec j t) k inv s x (h (inv.set k l))
theorem gJ(i:Nat)(v:Value){oi:Oper}{f:Nat}{listed:Array Bool}{a:Act}{w:World}(hi:ops[i]?=some oi)
  (hs:(Region.noSelect ops && (Region.sinkB .any ops n && (Region.chainB .any ops n && (decide (n<ops.size) && (decide (i<n) && (Region.free .any ops listed i && (Region.ready .any ops listed).contains i))))))=true)
  (hQ:∀ c a w,Q (.panic c) (a.put oi.dst v) w->Q (.panic c) a w) (hw:Region.wanted oi (yielded ops a.tmps)=true) (hy:∀ w,S w->(execOp a.eval oi).run P w= .ok (.value v) w) (hS:S w)
  (h:HeadInv .any ops n (listed.setIfInBounds i true)->lU P ops Q S n f (listed.setIfInBounds i true) (a.put oi.dst v) w):HeadInv .any ops n listed->lU P ops Q S n (f+1) listed a w:=
 kJ hi hs hQ (Or.inl ⟨hw,hy⟩) hS h
theorem iu{i:Nat}{c:Oper}{f:Nat}{b:Array Bool}{a:Act}{w:World}(k:ops[i]?=some c)
  (d:Region.ready .any ops b=[i]) (p:decide (i<n)=true) (o:Region.wanted c (yielded ops a.tmps)=true)
  (h:∀ K:Act->World->Prop,(∀ a' w',S w'->(HeadInv .any ops n (b.setIfInBounds i true)->lU P ops Q S n f (b.setIfInBounds i true) a' w')->K a' w')->c.wp P a w K Q):
  HeadInv .any ops n b->lU P ops Q S n (f+1) b a w:=by
 intro l;have e:i<n:=of_decide_eq_true p;have m:i∈Region.ready .any ops b:=by rw [d];simp
 refine⟨fun h=>(by rw [d]at h;cases h),fun j hj=>?_⟩;rw [d]at hj;have:j=i:=by simpa using hj
 subst this;refine⟨e,?_⟩;unfold wpOp;simp only [k,o,if_true];exact Or.inl (h _ (fun a' w' hS hh=>⟨hS,hh (l.set m e)⟩))
theorem iH{on:Oper}{b:Array Bool}{a:Act}{w:World}(d:ops[n]?=some on)
  (c:Region.ready .any ops b=[n]) (e:Region.ready .any ops (b.setIfInBounds n true)=[]) (f:Region.wanted on (yielded ops a.tmps)=true)
  (h:on.wp P a w (fun a' w'=>Q .normal a' w') Q):HeadInv .any ops n b->lU P ops Q S n 0 b a w:=by
 intro _;refine⟨c,e,?_⟩;unfold wpOp;simp only [d,f,if_true];exact Or.inl h
theorem iz{d:Nat}{a:Act}{w:World}(S:World->Prop)(n:Nat)(b:P.follows .mixedOrders=true)(c:ops.size=n+1)(f:S w.drew)
  (h:S w.drew->HeadInv .any ops n (Array.replicate ops.size false)->lU P ops Q S n n (Array.replicate ops.size false) a w.drew):(Code.region d ops true).wp P Q a w:=by
 refine wp_region_any b ?_;have e:HeadInv .any ops n (Array.replicate ops.size false):=
  ⟨by simp,fun j oj _ hl=>(by rw [getD_replicate_false]at hl;cases hl),fun t _ ht=>getD_in (by simpa using ht) (getD_replicate_false _ _)⟩
 have:=oA (P:=P) (Q:=Q) n _ a _ (h f e);rw [c]at this ⊢;exact this
end
def jt(w' w:World):Prop:=w'.heap=w.heap/\w'.os=w.os/\w'.output=w.output/\w'.tape=w.tape
end
section
open Go.RowKit
theorem E2(t r:Nat)(ht:t<4)(hr:r<4)(n:Int)(b c d a:Nat)(w:World)(x:Value)
  (hn:w.cell? ⟨c,0,none⟩=some (.int .i64 n)) (htc:w.cell? ⟨d,0,none⟩=some (.int .i64 t)) (hrc:w.cell? ⟨a,0,none⟩=some (.int .i64 r))
  (hx:w.cell? ⟨b,10+t*4+r,none⟩=some x) (hf:w.frozen? ⟨b,10+t*4+r,none⟩=false):
  Calls Tryz.prog 148 #[.pointer (some ⟨b,0,none⟩),.pointer (some ⟨c,0,none⟩),.pointer (some ⟨d,0,none⟩),.pointer (some ⟨a,0,none⟩)] w
   fun e w'=>e= .returned (.bool true)/\jt w' (w.setCell ⟨b,10+t*4+r,none⟩ (.int .i64 n)):=by
 have h1:(0:Int)<=(t:Int):=by omega
 have h2:(t:Int)<4:=by omega
 have h3:(0:Int)<=(r:Int):=by omega
 have h4:(r:Int)<4:=by omega
 go_enter Tryz.func148,Tryz.ntmps148
 go_wp2
 go_region
 all_goals (go_wp2;go_ret;exact⟨rfl,rfl,rfl,rfl,rfl⟩)
theorem Dm(t r v:Nat)(ht:t<4)(hr:r<4)(hv:v<4)(n:Int)(b c a d:Nat)(w:World)(x:Value)
  (hvc:w.cell? ⟨c,0,none⟩=some (.int .i64 v)) (htc:w.cell? ⟨a,0,none⟩=some (.int .i64 t)) (hrc:w.cell? ⟨d,0,none⟩=some (.int .i64 r))
  (hn:w.cell? ⟨b,v,none⟩=some (.int .i64 n))
  (hx:w.cell? ⟨b,10+t*4+r,none⟩=some x) (hf:w.frozen? ⟨b,10+t*4+r,none⟩=false):
  Calls Tryz.prog 149 #[.pointer (some ⟨b,0,none⟩),.pointer (some ⟨c,0,none⟩),.pointer (some ⟨a,0,none⟩),.pointer (some ⟨d,0,none⟩)] w
   fun e w'=>e= .returned (.bool true)/\jt w' (w.setCell ⟨b,10+t*4+r,none⟩ (.int .i64 n)):=by
 have h1:(0:Int)<=(t:Int):=by omega
 have h2:(t:Int)<4:=by omega
 have h3:(0:Int)<=(r:Int):=by omega
 have h4:(r:Int)<4:=by omega
 have h5:(0:Int)<=(v:Int):=by omega
 have h6:(v:Int)<4:=by omega
 go_enter Tryz.func149,Tryz.ntmps149
 go_wp2
 go_region
 all_goals (go_wp2;go_ret;exact⟨rfl,rfl,rfl,rfl,rfl⟩)
theorem A7(t r v:Nat)(ht:t<4)(hr:r<4)(hv:v<4)(n:Int)(b c a d:Nat)(w:World)(x:Value)
  (hvc:w.cell? ⟨c,0,none⟩=some (.int .i64 v)) (htc:w.cell? ⟨a,0,none⟩=some (.int .i64 t)) (hrc:w.cell? ⟨d,0,none⟩=some (.int .i64 r))
  (hn:w.cell? ⟨b,10+t*4+r,none⟩=some (.int .i64 n))
  (hx:w.cell? ⟨b,v,none⟩=some x) (hf:w.frozen? ⟨b,v,none⟩=false):
  Calls Tryz.prog 150 #[.pointer (some ⟨b,0,none⟩),.pointer (some ⟨a,0,none⟩),.pointer (some ⟨d,0,none⟩),.pointer (some ⟨c,0,none⟩)] w
   fun e w'=>e= .returned (.bool true)/\jt w' (w.setCell ⟨b,v,none⟩ (.int .i64 n)):=by
 have h1:(0:Int)<=(t:Int):=by omega
 have h2:(t:Int)<4:=by omega
 have h3:(0:Int)<=(r:Int):=by omega
 have h4:(r:Int)<4:=by omega
 have h5:(0:Int)<=(v:Int):=by omega
 have h6:(v:Int)<4:=by omega
 go_enter Tryz.func150,Tryz.ntmps150
 go_wp2
 go_region
 all_goals (go_wp2;go_ret;exact⟨rfl,rfl,rfl,rfl,rfl⟩)
theorem C3(t r:Nat)(ht:t<4)(hr:r<4)(n y:Int)(b d h f:Nat)(w:World)(x:Value)
  (hnc:w.cell? ⟨d,0,none⟩=some (.int .i64 n)) (htc:w.cell? ⟨h,0,none⟩=some (.int .i64 t)) (hrc:w.cell? ⟨f,0,none⟩=some (.int .i64 r))
  (hy:w.cell? ⟨b,10+t*4+r,none⟩=some (.int .i64 y))
  (hx:w.cell? ⟨b,26+t,none⟩=some x) (hf:w.frozen? ⟨b,26+t,none⟩=false):
  Calls Tryz.prog 153 #[.pointer (some ⟨b,0,none⟩),.pointer (some ⟨h,0,none⟩),.pointer (some ⟨f,0,none⟩),.pointer (some ⟨d,0,none⟩)] w
   fun e w'=>e= .returned (.bool true)/\jt w' (if y=0 then w.setCell ⟨b,26+t,none⟩ (.int .i64 n) else w):=by
 have h1:(0:Int)<=(t:Int):=by omega
 have h2:(t:Int)<4:=by omega
 have h3:(0:Int)<=(r:Int):=by omega
 have h4:(r:Int)<4:=by omega
 by_cases a:(y==0)=true
 ·have c:y=0:=by simpa using a
  rw [if_pos c];have HZ:Hid (y=0):=c;clear c;go_enter Tryz.func153,Tryz.ntmps153
  go_wp2
  go_region
  all_goals (go_wp2;go_region)
  all_goals (go_wp2;go_ret;exact⟨rfl,rfl,rfl,rfl,rfl⟩)
 ·have hz2:(y==0)=false:=by simpa using a
  rw [if_neg (by simpa using a)];clear a;go_enter Tryz.func153,Tryz.ntmps153
  go_wp2
  go_region
  all_goals (go_wp2;go_ret;exact⟨rfl,rfl,rfl,rfl,rfl⟩)
theorem yp(t r:Nat)(ht:t<4)(hr:r<4)(y:Int)(b c a:Nat)(w:World)
  (htc:w.cell? ⟨c,0,none⟩=some (.int .i64 t)) (hrc:w.cell? ⟨a,0,none⟩=some (.int .i64 r))
  (hy:w.cell? ⟨b,10+t*4+r,none⟩=some (.int .i64 y)):
  Calls Tryz.prog 156 #[.pointer (some ⟨b,0,none⟩),.pointer (some ⟨c,0,none⟩),.pointer (some ⟨a,0,none⟩)] w
   fun e w'=>e= .returned (.bool (y !=0))/\jt w' w:=by
 have h1:(0:Int)<=(t:Int):=by omega
 have h2:(t:Int)<4:=by omega
 have h3:(0:Int)<=(r:Int):=by omega
 have h4:(r:Int)<4:=by omega
 go_enter Tryz.func156,Tryz.ntmps156
 go_wp2
 go_region
 all_goals (go_wp2;go_ret;exact⟨rfl,rfl,rfl,rfl,rfl⟩)
theorem CE(t l:Nat)(hl:l<3)(b c a:Nat)(w:World)(x y:Value)
  (htc:w.cell? ⟨c,0,none⟩=some (.int .i64 t)) (hlc:w.cell? ⟨a,0,none⟩=some (.int .i64 l))
  (hx:w.cell? ⟨b,4+l*2,none⟩=some x) (hf:w.frozen? ⟨b,4+l*2,none⟩=false)
  (hy:w.cell? ⟨b,4+l*2+1,none⟩=some y) (hf2:w.frozen? ⟨b,4+l*2+1,none⟩=false):
  Calls Tryz.prog 154 #[.pointer (some ⟨b,0,none⟩),.pointer (some ⟨c,0,none⟩),.pointer (some ⟨a,0,none⟩)] w
   fun e w'=>e= .returned (.bool true)/\jt w' ((w.setCell ⟨b,4+l*2,none⟩ (.bool true)).setCell ⟨b,4+l*2+1,none⟩ (.int .i64 t)):=by
 have h3:(0:Int)<=(l:Int):=by omega
 have h4:(l:Int)<3:=by omega
 go_enter Tryz.func154,Tryz.ntmps154
 go_wp2
 go_region
 all_goals (go_wp2;go_ret;exact⟨rfl,rfl,rfl,rfl,rfl⟩)
theorem rS(t l:Nat)(hl:l<3)(b a c:Nat)(w:World)
  (hmc:w.cell? ⟨a,0,none⟩=some (.bool true)) (hmc2:w.cell? ⟨a,1,none⟩=some (.int .i64 t)) (hlc:w.cell? ⟨c,0,none⟩=some (.int .i64 l))
  (hx:w.cell? ⟨b,4+l*2,none⟩=some (.bool true)) (hf:w.frozen? ⟨b,4+l*2,none⟩=false)
  (hy:w.cell? ⟨b,4+l*2+1,none⟩=some (.int .i64 t)) (hf2:w.frozen? ⟨b,4+l*2+1,none⟩=false):
  Calls Tryz.prog 155 #[.pointer (some ⟨b,0,none⟩),.pointer (some ⟨c,0,none⟩),.pointer (some ⟨a,0,none⟩)] w
   fun e w'=>e= .returned (.bool true)/\jt w' ((w.setCell ⟨b,4+l*2,none⟩ (.bool false)).setCell ⟨b,4+l*2+1,none⟩ (.int .i64 0)):=by
 have h3:(0:Int)<=(l:Int):=by omega
 have h4:(l:Int)<3:=by omega
 go_enter Tryz.func155,Tryz.ntmps155
 go_wp2
 go_region
 all_goals (go_wp2;go_region)
 all_goals (go_wp2;go_ret;exact⟨rfl,rfl,rfl,rfl,rfl⟩)
theorem qN(t l:Nat)(hl:l<3)(b a c:Nat)(w:World)(o:Int)
  (hmc:w.cell? ⟨a,0,none⟩=some (.bool true)) (hmc2:w.cell? ⟨a,1,none⟩=some (.int .i64 t)) (hlc:w.cell? ⟨c,0,none⟩=some (.int .i64 l))
  (hx:w.cell? ⟨b,4+l*2,none⟩=some (.bool false))
  (hy:w.cell? ⟨b,4+l*2+1,none⟩=some (.int .i64 o)):
  Calls Tryz.prog 155 #[.pointer (some ⟨b,0,none⟩),.pointer (some ⟨c,0,none⟩),.pointer (some ⟨a,0,none⟩)] w
   fun e w'=>e= .returned (.bool false)/\jt w' w:=by
 have h3:(0:Int)<=(l:Int):=by omega
 have h4:(l:Int)<3:=by omega
 go_enter Tryz.func155,Tryz.ntmps155
 go_wp2
 go_region
 all_goals (go_wp2;go_ret;exact⟨rfl,rfl,rfl,rfl,rfl⟩)
theorem tt(t l:Nat)(hl:l<3)(b a c:Nat)(w:World)(o:Int)(ho:¬o=t)
  (hmc:w.cell? ⟨a,0,none⟩=some (.bool true)) (hmc2:w.cell? ⟨a,1,none⟩=some (.int .i64 t)) (hlc:w.cell? ⟨c,0,none⟩=some (.int .i64 l))
  (hx:w.cell? ⟨b,4+l*2,none⟩=some (.bool true))
  (hy:w.cell? ⟨b,4+l*2+1,none⟩=some (.int .i64 o)):
  Calls Tryz.prog 155 #[.pointer (some ⟨b,0,none⟩),.pointer (some ⟨c,0,none⟩),.pointer (some ⟨a,0,none⟩)] w
   fun e w'=>e= .returned (.bool false)/\jt w' w:=by
 have h3:(0:Int)<=(l:Int):=by omega
 have h4:(l:Int)<3:=by omega
 go_enter Tryz.func155,Tryz.ntmps155
 go_wp2
 go_region
 all_goals (go_wp2;go_ret;exact⟨rfl,rfl,rfl,rfl,rfl⟩)
theorem Ez(x y:Int)(w:World):Calls Tryz.prog 114 #[.int .i64 x,.int .i64 y] w fun e w'=>e= .returned (.int .i64 (wrap64 (x+y)))/\w'=w:=by
 go_enter Tryz.func114,Tryz.ntmps114
 go_wp2
 go_ret;exact⟨rfl,rfl⟩
theorem D1(t a c:Nat)(ht:t<4)(hr:a<4)(hv:c<4)(x y:Int)(b h f i d:Nat)(w:World)
  (hfc:w.cell? ⟨h,0,none⟩=some (.func (.func 114) #[] #[]))
  (htc:w.cell? ⟨f,0,none⟩=some (.int .i64 t)) (hac:w.cell? ⟨i,0,none⟩=some (.int .i64 a)) (hcc:w.cell? ⟨d,0,none⟩=some (.int .i64 c))
  (hx:w.cell? ⟨b,10+t*4+a,none⟩=some (.int .i64 x)) (hy:w.cell? ⟨b,10+t*4+c,none⟩=some (.int .i64 y)) (hf:w.frozen? ⟨b,10+t*4+a,none⟩=false):
  Calls Tryz.prog 151 #[.pointer (some ⟨b,0,none⟩),.pointer (some ⟨h,0,none⟩),.pointer (some ⟨f,0,none⟩),.pointer (some ⟨i,0,none⟩),.pointer (some ⟨d,0,none⟩)] w
   fun e w'=>e= .returned (.bool true)/\jt w' (w.setCell ⟨b,10+t*4+a,none⟩ (.int .i64 (wrap64 (x+y)))):=by
 have h1:(0:Int)<=(t:Int):=by omega
 have h2:(t:Int)<4:=by omega
 have h3:(0:Int)<=(a:Int):=by omega
 have h4:(a:Int)<4:=by omega
 have h5:(0:Int)<=(c:Int):=by omega
 have h6:(c:Int)<4:=by omega
 go_enter Tryz.func151,Tryz.ntmps151
 go_wp2
 refine wp_region_still_tail 25 (by kernel_rfl) (by kernel_rfl) ?_;simp only [List.take_succ_cons,List.take_zero,List.drop_succ_cons,List.drop_zero];iterate 20 still_step
 still_call (Ez _ _ _)
 iterate 4 still_step
 refine wpStill_nil ?_
 all_goals (go_wp2;go_ret;exact⟨rfl,rfl,rfl,rfl,rfl⟩)
theorem Ei(x y:Int)(w:World):Calls Tryz.prog 115 #[.int .i64 x,.int .i64 y] w fun e w'=>e= .returned (.int .i64 (wrap64 (x - y)))/\w'=w:=by
 go_enter Tryz.func115,Tryz.ntmps115
 go_wp2
 go_ret;exact⟨rfl,rfl⟩
theorem DX(t a c:Nat)(ht:t<4)(hr:a<4)(hv:c<4)(x y:Int)(b h f i d:Nat)(w:World)
  (hfc:w.cell? ⟨h,0,none⟩=some (.func (.func 115) #[] #[]))
  (htc:w.cell? ⟨f,0,none⟩=some (.int .i64 t)) (hac:w.cell? ⟨i,0,none⟩=some (.int .i64 a)) (hcc:w.cell? ⟨d,0,none⟩=some (.int .i64 c))
  (hx:w.cell? ⟨b,10+t*4+a,none⟩=some (.int .i64 x)) (hy:w.cell? ⟨b,10+t*4+c,none⟩=some (.int .i64 y)) (hf:w.frozen? ⟨b,10+t*4+a,none⟩=false):
  Calls Tryz.prog 151 #[.pointer (some ⟨b,0,none⟩),.pointer (some ⟨h,0,none⟩),.pointer (some ⟨f,0,none⟩),.pointer (some ⟨i,0,none⟩),.pointer (some ⟨d,0,none⟩)] w
   fun e w'=>e= .returned (.bool true)/\jt w' (w.setCell ⟨b,10+t*4+a,none⟩ (.int .i64 (wrap64 (x - y)))):=by
 have h1:(0:Int)<=(t:Int):=by omega
 have h2:(t:Int)<4:=by omega
 have h3:(0:Int)<=(a:Int):=by omega
 have h4:(a:Int)<4:=by omega
 have h5:(0:Int)<=(c:Int):=by omega
 have h6:(c:Int)<4:=by omega
 go_enter Tryz.func151,Tryz.ntmps151
 go_wp2
 refine wp_region_still_tail 25 (by kernel_rfl) (by kernel_rfl) ?_;simp only [List.take_succ_cons,List.take_zero,List.drop_succ_cons,List.drop_zero];iterate 20 still_step
 still_call (Ei _ _ _)
 iterate 4 still_step
 refine wpStill_nil ?_
 all_goals (go_wp2;go_ret;exact⟨rfl,rfl,rfl,rfl,rfl⟩)
theorem EN(x y:Int)(w:World):Calls Tryz.prog 116 #[.int .i64 x,.int .i64 y] w fun e w'=>e= .returned (.int .i64 (wrap64 (x*y)))/\w'=w:=by
 go_enter Tryz.func116,Tryz.ntmps116
 go_wp2
 go_ret;exact⟨rfl,rfl⟩
theorem E5(t a c:Nat)(ht:t<4)(hr:a<4)(hv:c<4)(x y:Int)(b h f i d:Nat)(w:World)
  (hfc:w.cell? ⟨h,0,none⟩=some (.func (.func 116) #[] #[]))
  (htc:w.cell? ⟨f,0,none⟩=some (.int .i64 t)) (hac:w.cell? ⟨i,0,none⟩=some (.int .i64 a)) (hcc:w.cell? ⟨d,0,none⟩=some (.int .i64 c))
  (hx:w.cell? ⟨b,10+t*4+a,none⟩=some (.int .i64 x)) (hy:w.cell? ⟨b,10+t*4+c,none⟩=some (.int .i64 y)) (hf:w.frozen? ⟨b,10+t*4+a,none⟩=false):
  Calls Tryz.prog 151 #[.pointer (some ⟨b,0,none⟩),.pointer (some ⟨h,0,none⟩),.pointer (some ⟨f,0,none⟩),.pointer (some ⟨i,0,none⟩),.pointer (some ⟨d,0,none⟩)] w
   fun e w'=>e= .returned (.bool true)/\jt w' (w.setCell ⟨b,10+t*4+a,none⟩ (.int .i64 (wrap64 (x*y)))):=by
 have h1:(0:Int)<=(t:Int):=by omega
 have h2:(t:Int)<4:=by omega
 have h3:(0:Int)<=(a:Int):=by omega
 have h4:(a:Int)<4:=by omega
 have h5:(0:Int)<=(c:Int):=by omega
 have h6:(c:Int)<4:=by omega
 go_enter Tryz.func151,Tryz.ntmps151
 go_wp2
 refine wp_region_still_tail 25 (by kernel_rfl) (by kernel_rfl) ?_;simp only [List.take_succ_cons,List.take_zero,List.drop_succ_cons,List.drop_zero];iterate 20 still_step
 still_call (EN _ _ _)
 iterate 4 still_step
 refine wpStill_nil ?_
 all_goals (go_wp2;go_ret;exact⟨rfl,rfl,rfl,rfl,rfl⟩)
theorem yf(t a c:Nat)(ht:t<4)(hr:a<4)(hv:c<4)(b h f d:Nat)(w:World)
  (htc:w.cell? ⟨h,0,none⟩=some (.int .i64 t)) (_hac:w.cell? ⟨f,0,none⟩=some (.int .i64 a)) (hcc:w.cell? ⟨d,0,none⟩=some (.int .i64 c))
  (hy:w.cell? ⟨b,10+t*4+c,none⟩=some (.int .i64 0)):
  Calls Tryz.prog 152 #[.pointer (some ⟨b,0,none⟩),.pointer (some ⟨h,0,none⟩),.pointer (some ⟨d,0,none⟩),.pointer (some ⟨f,0,none⟩)] w
   fun e w'=>e= .returned (.bool false)/\jt w' w:=by
 have h1:(0:Int)<=(t:Int):=by omega
 have h2:(t:Int)<4:=by omega
 have h3:(0:Int)<=(a:Int):=by omega
 have h4:(a:Int)<4:=by omega
 have h5:(0:Int)<=(c:Int):=by omega
 have h6:(c:Int)<4:=by omega
 go_enter Tryz.func152,Tryz.ntmps152
 go_wp2
 go_region
 all_goals (go_wp2;go_ret;exact⟨rfl,rfl,rfl,rfl,rfl⟩)
theorem wh(t a c:Nat)(ht:t<4)(hr:a<4)(hv:c<4)(x y:Int)(i:(y==0)=false)(b h f d:Nat)(w:World)
  (htc:w.cell? ⟨h,0,none⟩=some (.int .i64 t)) (hac:w.cell? ⟨f,0,none⟩=some (.int .i64 a)) (hcc:w.cell? ⟨d,0,none⟩=some (.int .i64 c))
  (hx:w.cell? ⟨b,10+t*4+a,none⟩=some (.int .i64 x)) (hy:w.cell? ⟨b,10+t*4+c,none⟩=some (.int .i64 y)) (hf:w.frozen? ⟨b,10+t*4+a,none⟩=false):
  Calls Tryz.prog 152 #[.pointer (some ⟨b,0,none⟩),.pointer (some ⟨h,0,none⟩),.pointer (some ⟨d,0,none⟩),.pointer (some ⟨f,0,none⟩)] w
   fun e w'=>e= .returned (.bool true)/\jt w' (w.setCell ⟨b,10+t*4+a,none⟩ (.int .i64 (wrap64 (x.tdiv y)))):=by
 have h1:(0:Int)<=(t:Int):=by omega
 have h2:(t:Int)<4:=by omega
 have h3:(0:Int)<=(a:Int):=by omega
 have h4:(a:Int)<4:=by omega
 have h5:(0:Int)<=(c:Int):=by omega
 have h6:(c:Int)<4:=by omega
 have h7:¬y=0:=by simpa using i
 go_enter Tryz.func152,Tryz.ntmps152
 go_wp2
 go_region
 all_goals (go_wp2;go_region)
 all_goals (go_wp2;go_ret;exact⟨rfl,rfl,rfl,rfl,rfl⟩)
def St.cells(s:St):Array Value:= #[.int .i64 (s.vars 0),.int .i64 (s.vars 1),.int .i64 (s.vars 2),.int .i64 (s.vars 3),
 .bool (s.held 0),.int .i64 (s.own 0),.bool (s.held 1),.int .i64 (s.own 1),.bool (s.held 2),.int .i64 (s.own 2),
 .int .i64 (s.regs 0 0),.int .i64 (s.regs 0 1),.int .i64 (s.regs 0 2),.int .i64 (s.regs 0 3),.int .i64 (s.regs 1 0),.int .i64 (s.regs 1 1),.int .i64 (s.regs 1 2),.int .i64 (s.regs 1 3),
 .int .i64 (s.regs 2 0),.int .i64 (s.regs 2 1),.int .i64 (s.regs 2 2),.int .i64 (s.regs 2 3),.int .i64 (s.regs 3 0),.int .i64 (s.regs 3 1),.int .i64 (s.regs 3 2),.int .i64 (s.regs 3 3),
 .int .i64 (s.next 0),.int .i64 (s.next 1),.int .i64 (s.next 2),.int .i64 (s.next 3)]
def StAt(w:World)(b:Nat)(s:St):Prop:=w.heap[b]?=some (.cells s.cells 122 (0,0))
theorem lt4{t:Nat}(h:t<4):t=0\/t=1\/t=2\/t=3:=by omega
theorem lt3{t:Nat}(h:t<3):t=0\/t=1\/t=2:=by omega
theorem StAt.cell{w:World}{b:Nat}{s:St}(h:StAt w b s)(o:Nat):w.cell? ⟨b,o,none⟩=s.cells[o]?:=by
 unfold StAt at h;simp [World.cell?,h]
theorem StAt.frozen{w:World}{b:Nat}{s:St}(h:StAt w b s)(o:Nat):w.frozen? ⟨b,o,none⟩=false:=by
 unfold StAt at h;simp [World.frozen?,h]
theorem StAt.var{w:World}{b:Nat}{s:St}(h:StAt w b s){v:Nat}(a:v<4):w.cell? ⟨b,v,none⟩=some (.int .i64 (s.vars v)):=by
 rw [h.cell];rcases lt4 a with rfl | rfl | rfl | rfl<;>rfl
theorem StAt.held{w:World}{b:Nat}{s:St}(h:StAt w b s){l:Nat}(a:l<3):w.cell? ⟨b,4+l*2,none⟩=some (.bool (s.held l)):=by
 rw [h.cell];rcases lt3 a with rfl | rfl | rfl<;>rfl
theorem StAt.own{w:World}{b:Nat}{s:St}(h:StAt w b s){l:Nat}(a:l<3):w.cell? ⟨b,4+l*2+1,none⟩=some (.int .i64 (s.own l)):=by
 rw [h.cell];rcases lt3 a with rfl | rfl | rfl<;>rfl
theorem StAt.reg{w:World}{b:Nat}{s:St}(h:StAt w b s){t r:Nat}(a:t<4)(c:r<4):w.cell? ⟨b,10+t*4+r,none⟩=some (.int .i64 (s.regs t r)):=by
 rw [h.cell];rcases lt4 a with rfl | rfl | rfl | rfl<;>rcases lt4 c with rfl | rfl | rfl | rfl<;>rfl
theorem StAt.next{w:World}{b:Nat}{s:St}(h:StAt w b s){t:Nat}(a:t<4):w.cell? ⟨b,26+t,none⟩=some (.int .i64 (s.next t)):=by
 rw [h.cell];rcases lt4 a with rfl | rfl | rfl | rfl<;>rfl
theorem ls(s:St){t r:Nat}(a:t<4)(b:r<4)(v:Int):s.cells.setIfInBounds (10+t*4+r) (.int .i64 v)=(s.setReg t r v).cells:=by
 rcases lt4 a with rfl | rfl | rfl | rfl<;>rcases lt4 b with rfl | rfl | rfl | rfl<;>rfl
theorem uN(s:St){x:Nat}(a:x<4)(v:Int):s.cells.setIfInBounds x (.int .i64 v)=(s.setVar x v).cells:=by
 rcases lt4 a with rfl | rfl | rfl | rfl<;>rfl
theorem py(s:St){x:Nat}(a:x<4)(v:Int):s.cells.setIfInBounds (26+x) (.int .i64 v)=(s.setNext x v).cells:=by
 rcases lt4 a with rfl | rfl | rfl | rfl<;>rfl
theorem pw(s:St){l:Nat}(a:l<3)(h:Bool)(o:Int):(s.cells.setIfInBounds (4+l*2) (.bool h)).setIfInBounds (4+l*2+1) (.int .i64 o)=(s.setLock l h o).cells:=by
 rcases lt3 a with rfl | rfl | rfl<;>rfl
theorem StAt.setCell{w:World}{b:Nat}{s a:St}{o:Nat}{v:Value}(h:StAt w b s)(e:s.cells.setIfInBounds o v=a.cells):StAt (w.setCell ⟨b,o,none⟩ v) b a:=by
 unfold StAt at*;rw [heap_setCell_same w b o _ _ v h,e]
theorem StAt.setCell2{w:World}{b:Nat}{s d:St}{o a:Nat}{v c:Value}(h:StAt w b s)(e:(s.cells.setIfInBounds o v).setIfInBounds a c=d.cells):StAt ((w.setCell ⟨b,o,none⟩ v).setCell ⟨b,a,none⟩ c) b d:=by
 unfold StAt at*;rw [heap_setCell_same _ b a _ _ c (heap_setCell_same w b o _ _ v h),e]
theorem StAt.like{w w':World}{b:Nat}{s:St}(h:StAt w b s)(hl:jt w' w):StAt w' b s:=by unfold StAt at*;rw [hl.1];exact h
theorem ir(w:World)(r:Option Nat):w.grownBy w r:=⟨rfl,rfl,rfl,Nat.le_refl _,fun _ _ _=>rfl⟩
theorem jg{w w' w'':World}{r:Option Nat}(h:w.grownBy w' r)(hl:jt w'' w'):w.grownBy w'' r:=
 ⟨hl.2.1.trans h.os,hl.2.2.2.trans h.tape,hl.2.2.1.trans h.output,by rw [hl.1];exact h.size,fun k hk hr=>by rw [hl.1];exact h.block k hk hr⟩
theorem il{w w' w'':World}{r:Option Nat}(h:w.grownBy w' r)(h':w'.grownBy w'' r):w.grownBy w'' r:=
 ⟨h'.os.trans h.os,h'.tape.trans h.tape,h'.output.trans h.output,Nat.le_trans h.size h'.size,fun k hk hr=>(h'.block k (Nat.lt_of_lt_of_le hk h.size) hr).trans (h.block k hk hr)⟩
theorem iV{w:World}{b o:Nat}{v:Value}:w.grownBy (w.setCell ⟨b,o,none⟩ v) (some b):=
 ⟨rfl,rfl,rfl,by simp,fun k _ hr=>Below.heap_setCell w _ v k (by simpa using hr)⟩
theorem sJ{w:World}{b o o':Nat}{v v':Value}:w.grownBy ((w.setCell ⟨b,o,none⟩ v).setCell ⟨b,o',none⟩ v') (some b):=il iV iV
def FN(w:World)(v:Value)(b:Nat)(R:Bool->World->Prop):Prop:=
 ∃ k caps,v= .func (.func k) #[] caps/\(∀ args w,(callFunc k args).run Tryz.prog w= .ok (.enter k args) w)/\
  Calls Tryz.prog k (#[.pointer (some ⟨b,0,none⟩)]++caps) w fun e w'=>∃ r,e= .returned (.bool r)/\R r w'
def pt(b:Nat):Value:= .pointer (some ⟨b,0,none⟩)
def ActIs(B:Nat)(w:World)(v:Value)(t:Nat)(i:Ins):Prop:=
 ∃ x y z u:Nat,x<B/\y<B/\z<B/\u<B/\
 ((i.op=1/\v= .func (.func 148) #[] #[pt x,pt y,pt z]/\w.cell? ⟨x,0,none⟩=some (.int .i64 i.n)/\w.cell? ⟨y,0,none⟩=some (.int .i64 t)/\w.cell? ⟨z,0,none⟩=some (.int .i64 i.a))\/
  (i.op=2/\v= .func (.func 149) #[] #[pt x,pt y,pt z]/\w.cell? ⟨x,0,none⟩=some (.int .i64 i.b)/\w.cell? ⟨y,0,none⟩=some (.int .i64 t)/\w.cell? ⟨z,0,none⟩=some (.int .i64 i.a))\/
  (i.op=3/\v= .func (.func 150) #[] #[pt x,pt y,pt z]/\w.cell? ⟨x,0,none⟩=some (.int .i64 t)/\w.cell? ⟨y,0,none⟩=some (.int .i64 i.b)/\w.cell? ⟨z,0,none⟩=some (.int .i64 i.a))\/
  (∃ f,(i.op=4/\f=114\/i.op=5/\f=115\/i.op=6/\f=116)/\v= .func (.func 151) #[] #[pt x,pt y,pt z,pt u]/\w.cell? ⟨x,0,none⟩=some (.func (.func f) #[] #[])/\w.cell? ⟨y,0,none⟩=some (.int .i64 t)/\w.cell? ⟨z,0,none⟩=some (.int .i64 i.a)/\w.cell? ⟨u,0,none⟩=some (.int .i64 i.b))\/
  (i.op=7/\v= .func (.func 152) #[] #[pt x,pt y,pt z]/\w.cell? ⟨x,0,none⟩=some (.int .i64 t)/\w.cell? ⟨y,0,none⟩=some (.int .i64 i.b)/\w.cell? ⟨z,0,none⟩=some (.int .i64 i.a))\/
  (i.op=8/\v= .func (.func 153) #[] #[pt x,pt y,pt z]/\w.cell? ⟨x,0,none⟩=some (.int .i64 t)/\w.cell? ⟨y,0,none⟩=some (.int .i64 i.a)/\w.cell? ⟨z,0,none⟩=some (.int .i64 i.n))\/
  (i.op=9/\v= .func (.func 154) #[] #[pt x,pt y]/\w.cell? ⟨x,0,none⟩=some (.int .i64 t)/\w.cell? ⟨y,0,none⟩=some (.int .i64 i.a))\/
  (i.op=10/\v= .func (.func 155) #[] #[pt x,pt y]/\w.cell? ⟨x,0,none⟩=some (.int .i64 i.a)/\w.cell? ⟨y,0,none⟩=some (.bool true)/\w.cell? ⟨y,1,none⟩=some (.int .i64 t))\/
  (i.op=11/\v= .func (.func 156) #[] #[pt x,pt y]/\w.cell? ⟨x,0,none⟩=some (.int .i64 t)/\w.cell? ⟨y,0,none⟩=some (.int .i64 i.a)))
theorem ActIs.of_block{B:Nat}{w w':World}{v:Value}{t:Nat}{i:Ins}(h:ActIs B w v t i)(a:∀ k,k<B->w'.heap[k]?=w.heap[k]?):ActIs B w' v t i:=by
 obtain⟨x,y,z,u,b,c,d,e,h⟩:=h;have l:∀ o,w'.cell? ⟨x,o,none⟩=w.cell? ⟨x,o,none⟩:=fun o=>World.cell?_of_block (a x b)
 have j:∀ o,w'.cell? ⟨y,o,none⟩=w.cell? ⟨y,o,none⟩:=fun o=>World.cell?_of_block (a y c)
 have f:∀ o,w'.cell? ⟨z,o,none⟩=w.cell? ⟨z,o,none⟩:=fun o=>World.cell?_of_block (a z d)
 have m:∀ o,w'.cell? ⟨u,o,none⟩=w.cell? ⟨u,o,none⟩:=fun o=>World.cell?_of_block (a u e)
 exact⟨x,y,z,u,b,c,d,e,by simpa only [l,j,f,m]using h⟩
theorem ActIs.mono{B a:Nat}{w:World}{v:Value}{t:Nat}{i:Ins}(h:ActIs B w v t i)(hb:B<=a):ActIs a w v t i:=by
 obtain⟨x,y,z,u,hx,hy,hz,hu,h⟩:=h;exact⟨x,y,z,u,by omega,by omega,by omega,by omega,h⟩
def Acted(b:Nat)(w:World)(t:Nat)(i:Ins)(s:St)(r:Bool)(w':World):Prop:=r=(act t i s).1/\StAt w' b (act t i s).2/\w.grownBy w' (some b)
theorem la{w:World}{b k:Nat}{caps:Array Value}{R:Bool->World->Prop}{r:Bool}{w0:World}(hk:∀ args w,(callFunc k args).run Tryz.prog w= .ok (.enter k args) w)
  (hc:Calls Tryz.prog k (#[.pointer (some ⟨b,0,none⟩)]++caps) w fun e w'=>e= .returned (.bool r)/\jt w' w0) (hR:∀ w',jt w' w0->R r w'):FN w (.func (.func k) #[] caps) b R:=
 ⟨k,caps,rfl,hk,hc.mono fun _e w' ⟨he,hl⟩=>⟨r,he,hR w' hl⟩⟩
theorem Acted.mk{b t:Nat}{w w0 w':World}{i:Ins}{s s':St}{r:Bool}(ha:act t i s=(r,s'))(hs:StAt w0 b s')(hg:w.grownBy w0 (some b))(hl:jt w' w0):Acted b w t i s r w':=
 ⟨by rw [ha],by rw [ha];exact hs.like hl,jg hg hl⟩
theorem Cq{B:Nat}{w:World}{v:Value}{t:Nat}{i:Ins}{len:Int}{b:Nat}{s:St}(d:t<4)(F:lG i len=true)(h:ActIs B w v t i)(c:StAt w b s):
  FN w v b (Acted b w t i s):=by
 obtain⟨x,y,z,u,_,_,_,_,h⟩:=h;have hsay:=oV F;rcases h with ⟨e,rfl,h1,h2,h3⟩ | ⟨e,rfl,h1,h2,h3⟩ | ⟨e,rfl,h1,h2,h3⟩ | ⟨f,p,rfl,h1,h2,h3,h4⟩ | ⟨e,rfl,h1,h2,h3⟩ | ⟨e,rfl,h1,h2,h3⟩ | ⟨e,rfl,h1,h2⟩ | ⟨e,rfl,h1,h2,h3⟩ | ⟨e,rfl,h1,h2⟩
 ·have q:0<=i.a/\i.a<4:=by omega
  have k:((i.a.toNat:Nat):Int)=i.a:=by omega
  rw [<-k]at h3;have j:i.a.toNat<4:=by omega
  exact la Tryz.call148 (E2 t i.a.toNat d j i.n b x y z w _ h1 h2 h3 (c.reg d j) (c.frozen _))
   fun w' hl=>Acted.mk (by simp [act,e]) (c.setCell (ls s d j _)) iV hl
 ·have q:0<=i.a/\i.a<4/\0<=i.b/\i.b<4:=by omega
  have k:((i.a.toNat:Nat):Int)=i.a:=by omega
  have r:((i.b.toNat:Nat):Int)=i.b:=by omega
  rw [<-k]at h3;rw [<-r]at h1
  have j:i.a.toNat<4:=by omega
  have l:i.b.toNat<4:=by omega
  exact la Tryz.call149 (Dm t i.a.toNat i.b.toNat d j l _ b x y z w _ h1 h2 h3 (c.var l) (c.reg d j) (c.frozen _))
   fun w' hl=>Acted.mk (by simp [act,e]) (c.setCell (ls s d j _)) iV hl
 ·have q:0<=i.a/\i.a<4/\0<=i.b/\i.b<4:=by omega
  have k:((i.a.toNat:Nat):Int)=i.a:=by omega
  have r:((i.b.toNat:Nat):Int)=i.b:=by omega
  rw [<-k]at h3;rw [<-r]at h2
  have j:i.a.toNat<4:=by omega
  have l:i.b.toNat<4:=by omega
  exact la Tryz.call150 (A7 t i.b.toNat i.a.toNat d l j _ b z x y w _ h3 h1 h2 (c.reg d l) (c.var j) (c.frozen _))
   fun w' hl=>Acted.mk (by simp [act,e]) (c.setCell (uN s j _)) iV hl
 ·have hop:i.op=4\/i.op=5\/i.op=6:=by rcases p with p | p | p<;>simp [p.1]
  have q:0<=i.a/\i.a<4/\0<=i.b/\i.b<4:=by omega
  have k:((i.a.toNat:Nat):Int)=i.a:=by omega
  have r:((i.b.toNat:Nat):Int)=i.b:=by omega
  rw [<-k]at h3;rw [<-r]at h4
  have j:i.a.toNat<4:=by omega
  have l:i.b.toNat<4:=by omega
  rcases p with ⟨e,rfl⟩ | ⟨e,rfl⟩ | ⟨e,rfl⟩
  ·exact la Tryz.call151 (D1 t i.a.toNat i.b.toNat d j l _ _ b x y z u w h1 h2 h3 h4 (c.reg d j) (c.reg d l) (c.frozen _))
    fun w' hl=>Acted.mk (by simp [act,e]) (c.setCell (ls s d j _)) iV hl
  ·exact la Tryz.call151 (DX t i.a.toNat i.b.toNat d j l _ _ b x y z u w h1 h2 h3 h4 (c.reg d j) (c.reg d l) (c.frozen _))
    fun w' hl=>Acted.mk (by simp [act,e]) (c.setCell (ls s d j _)) iV hl
  ·exact la Tryz.call151 (E5 t i.a.toNat i.b.toNat d j l _ _ b x y z u w h1 h2 h3 h4 (c.reg d j) (c.reg d l) (c.frozen _))
    fun w' hl=>Acted.mk (by simp [act,e]) (c.setCell (ls s d j _)) iV hl
 ·have q:0<=i.a/\i.a<4/\0<=i.b/\i.b<4:=by omega
  have k:((i.a.toNat:Nat):Int)=i.a:=by omega
  have r:((i.b.toNat:Nat):Int)=i.b:=by omega
  rw [<-k]at h3;rw [<-r]at h2
  have j:i.a.toNat<4:=by omega
  have l:i.b.toNat<4:=by omega
  by_cases o:s.regs t i.b.toNat=0
  ·have E:=c.reg d l;rw [o]at E;exact la Tryz.call152 (yf t i.a.toNat i.b.toNat d j l b x z y w h1 h3 h2 E)
    fun w' hl=>Acted.mk (by simp [act,e,o]) c (ir _ _) hl
  ·exact la Tryz.call152 (wh t i.a.toNat i.b.toNat d j l _ _ (by simpa using o) b x z y w h1 h3 h2 (c.reg d j) (c.reg d l) (c.frozen _))
    fun w' hl=>Acted.mk (by simp [act,e,o]) (c.setCell (ls s d j _)) iV hl
 ·have q:0<=i.a/\i.a<4:=by omega
  have k:((i.a.toNat:Nat):Int)=i.a:=by omega
  rw [<-k]at h2;have j:i.a.toNat<4:=by omega
  refine la Tryz.call153 (C3 t i.a.toNat d j i.n _ b z x y w _ h3 h1 h2 (c.reg d j) (c.next d) (c.frozen _)) fun w' hl=>?_
  by_cases o:s.regs t i.a.toNat=0
  ·rw [if_pos o]at hl;exact Acted.mk (by simp [act,e,o]) (c.setCell (py s d _)) iV hl
  ·rw [if_neg o]at hl;exact Acted.mk (by simp [act,e,o]) c (ir _ _) hl
 ·have q:0<=i.a/\i.a<3:=by omega
  have k:((i.a.toNat:Nat):Int)=i.a:=by omega
  rw [<-k]at h2;have m:i.a.toNat<3:=by omega
  exact la Tryz.call154 (CE t i.a.toNat m b x y w _ _ h1 h2 (c.held m) (c.frozen _) (c.own m) (c.frozen _))
   fun w' hl=>Acted.mk (by simp [act,e]) (c.setCell2 (pw s m _ _)) sJ hl
 ·have q:0<=i.a/\i.a<3:=by omega
  have k:((i.a.toNat:Nat):Int)=i.a:=by omega
  rw [<-k]at h1;have m:i.a.toNat<3:=by omega
  by_cases C:s.held i.a.toNat=true
  ·have c1:=c.held m;rw [C]at c1;by_cases A:s.own i.a.toNat=t
   ·have D:=c.own m;rw [A]at D;exact la Tryz.call155 (rS t i.a.toNat m b y x w h2 h3 h1 c1 (c.frozen _) D (c.frozen _))
     fun w' hl=>Acted.mk (by simp [act,e,C,A]) (c.setCell2 (pw s m _ _)) sJ hl
   ·exact la Tryz.call155 (tt t i.a.toNat m b y x w _ A h2 h3 h1 c1 (c.own m))
     fun w' hl=>Acted.mk (by simp [act,e,C,A]) c (ir _ _) hl
  ·have p:s.held i.a.toNat=false:=by simpa using C
   have c1:=c.held m;rw [p]at c1;exact la Tryz.call155 (qN t i.a.toNat m b y x w _ h2 h3 h1 c1 (c.own m))
    fun w' hl=>Acted.mk (by simp [act,e,p]) c (ir _ _) hl
 ·have q:0<=i.a/\i.a<4:=by omega
  have k:((i.a.toNat:Nat):Int)=i.a:=by omega
  rw [<-k]at h2;have j:i.a.toNat<4:=by omega
  exact la Tryz.call156 (yp t i.a.toNat d j _ b x y w h1 h2 (c.reg d j))
   fun w' hl=>Acted.mk (by simp [act,e]) c (ir _ _) hl
end
section
open Go.RowKit
attribute [local go_sem] Go.World.cell?_alloc_some
theorem iK{w w':World}{r:Option Nat}(h:w'.heap=w.heap/\w'.os=w.os/\w'.output=w.output/\w'.tape=w.tape):w.grownBy w' r:=jg (ir w r) h
theorem iq{w w':World}{r:Option Nat}{o:Obj}(h:w.grownBy w' r):w.grownBy (w'.alloc o) r:=
 il h ⟨rfl,rfl,rfl,by simp,fun k hk _=>Below.heap_alloc _ _ _ hk⟩
theorem iy{w w':World}{r:Option Nat}(h:w.grownBy w' r):w.grownBy w'.drew r:=jg h ⟨rfl,rfl,rfl,rfl⟩
theorem lf(w:World):∀ n,jt (w.drewN n) w
 | 0=>⟨rfl,rfl,rfl,rfl⟩
 | n+1=>lf w n
theorem iX{w w':World}{r:Option Nat}(n:Nat)(h:w.grownBy w' r):w.grownBy (w'.drewN n) r:=jg h (lf w' n)
theorem pU(m g a b t n:Nat)(d:Option Addr)(len c:Nat)(x:Int)(w:World)(ht:t<n)(ht4:t<4)
  (hm:w.cell? ⟨m,0,none⟩=some (.slice (some ⟨g,0,none⟩) n a)) (hr:w.cell? ⟨g,t,none⟩=some (.slice d len c)) (hx:w.cell? ⟨b,26+t,none⟩=some (.int .i64 x)):
  Calls Tryz.prog 122 #[.pointer (some ⟨m,0,none⟩),.pointer (some ⟨b,0,none⟩),.int .i64 t] w
   fun e w'=>e= .returned (.bool (x==(len:Int)))/\jt w' w:=by
 have h1:(0:Int)<=(t:Int):=by omega
 have h2:(t:Int)<4:=by omega
 have h3:(t:Int)<n:=by omega
 go_enter Tryz.func122,Tryz.ntmps122
 go_wp2
 go_region
 all_goals (go_wp2;go_ret;exact⟨rfl,rfl,rfl,rfl,rfl⟩)
theorem sG(m g a b t n:Nat)(d:Option Addr)(len c:Nat)(w:World)(h:t<n)(i:t<4)
  (j:w.cell? ⟨m,0,none⟩=some (.slice (some ⟨g,0,none⟩) n a)) (l:w.cell? ⟨g,t,none⟩=some (.slice d len c)) (f:w.cell? ⟨b,26+t,none⟩=some (.int .i64 len)):
  Calls Tryz.prog 81 #[.pointer (some ⟨m,0,none⟩),.pointer (some ⟨b,0,none⟩),.int .i64 t] w
   fun e w'=>e= .returned (.bool false)/\jt w' w:=by
 go_enter Tryz.func81,Tryz.ntmps81
 go_wp2_with fail
 refine(pU m g a b t n d len c len w h i j l f).mono ?_;rintro e w' ⟨rfl,k⟩;simp only [beq_self_eq_true];go_wp2
 go_ret;exact⟨rfl,k⟩
theorem s9(m g f b t n h k:Nat)(len c:Nat)(p:Nat)(B:Array Value)(l:Int)(w:World)(H:t<n)(I:t<4)(hk:k<len)
  (o:w.cell? ⟨m,0,none⟩=some (.slice (some ⟨g,0,none⟩) n f)) (i:w.cell? ⟨g,t,none⟩=some (.slice (some ⟨h,0,none⟩) len c)) (d:w.cell? ⟨b,26+t,none⟩=some (.int .i64 k))
  (A:w.cell? ⟨h,k*3,none⟩=some (.func (.func p) #[] B)) (s:w.cell? ⟨h,k*3+1,none⟩=some (.bool false)) (y:w.cell? ⟨h,k*3+2,none⟩=some (.int .i64 l)):
  Calls Tryz.prog 81 #[.pointer (some ⟨m,0,none⟩),.pointer (some ⟨b,0,none⟩),.int .i64 t] w
   fun e w'=>e= .returned (.bool true)/\w.grownBy w' none:=by
 have h1:(0:Int)<=(t:Int):=by omega
 have h2:(t:Int)<4:=by omega
 have h3:(t:Int)<n:=by omega
 have h4:(0:Int)<=(k:Int):=by omega
 have h5:(k:Int)<len:=by omega
 have D:((k:Int)==(len:Int))=false:=by simp;omega
 go_enter Tryz.func81,Tryz.ntmps81
 go_wp2_with fail
 refine(pU m g f b t n _ len c k w H I o i d).mono ?_;rintro e w' ⟨rfl,K⟩;rw [D];obtain⟨j,C,x,u⟩:=K;have c1:∀ a,w'.cell? a=w.cell? a:=fun a=>by simp [World.cell?,j]
 have G:Hid (w'.heap=w.heap/\w'.os=w.os/\w'.output=w.output/\w'.tape=w.tape):=⟨j,C,x,u⟩;have J:w'.cell? ⟨m,0,none⟩=some (.slice (some ⟨g,0,none⟩) n f):=by rw [c1];exact o
 have F:w'.cell? ⟨g,t,none⟩=some (.slice (some ⟨h,0,none⟩) len c):=by rw [c1];exact i
 have E:w'.cell? ⟨b,26+t,none⟩=some (.int .i64 k):=by rw [c1];exact d
 have L:w'.cell? ⟨h,k*3,none⟩=some (.func (.func p) #[] B):=by rw [c1];exact A
 have d1:w'.cell? ⟨h,k*3+1,none⟩=some (.bool false):=by rw [c1];exact s
 have d2:w'.cell? ⟨h,k*3+2,none⟩=some (.int .i64 l):=by rw [c1];exact y
 clear j C x u c1 o i d A s y;have r:=World.new_ne w' _ J;have v:=World.new_ne w' _ F;have q:=World.new_ne w' _ E;have z:=World.new_ne w' _ L;simp only at r v q z;have m1:=Ne.symm r;have m2:=Ne.symm v;have m3:=Ne.symm q;have m4:=Ne.symm z;go_wp2
 go_region
 go_wp2
 go_quiet (fail)
 go_wp2
 go_ret;exact⟨rfl,iX _ (iy (iq (iK G.out)))⟩
theorem tz(m g f b t n h k:Nat)(len c:Nat)(q:Nat)(D:Array Value)(l:Nat)(j:Bool)(hl3:l<3)(w:World)(J:t<n)(K:t<4)(hk:k<len)
  (p:w.cell? ⟨m,0,none⟩=some (.slice (some ⟨g,0,none⟩) n f)) (i:w.cell? ⟨g,t,none⟩=some (.slice (some ⟨h,0,none⟩) len c)) (d:w.cell? ⟨b,26+t,none⟩=some (.int .i64 k))
  (C:w.cell? ⟨h,k*3,none⟩=some (.func (.func q) #[] D)) (u:w.cell? ⟨h,k*3+1,none⟩=some (.bool true)) (z:w.cell? ⟨h,k*3+2,none⟩=some (.int .i64 l)) (A:w.cell? ⟨b,4+l*2,none⟩=some (.bool j)):
  Calls Tryz.prog 81 #[.pointer (some ⟨m,0,none⟩),.pointer (some ⟨b,0,none⟩),.int .i64 t] w
   fun e w'=>e= .returned (.bool (!j))/\w.grownBy w' none:=by
 have h1:(0:Int)<=(t:Int):=by omega
 have h2:(t:Int)<4:=by omega
 have h3:(t:Int)<n:=by omega
 have h4:(0:Int)<=(k:Int):=by omega
 have h5:(k:Int)<len:=by omega
 have F:((k:Int)==(len:Int))=false:=by simp;omega
 go_enter Tryz.func81,Tryz.ntmps81
 go_wp2_with fail
 refine(pU m g f b t n _ len c k w J K p i d).mono ?_;rintro e w' ⟨rfl,M⟩;rw [F];obtain⟨o,E,y,v⟩:=M;have c1:∀ a,w'.cell? a=w.cell? a:=fun a=>by simp [World.cell?,o]
 have I:Hid (w'.heap=w.heap/\w'.os=w.os/\w'.output=w.output/\w'.tape=w.tape):=⟨o,E,y,v⟩;have L:w'.cell? ⟨m,0,none⟩=some (.slice (some ⟨g,0,none⟩) n f):=by rw [c1];exact p
 have H:w'.cell? ⟨g,t,none⟩=some (.slice (some ⟨h,0,none⟩) len c):=by rw [c1];exact i
 have G:w'.cell? ⟨b,26+t,none⟩=some (.int .i64 k):=by rw [c1];exact d
 have N:w'.cell? ⟨h,k*3,none⟩=some (.func (.func q) #[] D):=by rw [c1];exact C
 have d1:w'.cell? ⟨h,k*3+1,none⟩=some (.bool true):=by rw [c1];exact u
 have d2:w'.cell? ⟨h,k*3+2,none⟩=some (.int .i64 l):=by rw [c1];exact z
 have d3:w'.cell? ⟨b,4+l*2,none⟩=some (.bool j):=by rw [c1];exact A
 have h6:(0:Int)<=(l:Int):=by omega
 have h7:(l:Int)<3:=by omega
 clear o E y v c1 p i d C u z A;have s:=World.new_ne w' _ L;have x:=World.new_ne w' _ H;have r:=World.new_ne w' _ G;have B:=World.new_ne w' _ N;simp only at s x r B;have m1:=Ne.symm s;have m2:=Ne.symm x;have m3:=Ne.symm r;have m4:=Ne.symm B;go_wp2
 go_region
 go_wp2
 go_quiet (fail)
 go_wp2
 go_ret;exact⟨rfl,iX _ (iy (iq (iK I.out)))⟩
theorem Df(m g i b t n h k:Nat)(len c:Nat)(a:Nat)(d:Array Value)(w:World)(R:Bool->World->Prop)(ht:t<n)(ht4:t<4)(hk:k<len)(hk16:k<16)
  (s:m≠b) (o:g≠b) (j:h≠b)
  (u:w.cell? ⟨m,0,none⟩=some (.slice (some ⟨g,0,none⟩) n i)) (p:w.cell? ⟨g,t,none⟩=some (.slice (some ⟨h,0,none⟩) len c)) (hx:w.cell? ⟨b,26+t,none⟩=some (.int .i64 k)) (hxf:w.frozen? ⟨b,26+t,none⟩=false)
  (q:w.cell? ⟨h,k*3,none⟩=some (.func (.func a) #[] d))
  (hent:∀ args w,(callFunc a args).run Tryz.prog w= .ok (.enter a args) w)
  (f:Calls Tryz.prog a (#[.pointer (some ⟨b,0,none⟩)]++d) (w.setCell ⟨b,26+t,none⟩ (.int .i64 ((k:Int)+1))) fun e w'=>∃ r,e= .returned (.bool r)/\R r w'):
  Calls Tryz.prog 82 #[.pointer (some ⟨m,0,none⟩),.pointer (some ⟨b,0,none⟩),.int .i64 t] w
   fun e w'=>∃ r,e= .returned (.bool r)/\R r w':=by
 have h1:(0:Int)<=(t:Int):=by omega
 have h2:(t:Int)<4:=by omega
 have h3:(t:Int)<n:=by omega
 have h4:(0:Int)<=(k:Int):=by omega
 have h5:(k:Int)<len:=by omega
 have h6:(k:Int)<16:=by omega
 have v:Hid (Calls Tryz.prog a (#[.pointer (some ⟨b,0,none⟩)]++d) (w.setCell ⟨b,26+t,none⟩ (.int .i64 ((k:Int)+1))) fun e w'=>∃ r,e= .returned (.bool r)/\R r w'):=f;clear f;have s1:(w.setCell ⟨b,26+t,none⟩ (.int .i64 ((k:Int)+1))).cell? ⟨m,0,none⟩=some (.slice (some ⟨g,0,none⟩) n i):=by rw [World.cell?_setCell_far _ _ _ _ (by simpa using Ne.symm s)];exact u
 have s2:(w.setCell ⟨b,26+t,none⟩ (.int .i64 ((k:Int)+1))).cell? ⟨g,t,none⟩=some (.slice (some ⟨h,0,none⟩) len c):=by rw [World.cell?_setCell_far _ _ _ _ (by simpa using Ne.symm o)];exact p
 have s3:(w.setCell ⟨b,26+t,none⟩ (.int .i64 ((k:Int)+1))).cell? ⟨h,k*3,none⟩=some (.func (.func a) #[] d):=by rw [World.cell?_setCell_far _ _ _ _ (by simpa using Ne.symm j)];exact q
 go_enter Tryz.func82,Tryz.ntmps82
 go_wp2_with fail
 go_show
 refine v.out.mono ?_;rintro e w' ⟨r,rfl,l⟩;go_wp2
 go_ret;exact⟨r,rfl,l⟩
end
section
open Go.RowKit
def MoveAt(B:Nat)(w:World)(h k t:Nat)(i:Ins):Prop:=
 ∃ kf caps,w.cell? ⟨h,k*3,none⟩=some (.func (.func kf) #[] caps)/\ActIs B w (.func (.func kf) #[] caps) t i/\
  w.cell? ⟨h,k*3+1,none⟩=some (.bool (i.op==9))/\w.cell? ⟨h,k*3+2,none⟩=some (.int .i64 (if i.op=9 then i.a else 0))
def RowIs(B:Nat)(w:World)(v:Value)(t:Nat)(c:List Ins):Prop:=
 (c=[]/\v= .slice none 0 0)\/∃ h cap,v= .slice (some ⟨h,0,none⟩) c.length cap/\h<B/\∀ k (hk:k<c.length),MoveAt B w h k t c[k]
def MachAt(B:Nat)(w:World)(m:Nat)(p:List (List Ins)):Prop:=
 ∃ g cap,m<B/\g<B/\w.cell? ⟨m,0,none⟩=some (.slice (some ⟨g,0,none⟩) p.length cap)/\
  ∀ t,t<p.length->∃ v,w.cell? ⟨g,t,none⟩=some v/\RowIs B w v t (iO p t)
theorem MoveAt.of_block{B:Nat}{w w':World}{h k t:Nat}{i:Ins}(l:h<B)(H:MoveAt B w h k t i)(a:∀ k,k<B->w'.heap[k]?=w.heap[k]?):MoveAt B w' h k t i:=by
 obtain⟨j,m,d,b,e,f⟩:=H;have c:∀ o,w'.cell? ⟨h,o,none⟩=w.cell? ⟨h,o,none⟩:=fun o=>World.cell?_of_block (a h l)
 exact⟨j,m,by rw [c];exact d,b.of_block a,by rw [c];exact e,by rw [c];exact f⟩
theorem MoveAt.mono{B a:Nat}{w:World}{h k t:Nat}{i:Ins}(H:MoveAt B w h k t i)(l:B<=a):MoveAt a w h k t i:=by
 obtain⟨f,j,c,b,d,e⟩:=H;exact⟨f,j,c,b.mono l,d,e⟩
theorem RowIs.of_block{B:Nat}{w w':World}{v:Value}{t:Nat}{c:List Ins}(H:RowIs B w v t c)(a:∀ k,k<B->w'.heap[k]?=w.heap[k]?):RowIs B w' v t c:=by
 rcases H with H | ⟨h,cap,h1,h2,h3⟩
 ·exact Or.inl H
 ·exact Or.inr ⟨h,cap,h1,h2,fun k hk=>(h3 k hk).of_block h2 a⟩
theorem RowIs.mono{B a:Nat}{w:World}{v:Value}{t:Nat}{c:List Ins}(H:RowIs B w v t c)(b:B<=a):RowIs a w v t c:=by
 rcases H with H | ⟨h,cap,h1,h2,h3⟩
 ·exact Or.inl H
 ·exact Or.inr ⟨h,cap,h1,by omega,fun k hk=>(h3 k hk).mono b⟩
theorem MachAt.of_block{B:Nat}{w w':World}{m:Nat}{p:List (List Ins)}(H:MachAt B w m p)(a:∀ k,k<B->w'.heap[k]?=w.heap[k]?):MachAt B w' m p:=by
 obtain⟨g,i,c,b,d,e⟩:=H;refine⟨g,i,c,b,by rw [World.cell?_of_block (a m c)];exact d,fun t ht=>?_⟩;obtain⟨v,h,f⟩:=e t ht;exact⟨v,by rw [World.cell?_of_block (a g b)];exact h,f.of_block a⟩
theorem StAt.lt{w:World}{b:Nat}{s:St}(h:StAt w b s):b<w.heap.size:=by
 unfold StAt at h;exact(Array.getElem?_eq_some_iff.1 h).1
theorem StAt.grown{w w':World}{b:Nat}{s:St}(h:StAt w b s)(c:w.grownBy w' none):StAt w' b s:=by
 have a:=h.lt;unfold StAt at*;rw [c.block b a (by simp)];exact h
theorem MachAt.grown{B b:Nat}{w w':World}{m:Nat}{p:List (List Ins)}(H:MachAt B w m p)(hB:B<=b)(hb:b<w.heap.size)(hg:w.grownBy w' (some b)):MachAt B w' m p:=
 H.of_block fun k hk=>hg.block k (by omega) (by simp;omega)
theorem MachAt.grown'{B:Nat}{w w':World}{m:Nat}{p:List (List Ins)}(H:MachAt B w m p)(hB:B<=w.heap.size)(hg:w.grownBy w' none):MachAt B w' m p:=
 H.of_block fun k hk=>hg.block k (by omega) (by simp)
theorem Fq{B m b t:Nat}{w:World}{p:List (List Ins)}{s:St}(q:iU p=true)(o:MachAt B w m p)(r:StAt w b s)(d:t<p.length):
  Calls Tryz.prog 122 #[.pointer (some ⟨m,0,none⟩),.pointer (some ⟨b,0,none⟩),.int .i64 t] w
   fun e w'=>e= .returned (.bool (jR p s t))/\w.grownBy w' none:=by
 obtain⟨g,n,hm,hg,j,k⟩:=o;obtain⟨v,l,u⟩:=k t d;have f:t<4:=by have:=(jz q).2;omega
 have i:∃ a c,v= .slice a (iO p t).length c:=by
  rcases u with ⟨e,rfl⟩ | ⟨h,c,rfl,_⟩
  ·exact⟨none,0,by rw [e];rfl⟩
  ·exact⟨_,_,rfl⟩
 obtain⟨a,c,rfl⟩:=i;exact(pU m g n b t _ a _ c _ w d f j l (r.next f)).mono fun e w' ⟨he,hl⟩=>⟨he,jg (ir _ _) hl⟩
theorem xE{B:Nat}{w:World}{v:Value}{t:Nat}{c:List Ins}(H:RowIs B w v t c){k:Nat}(a:k<c.length):
  ∃ h cap,v= .slice (some ⟨h,0,none⟩) c.length cap/\h<B/\MoveAt B w h k t c[k]:=by
 rcases H with ⟨e,_⟩ | ⟨h,cap,e,hh,hm⟩
 ·subst e;simp at a
 ·exact⟨h,cap,e,hh,hm k a⟩
theorem zu{B m b t:Nat}{w:World}{p:List (List Ins)}{s:St}(D:iU p=true)(K:MachAt B w m p)(r:StAt w b s)(P:Inv p s)(f:t<p.length):
  Calls Tryz.prog 81 #[.pointer (some ⟨m,0,none⟩),.pointer (some ⟨b,0,none⟩),.int .i64 t] w
   fun e w'=>e= .returned (.bool (jE p s t))/\w.grownBy w' none:=by
 obtain⟨g,y,hm,hg,x,I⟩:=K;obtain⟨v,q,H⟩:=I t f;have l:t<4:=by have:=(jz D).2;omega
 have hn:=P t f;by_cases A:jR p s t=true
 ·have o:∃ z c,v= .slice z (iO p t).length c:=by
   rcases H with ⟨e,rfl⟩ | ⟨h,c,rfl,_⟩
   ·exact⟨none,0,by rw [e];rfl⟩
   ·exact⟨_,_,rfl⟩
  obtain⟨z,c,rfl⟩:=o;have d:=r.next l;have e:s.next t=((iO p t).length:Int):=by simpa [jR]using A
  rw [e]at d;exact(sG m g y b t _ z _ c w f l x q d).mono fun e w' ⟨he,hl⟩=>⟨by rw [he];simp [jE,A],jg (ir _ _) hl⟩
 ·have u:jR p s t=false:=by simpa using A
  have hne:s.next t≠((iO p t).length:Int):=by simpa [jR]using u
  have j:(s.next t).toNat<(iO p t).length:=by omega
  have L:((s.next t).toNat:Int)=s.next t:=by omega
  obtain⟨h,c,rfl,hh,C,G,F,O,i,n⟩:=xE H j;have d:=r.next l;rw [<-L]at d;have o:=l8 D f j;have J:ju p t (s.next t)=(iO p t)[(s.next t).toNat]:=mz j;rw [<-J]at O i n;by_cases k:(ju p t (s.next t)).op=9
  ·have hsay:=oV o;have ha:0<=(ju p t (s.next t)).a/\(ju p t (s.next t)).a<3:=by omega
   have M:((ju p t (s.next t)).a.toNat:Int)=(ju p t (s.next t)).a:=by omega
   have E:(ju p t (s.next t)).a.toNat<3:=by omega
   rw [if_pos k,<-M]at n;rw [k]at i;exact(tz m g y b t _ h _ _ c C G _ _ E w f l j x q d F i n (r.held E)).mono fun e w' ⟨he,hl⟩=>⟨by rw [he];simp [jE,u,k],hl⟩
  ·have N:((ju p t (s.next t)).op==9)=false:=by simpa using k
   rw [N]at i;exact(s9 m g y b t _ h _ _ c C G _ w f l j x q d F i n).mono fun e w' ⟨he,hl⟩=>⟨by rw [he];simp [jE,u,k],hl⟩
theorem Fp{B m b t:Nat}{w:World}{p:List (List Ins)}{s:St}(i:iU p=true)(I:MachAt B w m p)(hB:B<=b)(l:StAt w b s)(N:Inv p s)(d:t<p.length)(T:jR p s t=false):
  Calls Tryz.prog 82 #[.pointer (some ⟨m,0,none⟩),.pointer (some ⟨b,0,none⟩),.int .i64 t] w
   fun e w'=>∃ r,e= .returned (.bool r)/\r=(jP p s t).1/\StAt w' b (jP p s t).2/\w.grownBy w' (some b):=by
 obtain⟨g,O,hm,hg,M,E⟩:=I;obtain⟨v,G,U⟩:=E t d;have f:t<4:=by have:=(jz i).2;omega
 have hn:=N t d;have hne:s.next t≠((iO p t).length:Int):=by simpa [jR]using T
 have a:(s.next t).toNat<(iO p t).length:=by omega
 have j:((s.next t).toNat:Int)=s.next t:=by omega
 have h16:=kX (kd i d);obtain⟨h,c,rfl,hh,J,S,P,x,m2,m3⟩:=xE U a;have o:=l.next f;rw [<-j]at o;have D:=l8 i d a;have F:ju p t (s.next t)=(iO p t)[(s.next t).toNat]:=mz a;rw [<-F]at x;have L:StAt (w.setCell ⟨b,26+t,none⟩ (.int .i64 (s.next t+1))) b (s.setNext t (s.next t+1)):=l.setCell (py s f _);have V:w.grownBy (w.setCell ⟨b,26+t,none⟩ (.int .i64 (s.next t+1))) (some b):=iV;have Q:=x.of_block (w':=w.setCell ⟨b,26+t,none⟩ (.int .i64 (s.next t+1))) fun k a=>Below.heap_setCell _ _ _ _ (by simp;omega)
 obtain⟨q,z,n,K,u⟩:=Cq f D Q L;have H:q=J/\z=S:=by simp at n;exact⟨n.1.symm,n.2.symm⟩
 obtain⟨rfl,rfl⟩:=H;rw [<-j]at u;refine(Df m g O b t _ h _ _ c q z w (fun r w'=>r=(jP p s t).1/\StAt w' b (jP p s t).2/\w.grownBy w' (some b)) d f a (by omega) (by omega) (by omega) (by omega) M G o (l.frozen _) P K (u.mono ?_));rintro e w' ⟨r,R,C,A,y⟩;rw [j]at C A y;exact⟨r,R,C,A,il V y⟩
def oQ(p:List (List Ins))(s:St)(k:Nat):Int:=if (List.range k).all (jR p s) then 3 else 4
theorem yL(p:List (List Ins))(s:St)(k:Nat):oQ p s (k+1)=if jR p s k=true then oQ p s k else 4:=by
 unfold oQ;rw [List.range_succ,List.all_append];by_cases h:jR p s k=true<;>simp [h]
theorem rN{p:List (List Ins)}{s:St}{k:Nat}(a:k<p.length)(h:jE p s k=true):jQ p s=5:=by
 unfold jQ;rw [if_pos];exact List.any_eq_true.2 ⟨k,List.mem_range.2 a,h⟩
theorem sU{p:List (List Ins)}{s:St}(h:∀ k,k<p.length->jE p s k=false):jQ p s=oQ p s p.length:=by
 unfold jQ oQ;rw [if_neg];intro hc;obtain⟨k,b,a⟩:=List.any_eq_true.1 hc;rw [h k (List.mem_range.1 b)]at a;cases a
theorem B9{B m b:Nat}{w:World}{p:List (List Ins)}{s:St}(d:iU p=true)(r:MachAt B w m p)(hB:B<=b)(h:StAt w b s)(n:Inv p s):
  Calls Tryz.prog 83 #[.pointer (some ⟨m,0,none⟩),.pointer (some ⟨b,0,none⟩)] w
   fun e w'=>e= .returned (.int .i64 (jQ p s))/\w.grownBy w' none:=by
 have hb:=h.lt;have hlen:=jz d;have x:Hid (MachAt B w m p):=r;have z:Hid (StAt w b s):=h;have H:Hid (Inv p s):=n;have v:Hid (iU p=true):=d;obtain⟨g,cap,G,F,h1,C⟩:=r;have h3:(p.length:Int)<=4:=by omega
 clear C h n d G F;go_enter Tryz.func83,Tryz.ntmps83
 go_wp2
 go_loopw [5,12] (fun e i w'=>∃ k:Nat,k<=p.length/\i= .int .i64 k/\e= .int .i64 (oQ p s k)/\Hid (w.grownBy w' none)/\Hid (∀ j,j<k->jE p s j=false)) (fun _ i _=>p.length - (intOf i).toNat)
 case atStart=>exact⟨0,Nat.zero_le _,rfl,rfl,ir _ _,fun j hj=>by omega⟩
 case round=>
  obtain⟨k,hk,rfl,rfl,c,y⟩:=hrel;by_cases f:k<p.length
  ·go_wp2_with fail
   refine(zu v.out (x.out.grown' (by omega) c.out) (z.out.grown c.out) H.out f).mono ?_;rintro e D ⟨rfl,t⟩;have a:Hid (w.grownBy D none):=il c.out t;clear t;cases hr:jE p s k
   ·go_wp2_with fail
    refine(Fq v.out (x.out.grown' (by omega) a.out) (z.out.grown a.out) f).mono ?_;rintro e E ⟨rfl,q⟩;have u:Hid (w.grownBy E none):=il a.out q;clear q;have A:Hid (oQ p s (k+1)=if jR p s k=true then oQ p s k else 4):=yL p s k;have o:Hid (∀ j,j<k+1->jE p s j=false):=fun j hj=>by
     by_cases e:j=k
     ·rw [e];exact hr
     ·exact y.out j (by omega)
    clear hr;cases hd:jR p s k
    ·go_wp2
     go_roundw
     case rel=>exact⟨k+1,by omega,by go_num,by rw [A.out,hd];rfl,u,o⟩
     case measure=>simp [intOf];omega
    ·go_wp2
     go_roundw
     case rel=>exact⟨k+1,by omega,by go_num,by rw [A.out,hd];rfl,u,o⟩
     case measure=>simp [intOf];omega
   ·have l:Hid (jQ p s=5):=rN f hr;clear hr;go_wp2
    go_ret;exact⟨by rw [l.out];rfl,a⟩
  ·have e:k=p.length:=by omega
   have l:Hid (jQ p s=oQ p s k):=by rw [e];exact sU (fun j hj=>y.out j (by omega))
   clear e;go_wp2
   go_ret;exact⟨by rw [l.out];rfl,c⟩
theorem qw(x n:Int)(w:World):Calls Tryz.prog 80 #[.int .i64 x,.int .i64 n] w fun e w'=>e= .returned (.bool (jD x n))/\w'=w:=by
 by_cases a:0<=x
 ·by_cases b:x<n
  ·have HB:Hid (jD x n=true):=by unfold Hid;simp [jD,a,b]
   go_enter Tryz.func80,Tryz.ntmps80
   go_wp2
   go_ret;exact⟨by rw [HB.out];rfl,rfl⟩
  ·have HB:Hid (jD x n=false):=by unfold Hid;simp [jD,a,b]
   have c:n<=x:=by omega
   go_enter Tryz.func80,Tryz.ntmps80
   go_wp2
   go_ret;exact⟨by rw [HB.out];rfl,rfl⟩
 ·have HB:Hid (jD x n=false):=by unfold Hid;simp [jD,a]
  have c:x<0:=by omega
  go_enter Tryz.func80,Tryz.ntmps80
  go_wp2
  go_ret;exact⟨by rw [HB.out];rfl,rfl⟩
def IntsAt(B:Nat)(w:World)(v:Value)(l:List Int):Prop:=
 ∃ ao cap,v= .slice ao l.length cap/\l.length<=cap/\∀ k (hk:k<l.length),∃ g o,ao=some ⟨g,o,none⟩/\g<B/\w.cell? ⟨g,o+k,none⟩=some (.int .i64 l[k])
def iR(acc:List (Int × Int)):List Value:=acc.flatMap fun x=>[.int .i64 x.1,.int .i64 x.2]
theorem nj(acc:List (Int × Int))(x:Int × Int):iR (acc++[x])=iR acc++[.int .i64 x.1,.int .i64 x.2]:=by simp [iR]
theorem iD{w w':World}{base:Nat}{e:TypeId}{b:Nat}{v:Value}{n:Nat}{xs:List Value}{r:Option Nat}(h:w.ownsRow base e b v n xs)(i:w.grownBy w' r)(d:∀ k,r=some k->k<base):w'.ownsRow base e b v n xs:=by
 obtain⟨c,a⟩:=h;refine⟨c,?_⟩;rcases a with a | ⟨g,cap,cur,hv,hb,hh,rest⟩
 ·exact Or.inl a
 ·have f:g<w.heap.size:=(Array.getElem?_eq_some_iff.1 hh).1;refine Or.inr ⟨g,cap,cur,hv,hb,?_,rest⟩;rw [i.block g f (fun e=>by have:=d g e.symm;omega)];exact hh
theorem iA{w:World}{base:Nat}{e:TypeId}{b:Nat}{v:Value}{n:Nat}{xs:List Value}(h:w.ownsRow base e b v n xs):∀ k,v.ownBlock=some k->base<=k:=by
 rcases h.2 with ⟨e1,_⟩ | ⟨g,cap,cur,hv,hb,_⟩
 ·intro k a;rw [e1]at a;cases a
 ·intro k a;rw [hv]at a;simp [Value.ownBlock]at a;omega
theorem ux:((Tryz.prog.info? 76).map fun i=>(i.zero,i.size,i.bytes))=some (some (.agg #[.int .i64 0,.int .i64 0]),2,16):=by kernel_rfl
theorem iQ{w:World}{base a:Nat}{e:TypeId}{b:Nat}{v:Value}{n:Nat}{xs:List Value}(h:w.ownsRow base e b v n xs)(hb:a<=base):w.ownsRow a e b v n xs:=by
 obtain⟨d,f⟩:=h;refine⟨d,f.imp id ?_⟩;rintro⟨g,i,cur,c,hg,j⟩;exact⟨g,i,cur,c,by omega,j⟩
theorem iF{w w':World}{r:Option Nat}{g o:Nat}{v:Value}(h:w.grownBy w' r)(hg:w.heap.size<=g):w.grownBy (w'.setCell ⟨g,o,none⟩ v) r:=
 ⟨h.os,h.tape,h.output,by simpa using h.size,fun k hk hr=>by rw [Below.heap_setCell _ _ _ _ (by simp;omega)];exact h.block k hk hr⟩
theorem StAt.setOther{w:World}{b:Nat}{s:St}{g o:Nat}{v:Value}(h:StAt w b s)(a:b≠g):StAt (w.setCell ⟨g,o,none⟩ v) b s:=by
 unfold StAt at*;rw [Below.heap_setCell _ _ _ _ (by simpa using a)];exact h
theorem o7{w w':World}{r:Option Nat}{o:Obj}(h:(w.alloc o).grownBy w' r):w.grownBy w' r:=il (iq (ir w r)) h
theorem pi{w w':World}{b:Nat}{o:Obj}(h:(w.alloc o).grownBy w' (some b))(hb:b<w.heap.size):w'.heap[w.heap.size]?=some o:=by
 rw [h.block w.heap.size (by simp) (by simp;omega)];show (w.heap.push o)[w.heap.size]?=some o
 simp
theorem lP{w w':World}{r:Option Nat}(h:w.grownBy w' none):w.grownBy w' r:=⟨h.os,h.tape,h.output,h.size,fun k hk _=>h.block k hk (by simp)⟩
theorem jG{w0 w w':World}{r:Option Nat}{v:Value}(h:w0.grownBy w r)(hg:w.grownBy w' v.ownBlock)(hv:∀ k,v.ownBlock=some k->w0.heap.size<=k):w0.grownBy w' r:=
 ⟨hg.os.trans h.os,hg.tape.trans h.tape,hg.output.trans h.output,Nat.le_trans h.size hg.size,fun k hk hr=>by
  rw [hg.block k (Nat.lt_of_lt_of_le hk h.size) (fun e=>by have:=hv k e.symm;omega)];exact h.block k hk hr⟩
theorem StAt.rowGrown{w w':World}{b:Nat}{s:St}{v:Value}(h:StAt w b s)(d:w.grownBy w' v.ownBlock)(a:∀ k,v.ownBlock=some k->b<k):StAt w' b s:=by
 have c:=h.lt;unfold StAt at*;rw [d.block b c (fun e=>by have:=a b e.symm;omega)];exact h
theorem iJ{w:World}{base:Nat}{e:TypeId}{size:Nat}{v:Value}{n:Nat}{xs:List Value}{o:Obj}(h:w.ownsRow base e size v n xs):(w.alloc o).ownsRow base e size v n xs:=
 iD h (iq (ir w none)) (fun _ e=>by cases e)
theorem lW{w:World}{g:Nat}{x y z:Value}{t:TypeId}(h:w.heap[g]?=some (.cells #[x,y,z] t (0,0))):
  w.cell? ⟨g,0,none⟩=some x/\w.cell? ⟨g,1,none⟩=some y/\w.cell? ⟨g,2,none⟩=some z/\(∀ o,w.frozen? ⟨g,o,none⟩=false):=by
 simp [World.cell?,World.frozen?,h]
def Dn(w:World)(b:Nat)(o:Out)(e:Ending)(w':World):Prop:=
 ∃ sv,e= .returned (.tuple #[sv,.agg #[.int .i64 o.kind,.int .i64 o.thread,.int .i64 o.at_]])/\w'.ownsRow w.heap.size 76 2 sv o.steps.length (iR o.steps)/\
  StAt w' b o.st/\w.grownBy w' (some b)
theorem BJ{B m b:Nat}{w:World}{p:List (List Ins)}{j:St}{v:Value}{c:List Int}(S:iU p=true)(hM:MachAt B w m p)(Q:B<=b)(hs:StAt w b j)(hI:Inv p j)
  (hv:IntsAt B w v c) (h500:c.length<=500):
  Calls Tryz.prog 50 #[.pointer (some ⟨m,0,none⟩),.pointer (some ⟨b,0,none⟩),v] w (Dn w b (jd p c 0 j [])):=by
 obtain⟨V,Z,Y,ay,aH⟩:=info_parts ux;obtain⟨ao,cap,rfl,hcap,ak⟩:=hv;have N:=hs.lt;have hlen:=jz S;have HM:Hid (MachAt B w m p):=hM;have HS:Hid (StAt w b j):=hs;have HI:Hid (Inv p j):=hI;have K:Hid (iU p=true):=S;have HC:Hid (∀ k (hk:k<c.length),∃ g o,ao=some ⟨g,o,none⟩/\g<B/\w.cell? ⟨g,o+k,none⟩=some (.int .i64 c[k])):=ak;obtain⟨g,aX,hm,hg,h1,h2⟩:=hM;have h3:(p.length:Int)<=4:=by omega
 have h4:(c.length:Int)<=500:=by omega
 clear h2 hs hI S ak;have HI0:Hid (Tryz.prog.info? 76=some V):=Z;have HZ0:=Y;go_enter Tryz.func50,Tryz.ntmps50
 go_wp2_with (at_make;refine wpList_make_own _ rfl _ _ _ rfl (w.heap.size+1) 76 V _ 2 Tryz.underlying27 Z Y ay .i64 .i64 _ c.length rfl rfl rfl (by rw [aH];omega) (by unfold maxLen;omega) (by simp) ?_;intro w0 aA U)
 have ar:Hid (w0.ownsRow (w.heap.size+1) 76 2 (.slice (some ⟨w.heap.size+1,0,none⟩) 0 c.length) 0 []):=by unfold Hid;simpa using aA
 have aE:Hid ((w.alloc (.cells #[.int .i64 0,.int .i64 0,.int .i64 0] 26)).grownBy w0 (some b)):=lP U;have ap:=(show Hid _ from U);clear aA U;go_loopw [8,17] (fun sv i w'=>∃ (k:Nat) (s:St) (f:List (Int × Int)),k<=c.length/\i= .int .i64 k/\f.length=k/\Hid (w'.ownsRow (w.heap.size+1) 76 2 sv k (iR f))/\
   Hid (StAt w' b s)/\Hid (Inv p s)/\Hid ((w.alloc (.cells #[.int .i64 0,.int .i64 0,.int .i64 0] 26)).grownBy w' (some b))/\
   Hid (jd p c 0 j []=jd p (c.drop k) k s f)) (fun _ i _=>c.length - (intOf i).toNat)
 case atStart=>
  refine⟨0,j,[],Nat.zero_le _,rfl,rfl,ar,?_,HI,aE,rfl⟩;have hh:w0.heap[b]?=w.heap[b]?:=by rw [ap.out.block b (by simp;omega) (by simp),Below.heap_alloc _ _ _ (by omega)]
  have aW:=HS.out;unfold StAt at*;unfold Hid;rw [hh];exact aW
 case round=>
  clear ar aE ap;obtain⟨k,s,f,hk,rfl,I,R,H,O,z,J⟩:=hrel;have u:=pi z.out N;obtain⟨n,l,q,d⟩:=lW u;have D:=d 0;have E:=d 1;have C:=d 2;have HV:Hid (∀ o,wr.frozen? ⟨w.heap.size,o,none⟩=false):=d;clear d u;have aQ:w.heap.size+1<=wr.heap.size:=by have:=z.out.size;simpa using this
  have L:Hid (MachAt B wr m p):=(HM.out.grown' (by omega) (iq (ir w none))).grown Q (by simp;omega) z.out;by_cases aF:k<c.length
  ·obtain⟨gb,go,rfl,hgb,hc⟩:=HC.out k aF;have aO:wr.cell? ⟨gb,go+k,none⟩=some (.int .i64 c[k]):=by
    rw [z.out.cell_far _ (by simp;omega) (by simp;omega),World.cell?_alloc_lt _ _ _ (by simp;omega)];exact hc
   clear hc;have P:Hid (c.drop k=c[k]::c.drop (k+1)):=List.drop_eq_getElem_cons aF;generalize c[k]=t at*;have aM:wr.cell? ⟨m,0,none⟩=some (.slice (some ⟨g,0,none⟩) p.length aX):=by
    rw [z.out.cell_far _ (by simp;omega) (by simp;omega),World.cell?_alloc_lt _ _ _ (by simp;omega)];exact h1
   have hk0:(0:Int)<=(k:Int):=by omega
   have hk1:(k:Int)<c.length:=by omega
   have hk2:(k:Int)<500:=by omega
   go_wp2_with fail
   refine(qw t p.length wr).mono ?_;rintro e h ⟨rfl,rfl⟩;cases hbl:jD t p.length
   ·have y:Hid (jd p c 0 j []=⟨f,2,0,k,s⟩):=by
     unfold Hid;rw [J.out,P.out];exact kn _ _ _ _ _ _ (by simp [m8,hbl])
    clear hbl;go_wp2
    rw [y.out];exact bodyPost_ret (v:= .tuple #[u8,.agg #[.int .i64 2,.int .i64 0,.int .i64 k]]) (by simp [results,Tryz.results50,go_sem,n,l,q]) rfl
     ⟨u8,rfl,by rw [I];exact iQ (ownsRow_setCell_below (ownsRow_setCell_below (ownsRow_setCell_below R.out (by simp) _) (by simp) _) (by simp) _) (by omega),((H.out.setOther (by omega)).setOther (by omega)).setOther (by omega),iF (iF (iF (o7 z.out) (by omega)) (by omega)) (by omega)⟩
   ·have ht:0<=t/\t<p.length:=by simpa [jD]using hbl
    obtain⟨a,rfl⟩:=Int.eq_ofNat_of_zero_le ht.1;have T:a<p.length:=by omega
    have HT:Hid (jD (a:Int) p.length=true):=hbl;clear hbl ht;go_wp2_with fail
    refine(zu K.out L.out H.out O.out T).mono ?_;rintro e h ⟨rfl,x⟩;have A:Hid ((w.alloc (.cells #[.int .i64 0,.int .i64 0,.int .i64 0] 26)).grownBy h (some b)):=il z.out (lP x);have F:Hid (h.ownsRow (w.heap.size+1) 76 2 u8 k (iR f)):=iD R.out x (fun _ e=>by cases e);have G:Hid (StAt h b s):=H.out.grown x;have aP:Hid (MachAt B h m p):=L.out.grown' (by omega) x;have hsz1:w.heap.size+1<=h.heap.size:=by have:=A.out.size;simpa using this
    clear n l q D E C HV aO aM x L H R z aQ;have u:=pi A.out N;obtain⟨n,l,q,d⟩:=lW u;have D:=d 0;have E:=d 1;have C:=d 2;clear d u;cases hrd:jE p s a
    ·have y:Hid (jd p c 0 j []=⟨f,2,0,k,s⟩):=by
      unfold Hid;rw [J.out,P.out];exact kn _ _ _ _ _ _ (by simp [m8,hrd])
     clear hrd;go_wp2
     rw [y.out];exact bodyPost_ret (v:= .tuple #[u8,.agg #[.int .i64 2,.int .i64 0,.int .i64 k]]) (by simp [results,Tryz.results50,go_sem,n,l,q]) rfl
      ⟨u8,rfl,by rw [I];exact iQ (ownsRow_setCell_below (ownsRow_setCell_below (ownsRow_setCell_below F.out (by simp) _) (by simp) _) (by simp) _) (by omega),((G.out.setOther (by omega)).setOther (by omega)).setOther (by omega),iF (iF (iF (o7 A.out) (by omega)) (by omega)) (by omega)⟩
    ·have HK:Hid (m8 p s a=true):=by unfold Hid;simp [m8,hrd,HT.out]
     have ah:Hid (jR p s a=false):=by
      unfold Hid;cases hd:jR p s a with
      | false=>rfl
      | true=>simp [jE,hd]at hrd
     clear hrd;have aS:a<4:=by omega
     have aL:=G.out.next aS;have ht0:(0:Int)<=(a:Int):=by omega
     have ht1:(a:Int)<4:=by omega
     have a5:k+1<=maxLen:=by unfold maxLen;omega
     have aV:(k+1)*16<=140737488355328:=by omega
     go_wp2_with (at_builtin;refine wpList_append_lies _ rfl _ _ _ rfl (w.heap.size+1) 76 V _ 2 16 Tryz.underlying27 Z Y ay aH rfl (by omega) u8 k (iR f) rfl (iJ F.out) ⟨h.heap.size,0,none⟩ 1 1 [.int .i64 a,.int .i64 (s.next a)] rfl rfl (World.news_of_block (cs:= #[.int .i64 a,.int .i64 (s.next a)]) (t:=76) (fr:=(0,0)) (heap_alloc_new h _)) (by simp [Value.oneCell']) (by omega) a5 aV (by simp;omega) (h.heap.size+1) (by simp) ?_;intro g2 ag M au aa a3 hlt2)
     have ab:=iA F.out;have ad:Hid ((w.alloc (.cells #[.int .i64 0,.int .i64 0,.int .i64 0] 26)).grownBy M (some b)):=jG (iq A.out) aa (fun k e=>by have:=ab k e;simp;omega);have aw:Hid (StAt M b s):=StAt.rowGrown (G.out.grown (iq (ir _ _))) aa (fun k e=>by have:=ab k e;omega);have aj:Hid (MachAt B M m p):=(HM.out.grown' (by omega) (iq (ir w none))).grown Q (by simp;omega) ad.out;have al:Hid (M.ownsRow (w.heap.size+1) 76 2 (.slice (some ⟨g2,0,none⟩) (k+1) ag) (k+1) (iR (f++[((a:Int),s.next a)]))):=by
      unfold Hid;rw [nj];exact au
     clear n l q D E C ab aa a3 au G aP F A aL;refine(Fp K.out aj.out Q aw.out O.out T ah.out).mono ?_;rintro e X ⟨r,rfl,hr,av,W⟩;have ae:Hid ((w.alloc (.cells #[.int .i64 0,.int .i64 0,.int .i64 0] 26)).grownBy X (some b)):=il ad.out W;have aB:Hid (X.ownsRow (w.heap.size+1) 76 2 (.slice (some ⟨g2,0,none⟩) (k+1) ag) (k+1) (iR (f++[((a:Int),s.next a)]))):=iD al.out W (fun k e=>by cases e;omega);have an:Hid (StAt X b (jP p s a).2):=av;have aZ:Hid (Inv p (jP p s a).2):=Inv.step K.out O.out T ah.out;have HR:Hid (r=(jP p s a).1):=hr;clear hr av W al aj aw ad;have u:=pi ae.out N;obtain⟨n,l,q,d⟩:=lW u;have D:=d 0;have E:=d 1;have C:=d 2;clear d u;cases r
     ·have y:Hid (jd p c 0 j []=⟨f++[((a:Int),s.next a)],1,a,s.next a,(jP p s a).2⟩):=by
       unfold Hid;rw [J.out,P.out,mQ p a _ _ s f HK.out (by simpa using HR.out.symm)];rfl
      go_wp2
      rw [y.out];exact bodyPost_ret (v:= .tuple #[.slice (some ⟨g2,0,none⟩) (k+1) ag,.agg #[.int .i64 1,.int .i64 a,.int .i64 (s.next a)]]) (by simp [results,Tryz.results50,go_sem,n,l,q]) rfl
       ⟨_,rfl,by
        have e:(f++[((a:Int),s.next a)]).length=k+1:=by simp [I]
        simp only [e];exact iQ (ownsRow_setCell_below (ownsRow_setCell_below (ownsRow_setCell_below aB.out (by simp) _) (by simp) _) (by simp) _) (by omega),((an.out.setOther (by omega)).setOther (by omega)).setOther (by omega),iF (iF (iF (o7 ae.out) (by omega)) (by omega)) (by omega)⟩
     ·have y:Hid (jd p c 0 j []=jd p (c.drop (k+1)) ((k+1:Nat):Int) (jP p s a).2 (f++[((a:Int),s.next a)])):=by
       unfold Hid;rw [J.out,P.out,nO p a _ _ s f HK.out (by simpa using HR.out.symm)];rfl
      clear n l q D E C;go_wp2
      go_roundw
      case rel=>exact⟨k+1,(jP p s a).2,f++[((a:Int),s.next a)],by omega,by go_num,by simp [I],aB,an,aZ,ae,y⟩
      case measure=>simp [intOf];omega
  ·have y:Hid (jd p c 0 j []=⟨f,jQ p s,0,0,s⟩):=by
    unfold Hid;rw [J.out,List.drop_of_length_le (by omega)];rfl
   go_wp2_with fail
   refine(B9 K.out L.out Q H.out O.out).mono ?_;rintro e h ⟨rfl,x⟩;have A:Hid ((w.alloc (.cells #[.int .i64 0,.int .i64 0,.int .i64 0] 26)).grownBy h (some b)):=il z.out (lP x);have F:Hid (h.ownsRow (w.heap.size+1) 76 2 u8 k (iR f)):=iD R.out x (fun _ e=>by cases e);have G:Hid (StAt h b s):=H.out.grown x;clear n l q D E C HV x;have u:=pi A.out N;obtain⟨n,l,q,d⟩:=lW u;have D:=d 0;have E:=d 1;have C:=d 2;clear d u;go_wp2
   rw [y.out];exact bodyPost_ret (v:= .tuple #[u8,.agg #[.int .i64 (jQ p s),.int .i64 0,.int .i64 0]]) (by simp [results,Tryz.results50,go_sem,n,l,q]) rfl
    ⟨u8,rfl,by rw [I];exact iQ (ownsRow_setCell_below (ownsRow_setCell_below (ownsRow_setCell_below F.out (by simp) _) (by simp) _) (by simp) _) (by omega),((G.out.setOther (by omega)).setOther (by omega)).setOther (by omega),iF (iF (iF (o7 A.out) (by omega)) (by omega)) (by omega)⟩
end
section
open Go.RowKit
attribute [local go_sem] Go.World.cell?_alloc_some
theorem ij{p:Prop}(h:p):Hid p:=h
theorem ns{p:Prop}(h:Hid p):p:=h
section
variable {P : Program}
theorem tF(w:World)(l r ty f:TypeId)(g c m:Nat)(a:Addr)(b q d:Nat)(cur:Array Value)(t:TypeId)(cs:List Value)
  (y:P.underlying l=some (.slice f)) (k:(P.info? f).map (·.size)=some d)
  (s:w.heap[g]?=some (.cells cur t (0,0))) (p:cs.length=Nat.min b c*d)
  (x:∀ j v,cs[j]?=some v->w.cell? (a.add j)=some v) (hfit:cs.length=cur.size) (n:∀ v∈cs,v.oneCell'=true):
  (Builtin.copy_ #[l,r] ty #[.slice (some ⟨g,0,none⟩) c m,.slice (some a) b q]).run P w=
   .ok (goInt (Nat.min b c)) (w.setRow g cs.toArray):=by
 have u:=run_loadCells_list (P:=P) w a cs x;have h:=run_storeCells_at P g 0 t cs 0 cur w s (by omega) n;have e:(cur.toList.take (0+0)++cs++cur.toList.drop (0+0+cs.length))=cs:=by
  have:cur.toList.drop (0+0+cs.length)=[]:=List.drop_of_length_le (by simp;omega);rw [this];simp
 rw [e]at h;cases hq:P.info? f with
 | none=>simp [hq]at k
 | some i=>
  have o:i.size=d:=by simpa [hq]using k
  simp [Builtin.copy_,run_underlying y,Builtin.lenOf,Builtin.firstCells,sizeOf,typeInfo,hq,o,<-p,u,h]
end
def jp(n:Nat)(s:St):List Value:=(List.range n).flatMap fun t=>[.int .i64 (s.regs t 0),.int .i64 (s.regs t 1),.int .i64 (s.regs t 2),.int .i64 (s.regs t 3)]
theorem kk(n:Nat)(s:St):(jp n s).length=n*4:=by
 induction n with
 | zero=>rfl
 | succ n ih=>unfold jp at*;rw [List.range_succ,List.flatMap_append,List.length_append,ih];simp;omega
theorem xq{w:World}{b:Nat}{s:St}(h:StAt w b s){n:Nat}(hn:n<=4):∀ j v,(jp n s)[j]?=some v->w.cell? ((⟨b,10,none⟩:Addr).add j)=some v:=by
 intro j v a;have c:(⟨b,10,none⟩:Addr).add j=⟨b,10+j,none⟩:=by unfold Addr.add;split<;>simp_all
 have i:j<n*4:=by
  have:=(List.getElem?_eq_some_iff.1 a).1;rw [kk]at this;exact this
 rw [c,h.cell];have hc:n=0\/n=1\/n=2\/n=3\/n=4:=by omega
 have e:(jp 4 s)[j]?=some v:=by
  have f:∃ l,jp 4 s=jp n s++l:=by
   rcases hc with rfl | rfl | rfl | rfl | rfl
   ·exact⟨_,rfl⟩
   ·exact⟨_,rfl⟩
   ·exact⟨_,rfl⟩
   ·exact⟨_,rfl⟩
   ·exact⟨[],by simp⟩
  obtain⟨l,e⟩:=f;rw [e,List.getElem?_append_left (by rw [kk];exact i)];exact a
 have h16:j<16:=by omega
 have k:s.cells[10+j]?=(jp 4 s)[j]?:=by
  have:s.cells.toList.drop 10=jp 4 s++[.int .i64 (s.next 0),.int .i64 (s.next 1),.int .i64 (s.next 2),.int .i64 (s.next 3)]:=rfl;have d:(s.cells.toList.drop 10)[j]?=(jp 4 s)[j]?:=by
   rw [this,List.getElem?_append_left (by rw [kk];omega)]
  rw [<-d,List.getElem?_drop];simp
 rw [k];exact e
theorem Aj(n:Nat)(s:St):∀ v∈jp n s,v.oneCell'=true:=by
 intro v a;unfold jp at a;simp only [List.mem_flatMap,List.mem_cons,List.not_mem_nil,or_false]at a;obtain⟨t,_,h⟩:=a;rcases h with rfl | rfl | rfl | rfl<;>rfl
theorem sQ{w:World}{base:Nat}{e:TypeId}{b:Nat}{g n a:Nat}{xs:List Value}(h:w.ownsRow base e b (.slice (some ⟨g,0,none⟩) n a) n xs):
  ∃ cur,w.heap[g]?=some (.cells cur e (0,0))/\cur.size=a*b:=by
 rcases h.2 with ⟨e1,_⟩ | ⟨g',cap',cur,hv,hb,hh,_,_,hs,_⟩
 ·cases e1
 ·simp at hv;obtain⟨rfl,rfl⟩:=hv;exact⟨cur,hh,hs⟩
theorem kw{w:World}{g:Nat}{x0 x1 x2 x3 b a d c e:Value}{t:TypeId}(h:w.heap[g]?=some (.cells #[x0,x1,x2,x3,b,a,d,c,e] t (0,0))):
  w.cell? ⟨g,0,none⟩=some x0/\w.cell? ⟨g,1,none⟩=some x1/\w.cell? ⟨g,2,none⟩=some x2/\w.cell? ⟨g,3,none⟩=some x3/\w.cell? ⟨g,4,none⟩=some b/\w.cell? ⟨g,5,none⟩=some a/\w.cell? ⟨g,6,none⟩=some d/\w.cell? ⟨g,7,none⟩=some c/\w.cell? ⟨g,8,none⟩=some e/\(∀ o,w.frozen? ⟨g,o,none⟩=false):=by
 simp [World.cell?,World.frozen?,h]
theorem pS(w:World)(g k:Nat)(cs:Array Value)(h:k≠g):(w.setRow g cs).heap[k]?=w.heap[k]?:=by
 simp only [World.setRow,Array.getElem?_modify];rw [if_neg (by omega)]
theorem iw{w:World}{base:Nat}{e:TypeId}{a:Nat}{v:Value}{n:Nat}{xs:List Value}(h:w.ownsRow base e a v n xs):∃ ao n c,v= .slice ao n c:=by
 rcases h.2 with ⟨e1,_⟩ | ⟨g',cap',cur,hv,_⟩
 ·exact⟨_,_,_,e1⟩
 ·exact⟨_,_,_,hv⟩
def Ct(base:Nat)(w:World)(o:Out)(n:Nat)(rv:Value):Prop:=
 ∃ sv gv,rv= .agg #[.int .i64 o.kind,.int .i64 o.thread,.int .i64 o.at_,sv,.int .i64 (o.st.vars 0),.int .i64 (o.st.vars 1),.int .i64 (o.st.vars 2),.int .i64 (o.st.vars 3),gv]/\
  w.ownsRow base 76 2 sv o.steps.length (iR o.steps)/\w.ownsRow base 28 4 gv n (jp n o.st)
theorem wu:((Tryz.prog.info? 28).map fun i=>(i.zero,i.size,i.bytes))=some (some (.agg #[.int .i64 0,.int .i64 0,.int .i64 0,.int .i64 0]),4,32):=by kernel_rfl
theorem uh{B m:Nat}{w:World}{p:List (List Ins)}{v:Value}{c:List Int}(q:iU p=true)(z:MachAt B w m p)(K:B<=w.heap.size)
  (y:IntsAt B w v c) (ai:c.length<=500):
  Calls Tryz.prog 17 #[.pointer (some ⟨m,0,none⟩),v] w fun e w'=>∃ rv,e= .returned rv/\Ct w.heap.size w' (iI p c) p.length rv/\w.grownBy w' none:=by
 obtain⟨Y,G,af,H,ax⟩:=info_parts wu;have hlen:=jz q;have M:Hid (MachAt B w m p):=z;have HV:Hid (IntsAt B w v c):=y;have V:Hid (iU p=true):=q;clear z y q;go_enter Tryz.func17,Tryz.ntmps17
 go_wp2_with fail
 generalize E:Obj.cells #[Value.int IntKind.i64 0,Value.int IntKind.i64 0,Value.int IntKind.i64 0,Value.slice none 0 0,Value.int IntKind.i64 0,Value.int IntKind.i64 0,Value.int IntKind.i64 0,Value.int IntKind.i64 0,Value.slice none 0 0] 31=R9;have P:=ij E;clear E;have HZ:Hid (StAt ((w.alloc R9).alloc (.cells St.zero.cells 122)) (w.heap.size+1) St.zero):=by
  unfold Hid StAt;have:=heap_alloc_new (w.alloc R9) (.cells St.zero.cells 122);simpa using this
 have HB:Hid (w.grownBy ((w.alloc R9).alloc (.cells St.zero.cells 122)) none):=iq (iq (ir _ _));have X:Hid (IntsAt B ((w.alloc R9).alloc (.cells St.zero.cells 122)) v c):=by
  obtain⟨ao,av,e,h1,O⟩:=HV.out;refine⟨ao,av,e,h1,fun k hk=>?_⟩;obtain⟨g,o,Z,R,e3⟩:=O k hk;exact⟨g,o,Z,R,by rw [HB.out.cell_far _ (by simp;omega) (by simp)];exact e3⟩
 have F:=ij (BJ V.out (M.out.grown' K HB.out) (by omega:B<=w.heap.size+1) HZ.out (Inv.zero p) X.out ai);refine(ns F).mono ?_;rintro e a ⟨sv,rfl,n,I,d⟩;have HO:Hid (a.ownsRow (w.heap.size+2) 76 2 sv (iI p c).steps.length (iR (iI p c).steps)):=by
  have e:((w.alloc R9).alloc (.cells St.zero.cells 122)).heap.size=w.heap.size+2:=by simp
  rw [e]at n;exact n
 have HS:Hid (StAt a (w.heap.size+1) (iI p c).st):=I;have HG:Hid (((w.alloc R9).alloc (.cells St.zero.cells 122)).grownBy a (some (w.heap.size+1))):=d;have hsz:w.heap.size+2<=a.heap.size:=by have:=d.size;simpa using this
 have L:Hid (w.grownBy a none):=by
  refine⟨d.os,d.tape,d.output,by omega,fun k hk _=>?_⟩;rw [d.block k (by simp;omega) (by simp;omega)];exact HB.out.block k hk (by simp)
 obtain⟨am,ag,aw,rfl⟩:=iw n;have aj:Hid (MachAt B a m p):=M.out.grown' K L.out;clear n I d F;generalize u:iI p c=o at*;have A:jd p c 0 St.zero []=o:=u;rw [A];clear A;have az:=ij u;clear u;obtain⟨mg,mcap,hm1,hm2,ad,T⟩:=aj.out;clear T;have hn4:(p.length:Int)<=4:=by omega
 have D:Hid (StAt (a.alloc (.cells #[.int .i64 o.kind,.int .i64 o.thread,.int .i64 o.at_] 26)) (w.heap.size+1) o.st):=HS.out.grown (iq (ir _ _));go_wp2_with (at_make;refine wpList_make_full _ rfl _ _ _ rfl (w.heap.size+2) 28 Y _ 4 Tryz.underlying29 G af H .i64 .i64 _ _ p.length rfl rfl rfl rfl (by rw [ax];omega) (by unfold maxLen;omega) (by simp;omega) ?_;intro l x s;simp only [World.size_alloc]at x;obtain⟨cur,t,ab⟩:=sQ x)
 rw [tF l 29 29 3 28 (a.heap.size+1) p.length p.length ⟨w.heap.size+1,10,none⟩ 4 4 4 cur 28 (jp p.length o.st) Tryz.underlying29 (by rw [G];simp [H]) t (by rw [kk];show p.length*4=min 4 p.length*4;omega) (xq (D.out.grown s) (by omega)) (by rw [kk,ab]) (Aj _ _)];have j:Hid ((a.alloc (.cells #[.int .i64 o.kind,.int .i64 o.thread,.int .i64 o.at_] 26)).grownBy l none):=s;have aC:Hid (l.heap[a.heap.size+1]?=some (.cells cur 28 (0,0))):=t;clear s x t;generalize C:l.setRow (a.heap.size+1) (jp p.length o.st).toArray=w3;have h:=ij C;clear C;have i:∀ k,k<a.heap.size+1->w3.heap[k]?=(a.alloc (.cells #[.int .i64 o.kind,.int .i64 o.thread,.int .i64 o.at_] 26)).heap[k]?:=fun k hk=>by
  rw [<-h.out,pS _ _ _ _ (by omega),j.out.block k (by simp;omega) (by simp)]
 have HB3:=ij i;have N:w3.heap[a.heap.size]?=some (.cells #[.int .i64 o.kind,.int .i64 o.thread,.int .i64 o.at_] 26 (0,0)):=by rw [i _ (by omega)];exact heap_alloc_new a _
 have f:StAt w3 (w.heap.size+1) o.st:=by
  unfold StAt;rw [i _ (by omega)];exact D.out
 have r:w3.heap[w.heap.size]?=some R9:=by
  rw [i _ (by omega),Below.heap_alloc _ _ _ (by omega),HG.out.block _ (by simp;omega) (by simp)];rw [Below.heap_alloc _ _ _ (by simp)];exact heap_alloc_new w R9
 obtain⟨q0,q1,q2,_⟩:=lW N;have s0:=f.var (v:=0) (by omega);have s1:=f.var (v:=1) (by omega);have s2:=f.var (v:=2) (by omega);have s3:=f.var (v:=3) (by omega);have HST:=ij f;rw [<-P.out]at r;obtain⟨U,r1,S,Q,r4,r5,W,r7,r8,b⟩:=kw r;have f0:=b 0;have f1:=b 1;have f2:=b 2;have f3:=b 3;have f4:=b 4;have f5:=b 5;have f6:=b 6;have f7:=b 7;have f8:=b 8;have J:Hid (a.grownBy w3 none):=by
  refine⟨?_,?_,?_,?_,fun k hk _=>by rw [i k (by omega),Below.heap_alloc _ _ _ hk]⟩
  ·rw [<-h.out];exact j.out.os
  ·rw [<-h.out];exact j.out.tape
  ·rw [<-h.out];exact j.out.output
  ·rw [<-h.out];have:=j.out.size;simp at this ⊢;omega
 have ar:Hid (w3.ownsRow (w.heap.size+2) 28 4 (.slice (some ⟨a.heap.size+1,0,none⟩) p.length p.length) p.length (jp p.length o.st)):=by
  refine⟨kk _ _,Or.inr ⟨a.heap.size+1,p.length,(jp p.length o.st).toArray,rfl,by omega,?_,Nat.le_refl _,by unfold maxLen;omega,by simp [kk],?_⟩⟩
  ·rw [<-h.out];exact setRow_heap _ _ _ _ _ _ aC.out
  ·rw [List.take_of_length_le (by simp [kk])]
 clear b r N f i ad;go_wp2
 rw [az.out];refine bodyPost_ret (v:= .agg #[.int .i64 o.kind,.int .i64 o.thread,.int .i64 o.at_,.slice am ag aw,.int .i64 (o.st.vars 0),.int .i64 (o.st.vars 1),.int .i64 (o.st.vars 2),.int .i64 (o.st.vars 3),.slice (some ⟨a.heap.size+1,0,none⟩) p.length p.length]) ?_ rfl ⟨_,rfl,⟨_,_,rfl,?_,?_⟩,?_⟩
 ·simp [results,Tryz.results17,go_sem,U,r1,S,Q,r4,r5,W,r7,r8]
 ·refine iQ (base:=w.heap.size+2) ?_ (by omega);iterate 9 refine ownsRow_setCell_below ?_ (by simp) _
  exact iD HO.out J.out (fun _ e=>by cases e)
 ·refine iQ (base:=w.heap.size+2) ?_ (by omega);iterate 9 refine ownsRow_setCell_below ?_ (by simp) _
  exact ar.out
 ·iterate 9 refine iF ?_ (by omega)
  exact il L.out J.out
theorem yw(k x len:Int)(h0:0<=len)(h16:len<=16)(w:World):Calls Tryz.prog 157 #[.int .i64 k,.int .i64 x,.int .i64 len] w fun e w'=>e= .returned (.bool (mi k x len))/\w'=w:=by
 by_cases a:k=1
 ·subst a;go_enter Tryz.func157,Tryz.ntmps157
  go_wp2_with (go_at_call 80;refine(qw _ _ _).mono ?_;rintro e w' ⟨rfl,rfl⟩)
  go_ret;exact⟨rfl,rfl⟩
 by_cases f:k=2
 ·subst f;go_enter Tryz.func157,Tryz.ntmps157
  go_wp2_with (go_at_call 80;refine(qw _ _ _).mono ?_;rintro e w' ⟨rfl,rfl⟩)
  go_ret;exact⟨rfl,rfl⟩
 by_cases b:k=3
 ·subst b;go_enter Tryz.func157,Tryz.ntmps157
  go_wp2_with (go_at_call 80;refine(qw _ _ _).mono ?_;rintro e w' ⟨rfl,rfl⟩)
  go_ret;exact⟨rfl,rfl⟩
 by_cases c:k=4
 ·subst c;go_enter Tryz.func157,Tryz.ntmps157
  go_wp2_with (go_at_call 80;refine(qw _ _ _).mono ?_;rintro e w' ⟨rfl,rfl⟩)
  go_ret;exact⟨rfl,rfl⟩
 by_cases d:k=5
 ·subst d;go_enter Tryz.func157,Tryz.ntmps157
  go_wp2_with fail
  go_ret;exact⟨rfl,rfl⟩
 have HB:Hid (mi k x len=(x==0)):=by unfold Hid;simp [mi,a,f,b,c,d]
 have f1:(k==1)=false:=by simpa using a
 have f2:(k==2)=false:=by simpa using f
 have f3:(k==3)=false:=by simpa using b
 have f4:(k==4)=false:=by simpa using c
 have f5:(k==5)=false:=by simpa using d
 go_enter Tryz.func157,Tryz.ntmps157
 go_wp2_with fail
 go_ret;exact⟨by rw [HB.out];rfl,rfl⟩
def ShpAt(w:World):Prop:=∀ o j,o<12->j<3->w.cell? ⟨0,o*3+j,none⟩=some (.int .i64 (shp o j))
theorem yB(i:Ins)(len:Int)(d:0<=len)(h:len<=16)(w:World)(l:ShpAt w):
  Calls Tryz.prog 123 #[.agg #[.int .i64 i.op,.int .i64 i.a,.int .i64 i.b,.int .i64 i.n],.int .i64 len] w fun e w'=>e= .returned (.bool (lG i len))/\w.grownBy w' none:=by
 have f:Hid (ShpAt w):=l;clear l;by_cases j:1<=i.op
 ·by_cases k:i.op<=11
  ·have eo:((i.op.toNat:Nat):Int)=i.op:=by omega
   have c0:=f.out i.op.toNat 0 (by omega) (by omega);have c1:=f.out i.op.toNat 1 (by omega) (by omega);have c2:=f.out i.op.toNat 2 (by omega) (by omega);simp only [Nat.add_zero]at c0;have c:Hid (lG i len=(mi (shp i.op.toNat 0) i.a len && (mi (shp i.op.toNat 1) i.b len && mi (shp i.op.toNat 2) i.n len))):=by unfold Hid;simp [lG,j,k]
   generalize shp i.op.toNat 0=k0 at*;generalize shp i.op.toNat 1=k1 at*;generalize shp i.op.toNat 2=k2 at*;go_enter Tryz.func123,Tryz.ntmps123
   go_wp2_with fail
   refine(yw _ _ _ d h _).mono ?_;rintro e w' ⟨rfl,rfl⟩;cases hf0:mi k0 i.a len
   ·go_wp2_with fail
    go_ret;exact⟨by rw [c.out,hf0];rfl,iq (iq (ir _ _))⟩
   ·go_wp2_with fail
    refine(yw _ _ _ d h _).mono ?_;rintro e w' ⟨rfl,rfl⟩;cases hf1:mi k1 i.b len
    ·go_wp2_with fail
     go_ret;exact⟨by rw [c.out,hf0,hf1];rfl,iq (iq (ir _ _))⟩
    ·go_wp2_with fail
     refine(yw _ _ _ d h _).mono ?_;rintro e w' ⟨rfl,rfl⟩;go_wp2_with fail
     go_ret;exact⟨by rw [c.out,hf0,hf1];simp,iq (iq (ir _ _))⟩
  ·have c:Hid (lG i len=false):=by unfold Hid;simp [lG,k]
   have m:11<i.op:=by omega
   go_enter Tryz.func123,Tryz.ntmps123
   go_wp2_with fail
   go_ret;exact⟨by rw [c.out];rfl,iq (ir _ _)⟩
 ·have c:Hid (lG i len=false):=by unfold Hid;simp [lG,j]
  have m:i.op<1:=by omega
  go_enter Tryz.func123,Tryz.ntmps123
  go_wp2_with fail
  go_ret;exact⟨by rw [c.out];rfl,iq (ir _ _)⟩
def CodeAt(w:World)(v:Value)(c:List Ins):Prop:=
 ∃ ao cap,v= .slice ao c.length cap/\∀ k (hk:k<c.length),∃ g o,ao=some ⟨g,o,none⟩/\w.cell? ⟨g,o+k*4,none⟩=some (.int .i64 c[k].op)/\
  w.cell? ⟨g,o+k*4+1,none⟩=some (.int .i64 c[k].a)/\w.cell? ⟨g,o+k*4+2,none⟩=some (.int .i64 c[k].b)/\w.cell? ⟨g,o+k*4+3,none⟩=some (.int .i64 c[k].n)
def ProgAt(w:World)(v:Value)(p:List (List Ins)):Prop:=
 ∃ ao cap,v= .agg #[.slice ao p.length cap]/\∀ t (ht:t<p.length),∃ g o,ao=some ⟨g,o,none⟩/\∃ rv,w.cell? ⟨g,o+t,none⟩=some rv/\CodeAt w rv p[t]
def Pres(w w':World):Prop:=∀ a v,w.cell? a=some v->w'.cell? a=some v
theorem Pres.refl(w:World):Pres w w:=fun _ _ h=>h
theorem Pres.trans{a b c:World}(h:Pres a b)(h':Pres b c):Pres a c:=fun x v hx=>h' x v (h x v hx)
theorem ip{w w':World}(h:w.grownBy w' none):Pres w w':=fun a v ha=>by
 rw [h.cell_far a (World.block_lt_of_cell? w a ha) (by simp)];exact ha
theorem CodeAt.pres{w w':World}{v:Value}{c:List Ins}(h:CodeAt w v c)(a:Pres w w'):CodeAt w' v c:=by
 obtain⟨l,j,e,h⟩:=h;refine⟨l,j,e,fun k hk=>?_⟩;obtain⟨g,o,b,m,d,f,i⟩:=h k hk;exact⟨g,o,b,a _ _ m,a _ _ d,a _ _ f,a _ _ i⟩
theorem ProgAt.pres{w w':World}{v:Value}{p:List (List Ins)}(h:ProgAt w v p)(a:Pres w w'):ProgAt w' v p:=by
 obtain⟨f,d,e,h⟩:=h;refine⟨f,d,e,fun k hk=>?_⟩;obtain⟨g,o,b,rv,i,c⟩:=h k hk;exact⟨g,o,b,rv,a _ _ i,c.pres a⟩
theorem ShpAt.pres{w w':World}(h:ShpAt w)(hp:Pres w w'):ShpAt w':=fun o j h1 h2=>hp _ _ (h o j h1 h2)
theorem kW{α:Type}(l:List α)(f:α->Bool)(k:Nat)(h:k<l.length):(l.take (k+1)).all f=((l.take k).all f && f l[k]):=by
 rw [List.take_succ_eq_append_getElem h,List.all_append];simp
theorem tG(c:List Ins)(v:Value)(w:World)(q:ShpAt w)(hc:CodeAt w v c):
  Calls Tryz.prog 84 #[v] w fun e w'=>e= .returned (.bool (kT c))/\w.grownBy w' none:=by
 obtain⟨ao,cap,rfl,hc⟩:=hc;have y:Hid (ShpAt w):=q;have x:=ij hc;clear q hc;by_cases s:c.length<=16
 ·have t:(c.length:Int)<=16:=by omega
  have b:Hid (kT c=c.all fun i=>lG i c.length):=by unfold Hid;simp [kT,s]
  go_enter Tryz.func84,Tryz.ntmps84
  go_wp2
  go_loopw [10] (fun i w'=>∃ k:Nat,k<=c.length/\i= .int .i64 k/\Hid (w.grownBy w' none)/\Hid ((c.take k).all (fun i=>lG i c.length)=true)) (fun i _=>c.length - (intOf i).toNat)
  case atStart=>exact⟨0,Nat.zero_le _,rfl,ir _ _,rfl⟩
  case round=>
   obtain⟨k,hk,rfl,d,l⟩:=hrel;by_cases n:k<c.length
   ·obtain⟨g,o,rfl,c0,c1,j,p⟩:=x.out k n;have a:=ip d.out;have d0:=a _ _ c0;have d1:=a _ _ c1;have d2:=a _ _ j;have d3:=a _ _ p;have h:=ij (kW c (fun i=>lG i c.length) k n);clear c0 c1 j p a;have hk0:(0:Int)<=(k:Int):=by omega
    have hk1:(k:Int)<c.length:=by omega
    have z:Hid (ShpAt wr):=y.out.pres (ip d.out);generalize c[k]=i at*;go_wp2_with fail
    refine(yB i c.length (by omega) (by omega) _ (z.out.pres (ip (iq (ir _ _))))).mono ?_;rintro e A ⟨rfl,m⟩;have r:Hid (w.grownBy A none):=il (iq d.out) m;clear m;cases hv:lG i c.length
    ·have f:Hid (kT c=false):=by
      unfold Hid;rw [b.out];have:(c.take (k+1)).all (fun i=>lG i c.length)=false:=by rw [h.out,hv];simp
      rw [<-List.take_append_drop (k+1) c,List.all_append,List.take_append_drop,this];rfl
     go_wp2_with fail
     go_ret;exact⟨by rw [f.out];rfl,r⟩
    ·have u:Hid ((c.take (k+1)).all (fun i=>lG i c.length)=true):=by unfold Hid;rw [h.out,hv,l.out];rfl
     clear h hv;go_wp2
     go_roundw
     case rel=>exact⟨k+1,by omega,by go_num,r,u⟩
     case measure=>simp [intOf];omega
   ·have f:Hid (kT c=true):=by
     unfold Hid;rw [b.out];have:=l.out;rw [List.take_of_length_le (by omega)]at this;exact this
    go_wp2
    go_ret;exact⟨by rw [f.out];rfl,d⟩
 ·have b:Hid (kT c=false):=by unfold Hid;simp [kT,s]
  have t:(16:Int)<c.length:=by omega
  go_enter Tryz.func84,Tryz.ntmps84
  go_wp2
  go_ret;exact⟨by rw [b.out];rfl,ir _ _⟩
def Made(w:World)(t:Nat)(i:Ins)(e:Ending)(w':World):Prop:=∃ v,e= .returned v/\(∀ w'':World,(∀ k,w.heap.size<=k->k<w'.heap.size->w''.heap[k]?=w'.heap[k]?)->ActIs w'.heap.size w'' v t i)/\w.grownBy w' none
theorem Fk(t:Nat)(i:Ins)(h:i.op=1)(w:World):Calls Tryz.prog 110 #[.int .i64 t,.int .i64 i.a,.int .i64 i.n] w (Made w t i):=by
 have hmf:∀ (fn:Fn) (first cap:Array Value) (w:World),(Instr.makeFunc fn first cap).run Tryz.prog w= .ok (.func fn first cap) w:=fun _ _ _ _=>rfl
 have H:Hid (i.op=1):=h;clear h;go_enter Tryz.func110,Tryz.ntmps110
 go_wp2
 go_ret;have h:=H.out;refine⟨_,rfl,fun w2 hw2=>⟨w.heap.size+2,w.heap.size,w.heap.size+1,0,by(simp<;>omega),by(simp<;>omega),by(simp<;>omega),by simp,Or.inl ⟨h,rfl,?_,?_,?_⟩⟩,iq (iq (iq (ir _ _)))⟩
 all_goals (rw [World.cell?_of_block (hw2 _ (by(simp<;>omega)) (by(simp<;>omega)))];simp [go_sem])
theorem DE(t:Nat)(i:Ins)(h:i.op=2)(w:World):Calls Tryz.prog 111 #[.int .i64 t,.int .i64 i.a,.int .i64 i.b] w (Made w t i):=by
 have hmf:∀ (fn:Fn) (first cap:Array Value) (w:World),(Instr.makeFunc fn first cap).run Tryz.prog w= .ok (.func fn first cap) w:=fun _ _ _ _=>rfl
 have H:Hid (i.op=2):=h;clear h;go_enter Tryz.func111,Tryz.ntmps111
 go_wp2
 go_ret;have h:=H.out;refine⟨_,rfl,fun w2 hw2=>⟨w.heap.size+2,w.heap.size,w.heap.size+1,0,by(simp<;>omega),by(simp<;>omega),by(simp<;>omega),by simp,Or.inr (Or.inl ⟨h,rfl,?_,?_,?_⟩)⟩,iq (iq (iq (ir _ _)))⟩
 all_goals (rw [World.cell?_of_block (hw2 _ (by(simp<;>omega)) (by(simp<;>omega)))];simp [go_sem])
theorem BC(t:Nat)(i:Ins)(h:i.op=3)(w:World):Calls Tryz.prog 112 #[.int .i64 t,.int .i64 i.a,.int .i64 i.b] w (Made w t i):=by
 have hmf:∀ (fn:Fn) (first cap:Array Value) (w:World),(Instr.makeFunc fn first cap).run Tryz.prog w= .ok (.func fn first cap) w:=fun _ _ _ _=>rfl
 have H:Hid (i.op=3):=h;clear h;go_enter Tryz.func112,Tryz.ntmps112
 go_wp2
 go_ret;have h:=H.out;refine⟨_,rfl,fun w2 hw2=>⟨w.heap.size,w.heap.size+2,w.heap.size+1,0,by(simp<;>omega),by(simp<;>omega),by(simp<;>omega),by simp,Or.inr (Or.inr (Or.inl ⟨h,rfl,?_,?_,?_⟩))⟩,iq (iq (iq (ir _ _)))⟩
 all_goals (rw [World.cell?_of_block (hw2 _ (by(simp<;>omega)) (by(simp<;>omega)))];simp [go_sem])
theorem A3(t:Nat)(i:Ins)(h:i.op=7)(w:World):Calls Tryz.prog 117 #[.int .i64 t,.int .i64 i.a,.int .i64 i.b] w (Made w t i):=by
 have hmf:∀ (fn:Fn) (first cap:Array Value) (w:World),(Instr.makeFunc fn first cap).run Tryz.prog w= .ok (.func fn first cap) w:=fun _ _ _ _=>rfl
 have H:Hid (i.op=7):=h;clear h;go_enter Tryz.func117,Tryz.ntmps117
 go_wp2
 go_ret;have h:=H.out;refine⟨_,rfl,fun w2 hw2=>⟨w.heap.size,w.heap.size+2,w.heap.size+1,0,by(simp<;>omega),by(simp<;>omega),by(simp<;>omega),by simp,Or.inr (Or.inr (Or.inr (Or.inr (Or.inl ⟨h,rfl,?_,?_,?_⟩))))⟩,iq (iq (iq (ir _ _)))⟩
 all_goals (rw [World.cell?_of_block (hw2 _ (by(simp<;>omega)) (by(simp<;>omega)))];simp [go_sem])
theorem Dy(t:Nat)(i:Ins)(h:i.op=8)(w:World):Calls Tryz.prog 118 #[.int .i64 t,.int .i64 i.a,.int .i64 i.n] w (Made w t i):=by
 have hmf:∀ (fn:Fn) (first cap:Array Value) (w:World),(Instr.makeFunc fn first cap).run Tryz.prog w= .ok (.func fn first cap) w:=fun _ _ _ _=>rfl
 have H:Hid (i.op=8):=h;clear h;go_enter Tryz.func118,Tryz.ntmps118
 go_wp2
 go_ret;have h:=H.out;refine⟨_,rfl,fun w2 hw2=>⟨w.heap.size,w.heap.size+1,w.heap.size+2,0,by(simp<;>omega),by(simp<;>omega),by(simp<;>omega),by simp,Or.inr (Or.inr (Or.inr (Or.inr (Or.inr (Or.inl ⟨h,rfl,?_,?_,?_⟩)))))⟩,iq (iq (iq (ir _ _)))⟩
 all_goals (rw [World.cell?_of_block (hw2 _ (by(simp<;>omega)) (by(simp<;>omega)))];simp [go_sem])
theorem Ef(t:Nat)(i:Ins)(h:i.op=9)(w:World):Calls Tryz.prog 119 #[.int .i64 t,.int .i64 i.a] w (Made w t i):=by
 have hmf:∀ (fn:Fn) (first cap:Array Value) (w:World),(Instr.makeFunc fn first cap).run Tryz.prog w= .ok (.func fn first cap) w:=fun _ _ _ _=>rfl
 have H:Hid (i.op=9):=h;clear h;go_enter Tryz.func119,Tryz.ntmps119
 go_wp2
 go_ret;have h:=H.out;refine⟨_,rfl,fun w2 hw2=>⟨w.heap.size,w.heap.size+1,0,0,by(simp<;>omega),by simp,by simp,by simp,Or.inr (Or.inr (Or.inr (Or.inr (Or.inr (Or.inr (Or.inl ⟨h,rfl,?_,?_⟩))))))⟩,iq (iq (ir _ _))⟩
 all_goals (rw [World.cell?_of_block (hw2 _ (by(simp<;>omega)) (by(simp<;>omega)))];simp [go_sem])
theorem zW(t:Nat)(i:Ins)(h:i.op=11)(w:World):Calls Tryz.prog 121 #[.int .i64 t,.int .i64 i.a] w (Made w t i):=by
 have hmf:∀ (fn:Fn) (first cap:Array Value) (w:World),(Instr.makeFunc fn first cap).run Tryz.prog w= .ok (.func fn first cap) w:=fun _ _ _ _=>rfl
 have H:Hid (i.op=11):=h;clear h;go_enter Tryz.func121,Tryz.ntmps121
 go_wp2
 go_ret;have h:=H.out;refine⟨_,rfl,fun w2 hw2=>⟨w.heap.size,w.heap.size+1,0,0,by(simp<;>omega),by simp,by simp,by simp,Or.inr (Or.inr (Or.inr (Or.inr (Or.inr (Or.inr (Or.inr (Or.inr (⟨h,rfl,?_,?_⟩))))))))⟩,iq (iq (ir _ _))⟩
 all_goals (rw [World.cell?_of_block (hw2 _ (by(simp<;>omega)) (by(simp<;>omega)))];simp [go_sem])
theorem yl(t:Nat)(i:Ins)(h:i.op=10)(w:World):Calls Tryz.prog 120 #[.int .i64 t,.int .i64 i.a] w (Made w t i):=by
 have hmf:∀ (fn:Fn) (first cap:Array Value) (w:World),(Instr.makeFunc fn first cap).run Tryz.prog w= .ok (.func fn first cap) w:=fun _ _ _ _=>rfl
 have H:Hid (i.op=10):=h;clear h;go_enter Tryz.func120,Tryz.ntmps120
 go_wp2
 go_ret;have h:=H.out;refine⟨_,rfl,fun w2 hw2=>⟨w.heap.size,w.heap.size+1,0,0,by(simp<;>omega),by simp,by simp,by simp,Or.inr (Or.inr (Or.inr (Or.inr (Or.inr (Or.inr (Or.inr (Or.inl ⟨h,rfl,?_,?_,?_⟩)))))))⟩,iq (iq (ir _ _))⟩
 all_goals (rw [World.cell?_of_block (hw2 _ (by(simp<;>omega)) (by(simp<;>omega)))];simp [go_sem])
theorem FM(t:Nat)(i:Ins)(h:i.op=4)(w:World):Calls Tryz.prog 113 #[.int .i64 t,.int .i64 i.a,.int .i64 i.b,.func (.func 114) #[] #[]] w (Made w t i):=by
 have hmf:∀ (fn:Fn) (first cap:Array Value) (w:World),(Instr.makeFunc fn first cap).run Tryz.prog w= .ok (.func fn first cap) w:=fun _ _ _ _=>rfl
 have H:Hid (i.op=4):=h;clear h;go_enter Tryz.func113,Tryz.ntmps113
 go_wp2
 go_ret;have h:=H.out;refine⟨_,rfl,fun w2 hw2=>⟨w.heap.size+3,w.heap.size,w.heap.size+1,w.heap.size+2,by(simp<;>omega),by(simp<;>omega),by(simp<;>omega),by(simp<;>omega),Or.inr (Or.inr (Or.inr (Or.inl ⟨_,Or.inl ⟨h,rfl⟩,rfl,?_,?_,?_,?_⟩)))⟩,iq (iq (iq (iq (ir _ _))))⟩
 all_goals (rw [World.cell?_of_block (hw2 _ (by(simp<;>omega)) (by(simp<;>omega)))];simp [go_sem])
theorem Fh(t:Nat)(i:Ins)(h:i.op=5)(w:World):Calls Tryz.prog 113 #[.int .i64 t,.int .i64 i.a,.int .i64 i.b,.func (.func 115) #[] #[]] w (Made w t i):=by
 have hmf:∀ (fn:Fn) (first cap:Array Value) (w:World),(Instr.makeFunc fn first cap).run Tryz.prog w= .ok (.func fn first cap) w:=fun _ _ _ _=>rfl
 have H:Hid (i.op=5):=h;clear h;go_enter Tryz.func113,Tryz.ntmps113
 go_wp2
 go_ret;have h:=H.out;refine⟨_,rfl,fun w2 hw2=>⟨w.heap.size+3,w.heap.size,w.heap.size+1,w.heap.size+2,by(simp<;>omega),by(simp<;>omega),by(simp<;>omega),by(simp<;>omega),Or.inr (Or.inr (Or.inr (Or.inl ⟨_,Or.inr (Or.inl ⟨h,rfl⟩),rfl,?_,?_,?_,?_⟩)))⟩,iq (iq (iq (iq (ir _ _))))⟩
 all_goals (rw [World.cell?_of_block (hw2 _ (by(simp<;>omega)) (by(simp<;>omega)))];simp [go_sem])
theorem Fz(t:Nat)(i:Ins)(h:i.op=6)(w:World):Calls Tryz.prog 113 #[.int .i64 t,.int .i64 i.a,.int .i64 i.b,.func (.func 116) #[] #[]] w (Made w t i):=by
 have hmf:∀ (fn:Fn) (first cap:Array Value) (w:World),(Instr.makeFunc fn first cap).run Tryz.prog w= .ok (.func fn first cap) w:=fun _ _ _ _=>rfl
 have H:Hid (i.op=6):=h;clear h;go_enter Tryz.func113,Tryz.ntmps113
 go_wp2
 go_ret;have h:=H.out;refine⟨_,rfl,fun w2 hw2=>⟨w.heap.size+3,w.heap.size,w.heap.size+1,w.heap.size+2,by(simp<;>omega),by(simp<;>omega),by(simp<;>omega),by(simp<;>omega),Or.inr (Or.inr (Or.inr (Or.inl ⟨_,Or.inr (Or.inr ⟨h,rfl⟩),rfl,?_,?_,?_,?_⟩)))⟩,iq (iq (iq (iq (ir _ _))))⟩
 all_goals (rw [World.cell?_of_block (hw2 _ (by(simp<;>omega)) (by(simp<;>omega)))];simp [go_sem])
end
end Go.Proofs.YtklenjmfalljgabGreatDoor
