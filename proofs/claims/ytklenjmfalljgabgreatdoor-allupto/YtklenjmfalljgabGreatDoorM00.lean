/- The texts Pure Reg Clo Clo2 Clo3 Clo4 Mem Act Rdy Stp Mach. -/
import Derived.RowKit
import Derived.StillTailTactics
import Derived.OrdersHeld
import Derived.Test.YtklenjmfalljgabGreatDoorProg
import Derived.WalkKit
import Derived.WalkSpells
import Derived.WalkLawsBesides
import Derived.RegionTactic
import Derived.BigRegion
import Derived.ChangeAlike
import Derived.BigQuiet
import Derived.Deep.QuietTactic
import Derived.Deep.RegionHeld3
import Derived.Laws.Rows
import Derived.Deep.DeepMust
import Derived.Laws.EntriesVeiled
namespace Go.Proofs.YtklenjmfalljgabGreatDoor
set_option maxRecDepth 100000
set_option maxHeartbeats 8000000
section
open Go.RowKit (wrap64)
structure Ins where
 op:Int
 a:Int
 b:Int
 n:Int
structure St where
 vars:Nat->Int
 held:Nat->Bool
 own:Nat->Int
 regs:Nat->Nat->Int
 next:Nat->Int
def St.zero:St:=⟨fun _=>0,fun _=>false,fun _=>0,fun _ _=>0,fun _=>0⟩
def St.setReg(s:St)(t r:Nat)(v:Int):St:=⟨s.vars,s.held,s.own,fun t' r'=>if t'=t/\r'=r then v else s.regs t' r',s.next⟩
def St.setVar(s:St)(x:Nat)(v:Int):St:=⟨fun x'=>if x'=x then v else s.vars x',s.held,s.own,s.regs,s.next⟩
def St.setNext(s:St)(t:Nat)(v:Int):St:=⟨s.vars,s.held,s.own,s.regs,fun t'=>if t'=t then v else s.next t'⟩
def St.setLock(s:St)(l:Nat)(h:Bool)(o:Int):St:=⟨s.vars,fun l'=>if l'=l then h else s.held l',fun l'=>if l'=l then o else s.own l',s.regs,s.next⟩
def act(t:Nat)(i:Ins)(s:St):Bool × St:=
 if i.op=1 then (true,s.setReg t i.a.toNat i.n)
 else if i.op=2 then (true,s.setReg t i.a.toNat (s.vars i.b.toNat))
 else if i.op=3 then (true,s.setVar i.a.toNat (s.regs t i.b.toNat))
 else if i.op=4 then (true,s.setReg t i.a.toNat (wrap64 (s.regs t i.a.toNat+s.regs t i.b.toNat)))
 else if i.op=5 then (true,s.setReg t i.a.toNat (wrap64 (s.regs t i.a.toNat - s.regs t i.b.toNat)))
 else if i.op=6 then (true,s.setReg t i.a.toNat (wrap64 (s.regs t i.a.toNat*s.regs t i.b.toNat)))
 else if i.op=7 then (if s.regs t i.b.toNat=0 then (false,s) else (true,s.setReg t i.a.toNat (wrap64 ((s.regs t i.a.toNat).tdiv (s.regs t i.b.toNat)))))
 else if i.op=8 then (true,if s.regs t i.a.toNat=0 then s.setNext t i.n else s)
 else if i.op=9 then (true,s.setLock i.a.toNat true t)
 else if i.op=10 then (if s.held i.a.toNat=true/\s.own i.a.toNat=t then (true,s.setLock i.a.toNat false 0) else (false,s))
 else (s.regs t i.a.toNat !=0,s)
def shp(op j:Nat):Int:=
 ((([[0,0,0],[1,0,5],[1,2,0],[2,1,0],[1,1,0],[1,1,0],[1,1,0],[1,1,0],[1,0,4],[3,0,0],[3,0,0],[1,0,0]]:List (List Int))[op]?).getD [])[j]?.getD 0
def belowB(x n:Int):Bool:=decide (0<=x) && decide (x<n)
def fitsB(k x len:Int):Bool:=
 if k=1 then belowB x 4 else if k=2 then belowB x 4 else if k=3 then belowB x 3 else if k=4 then belowB x (len+1) else if k=5 then true else (x==0)
def vIns(i:Ins)(len:Int):Bool:=
 decide (1<=i.op) && (decide (i.op<=11) && (fitsB (shp i.op.toNat 0) i.a len && (fitsB (shp i.op.toNat 1) i.b len && fitsB (shp i.op.toNat 2) i.n len)))
def vCode(c:List Ins):Bool:=decide (c.length<=16) && c.all fun i=>vIns i c.length
def vProg(p:List (List Ins)):Bool:=decide (1<=p.length) && (decide (p.length<=4) && p.all vCode)
def codeOf(p:List (List Ins))(t:Nat):List Ins:=(p[t]?).getD []
def insAt(p:List (List Ins))(t:Nat)(k:Int):Ins:=((codeOf p t)[k.toNat]?).getD ⟨0,0,0,0⟩
def doneB(p:List (List Ins))(s:St)(t:Nat):Bool:=s.next t==((codeOf p t).length:Int)
def readyB(p:List (List Ins))(s:St)(t:Nat):Bool:=!doneB p s t && (!((insAt p t (s.next t)).op==9) || !s.held (insAt p t (s.next t)).a.toNat)
def stepS(p:List (List Ins))(s:St)(t:Nat):Bool × St:=act t (insAt p t (s.next t)) (s.setNext t (s.next t+1))
def endingS(p:List (List Ins))(s:St):Int:=
 if (List.range p.length).any (readyB p s) then 5 else if (List.range p.length).all (doneB p s) then 3 else 4
def okAt(p:List (List Ins))(s:St)(t:Int):Bool:=belowB t p.length && readyB p s t.toNat
structure Out where
 steps:List (Int × Int)
 kind:Int
 thread:Int
 at_:Int
 st:St
def follow(p:List (List Ins)):List Int->Int->St->List (Int × Int)->Out
 | [],_,s,acc=>⟨acc,endingS p s,0,0,s⟩
 | t::r,i,s,acc=>
  if okAt p s t=true then
   (if (stepS p s t.toNat).1=true then follow p r (i+1) (stepS p s t.toNat).2 (acc++[(t,s.next t.toNat)])
    else ⟨acc++[(t,s.next t.toNat)],1,t,s.next t.toNat,(stepS p s t.toNat).2⟩)
  else ⟨acc,2,0,i,s⟩
def runS(p:List (List Ins))(sch:List Int):Out:=follow p sch 0 St.zero []
def Inv(p:List (List Ins))(s:St):Prop:=∀ t,t<p.length->0<=s.next t/\s.next t<=(codeOf p t).length
theorem Inv.zero(p:List (List Ins)):Inv p St.zero:=fun t _=>⟨by simp [St.zero],by simp [St.zero]⟩
theorem rN{i:Ins}{len:Int}(h:vIns i len=true):1<=i.op/\i.op<=11:=by
 simp only [vIns,Bool.and_eq_true,decide_eq_true_eq]at h;exact⟨h.1,h.2.1⟩
theorem pn{i:Ins}{len:Int}(h:vIns i len=true):fitsB (shp i.op.toNat 0) i.a len=true/\fitsB (shp i.op.toNat 1) i.b len=true/\fitsB (shp i.op.toNat 2) i.n len=true:=by
 simp only [vIns,Bool.and_eq_true,decide_eq_true_eq]at h;exact h.2.2
theorem lJ{i:Ins}{len:Int}(h:vIns i len=true):
  (i.op=1/\0<=i.a/\i.a<4)\/(i.op=2/\0<=i.a/\i.a<4/\0<=i.b/\i.b<4)\/(i.op=3/\0<=i.a/\i.a<4/\0<=i.b/\i.b<4)\/
  (i.op=4/\0<=i.a/\i.a<4/\0<=i.b/\i.b<4)\/(i.op=5/\0<=i.a/\i.a<4/\0<=i.b/\i.b<4)\/(i.op=6/\0<=i.a/\i.a<4/\0<=i.b/\i.b<4)\/
  (i.op=7/\0<=i.a/\i.a<4/\0<=i.b/\i.b<4)\/(i.op=8/\0<=i.a/\i.a<4/\0<=i.n/\i.n<len+1)\/(i.op=9/\0<=i.a/\i.a<3)\/(i.op=10/\0<=i.a/\i.a<3)\/(i.op=11/\0<=i.a/\i.a<4):=by
 obtain⟨h1,h2⟩:=rN h;obtain⟨c,d,f⟩:=pn h;have hc:i.op=1\/i.op=2\/i.op=3\/i.op=4\/i.op=5\/i.op=6\/i.op=7\/i.op=8\/i.op=9\/i.op=10\/i.op=11:=by omega
 rcases hc with e | e | e | e | e | e | e | e | e | e | e<;>rw [e]at c d f<;>simp [shp,fitsB,belowB]at c d f<;>simp [e]<;>omega
theorem xr(t:Nat)(i:Ins)(s:St)(b:Nat):(act t i s).2.next b=s.next b\/(b=t/\i.op=8/\(act t i s).2.next b=i.n):=by
 by_cases c:i.op=8
 ·have e:act t i s=(true,if s.regs t i.a.toNat=0 then s.setNext t i.n else s):=by simp [act,c]
  rw [e];by_cases d:s.regs t i.a.toNat=0
  ·simp only [d,if_true,St.setNext];by_cases f:b=t
   ·right;simp [f,c]
   ·left;simp [f]
  ·left;simp [d]
 ·left
  unfold act;repeat' split
  all_goals first | rfl | (exfalso;exact c ‹_›)
theorem kC{p:List (List Ins)}{t:Nat}(h:t<p.length):codeOf p t=p[t]:=by simp [codeOf,h]
theorem jf{p:List (List Ins)}(h:vProg p=true){t:Nat}(a:t<p.length):vCode (codeOf p t)=true:=by
 simp only [vProg,Bool.and_eq_true,List.all_eq_true]at h;rw [kC a];exact h.2.2 _ (List.getElem_mem a)
theorem iW{p:List (List Ins)}(h:vProg p=true):1<=p.length/\p.length<=4:=by
 simp only [vProg,Bool.and_eq_true,decide_eq_true_eq]at h;exact⟨h.1,h.2.1⟩
theorem jx{c:List Ins}(h:vCode c=true):c.length<=16:=by
 simp only [vCode,Bool.and_eq_true,decide_eq_true_eq]at h;exact h.1
theorem qy{c:List Ins}(h:vCode c=true){k:Nat}(a:k<c.length):vIns c[k] c.length=true:=by
 simp only [vCode,Bool.and_eq_true,List.all_eq_true]at h;exact h.2 _ (List.getElem_mem a)
theorem j4{p:List (List Ins)}{t:Nat}{k:Int}(h:k.toNat<(codeOf p t).length):insAt p t k=(codeOf p t)[k.toNat]:=by simp [insAt,h]
theorem jT{p:List (List Ins)}(h:vProg p=true){t:Nat}(b:t<p.length){k:Int}(a:k.toNat<(codeOf p t).length):vIns (insAt p t k) (codeOf p t).length=true:=by
 rw [j4 a];exact qy (jf h b) a
theorem Inv.step{p:List (List Ins)}{s:St}(k:vProg p=true)(h:Inv p s){t:Nat}(d:t<p.length)(f:doneB p s t=false):Inv p (stepS p s t).2:=by
 intro b l;have hn:=h t d;have j:=h b l;have hne:s.next t≠((codeOf p t).length:Int):=by simpa [doneB]using f
 have i:(s.next t).toNat<(codeOf p t).length:=by omega
 have m:=jT k d i;have c:∀ t'',t''=t->(codeOf p t'').length=(codeOf p t).length:=fun t'' e=>by rw [e]
 rcases xr t (insAt p t (s.next t)) (s.setNext t (s.next t+1)) b with e | ⟨e1,e2,e3⟩
 ·unfold stepS;rw [e];simp only [St.setNext]
  split
  ·rename_i e4;have:=c b e4;omega
  ·exact j
 ·unfold stepS;rw [e3]
  have:=lJ m;have hl:=c b e1;rcases this with h1 | h1 | h1 | h1 | h1 | h1 | h1 | h1 | h1 | h1 | h1<;>omega
theorem mn(p:List (List Ins))(i:Int)(s:St)(acc:List (Int × Int)):follow p [] i s acc=⟨acc,endingS p s,0,0,s⟩:=rfl
theorem jh(p:List (List Ins))(t:Int)(r:List Int)(i:Int)(s:St)(acc:List (Int × Int))(h:okAt p s t=false):follow p (t::r) i s acc=⟨acc,2,0,i,s⟩:=by simp [follow,h]
theorem kk(p:List (List Ins))(t:Int)(r:List Int)(i:Int)(s:St)(acc:List (Int × Int))(h:okAt p s t=true)(h2:(stepS p s t.toNat).1=false):
  follow p (t::r) i s acc=⟨acc++[(t,s.next t.toNat)],1,t,s.next t.toNat,(stepS p s t.toNat).2⟩:=by simp [follow,h,h2]
theorem kS(p:List (List Ins))(t:Int)(r:List Int)(i:Int)(s:St)(acc:List (Int × Int))(h:okAt p s t=true)(h2:(stepS p s t.toNat).1=true):
  follow p (t::r) i s acc=follow p r (i+1) (stepS p s t.toNat).2 (acc++[(t,s.next t.toNat)]):=by simp [follow,h,h2]
end
section
open Go
section
variable {P : Program} {ops : Array Oper} {Q : Exit -> Act -> World -> Prop} {S : World -> Prop} {n : Nat}
def lastL(P:Program)(ops:Array Oper)(Q:Exit->Act->World->Prop)(n:Nat)(listed:Array Bool)(a:Act)(w:World):Prop:=
 Region.ready .any ops listed=[n]/\Region.ready .any ops (listed.setIfInBounds n true)=[]/\wpOp P ops Q n (fun a' w'=>Q .normal a' w') a w
def wpHead(P:Program)(ops:Array Oper)(Q:Exit->Act->World->Prop)(S:World->Prop)(n:Nat):Nat->Array Bool->Act->World->Prop
 | 0,listed,a,w=>lastL P ops Q n listed a w
 | f+1,listed,a,w=>Region.ready .any ops listed≠[]/\∀ i∈Region.ready .any ops listed,i<n/\wpOp P ops Q i (fun a' w'=>S w'/\wpHead P ops Q S n f (listed.setIfInBounds i true) a' w') a w
theorem lq:∀ (f:Nat) (listed:Array Bool) (a:Act) (w:World),wpHead P ops Q S n f listed a w->wpAny P .any ops Q (f+1) listed a w
 | 0,listed,a,w,⟨h1,h2,h3⟩=>⟨fun h=>(by rw [h1]at h;cases h),fun i hi=>by
   rw [h1]at hi;have:i=n:=by simpa using hi
   subst this;exact wpOp_mono (fun a' w' h=>⟨h2,h⟩) h3⟩
 | f+1,listed,a,w,⟨h1,h2⟩=>⟨fun h=>absurd h h1,fun i hi=>wpOp_mono (fun a' w' h=>lq f _ a' w' h.2) (h2 i hi).2⟩
theorem rO{i:Nat}{p:Oper}{v:Value}(x:ops[i]?=some p)(E:∀ (j:Nat) (o:Oper) cs b,ops[j]?=some o->o.op≠ .select cs b)
  (F:∀ c a w,Q (.panic c) (a.put p.dst v) w->Q (.panic c) a w) (K:Region.sinkB .any ops n=true) (hc:Region.chainB .any ops n=true) (I:n<ops.size) (y:i<n):
  ∀ (f:Nat) (m:Array Bool) (a:Act) (w:World),
   (∀ j oj,ops[j]?=some oj->j≠i->m.getD j true=false->(∀ e∈oj.after,Region.binds .any e=true->e.on≠i)->p.apart ops oj=true)->
   i∈Region.ready .any ops m->HeadInv .any ops n m->YieldsIf P ops S p v a->S w->
   wpHead P ops Q S n f (m.setIfInBounds i true) (a.put p.dst v) w->wpHead P ops Q S n (f+1) m a w:=by
 intro f;induction f with
 | zero=>
  intro m a w _ l A s r H;refine⟨fun h=>(by rw [h]at l;cases l),fun j hj=>?_⟩;by_cases d:j=i
  ·subst d;exact⟨y,s.wpOp x r ⟨r,H⟩⟩
  ·have q:=ready_mono hj d;rw [H.1]at q;have:j=n:=by simpa using q
   subst this;exact absurd hj (tail_waits K hc I A _ i rfl y (mem_ready.1 l).1 j (Nat.le_refl _))
 | succ f ih=>
  intro m a w B l A s r H;refine⟨fun h=>(by rw [h]at l;cases l),fun j hj=>?_⟩;by_cases d:j=i
  ·subst d;exact⟨y,s.wpOp x r ⟨r,H⟩⟩
  ·have t:=H.2 j (ready_mono hj d);refine⟨t.1,?_⟩;obtain⟨D,oj,z,G⟩:=mem_ready.1 hj;have J:∀ e∈oj.after,Region.binds .any e=true->e.on≠i:=fun e he hb heq=>by
    have q:=G e he hb;have u:=getD_both (mem_ready.1 l).1;rw [heq,u]at q;cases q
   have u:=wpOp_putIf z (B j oj z d D J) (fun cs b=>E i p cs b x) (fun cs b=>E j oj cs b z) F s t.2;refine wpOp_mono (fun a' w' h3=>⟨h3.2.1,ih (m.setIfInBounds j true) a' w' (fun k ok hk hki hun hno=>?_) (ready_mono l (Ne.symm d)) (A.set hj t.1) h3.1 h3.2.1 ?_⟩) u
   ·refine B k ok hk hki ?_ hno;by_cases C:j=k
    ·subst C;exact D
    ·rw [getD_set_ne true C]at hun;exact hun
   ·rw [Array.setIfInBounds_comm _ _ d];exact h3.2.2
theorem jr{i:Nat}{d:Oper}{v:Value}{f:Nat}{b:Array Bool}{a:Act}{w:World}(k:ops[i]?=some d)
  (l:(Region.noSelect ops && (Region.sinkB .any ops n && (Region.chainB .any ops n && (decide (n<ops.size) && (decide (i<n) && (Region.free .any ops b i && (Region.ready .any ops b).contains i))))))=true)
  (t:∀ c a w,Q (.panic c) (a.put d.dst v) w->Q (.panic c) a w) (x:YieldsIf P ops S d v a) (u:S w)
  (h:HeadInv .any ops n (b.setIfInBounds i true)->wpHead P ops Q S n f (b.setIfInBounds i true) (a.put d.dst v) w):HeadInv .any ops n b->wpHead P ops Q S n (f+1) b a w:=by
 simp only [Bool.and_eq_true,decide_eq_true_eq]at l;obtain⟨m,o,p,q,e,r,s⟩:=l;have j:i∈Region.ready .any ops b:=by simpa using s
 exact fun inv=>rO k (Region.noSelect_spec m) t o p q e f b a w (Region.free_spec k r) j inv x u (h (inv.set j e))
theorem ie(i:Nat)(v:Value){oi:Oper}{f:Nat}{listed:Array Bool}{a:Act}{w:World}(hi:ops[i]?=some oi)
  (hs:(Region.noSelect ops && (Region.sinkB .any ops n && (Region.chainB .any ops n && (decide (n<ops.size) && (decide (i<n) && (Region.free .any ops listed i && (Region.ready .any ops listed).contains i))))))=true)
  (hQ:∀ c a w,Q (.panic c) (a.put oi.dst v) w->Q (.panic c) a w) (hw:Region.wanted oi (yielded ops a.tmps)=true) (hy:∀ w,S w->(execOp a.eval oi).run P w= .ok (.value v) w) (hS:S w)
  (h:HeadInv .any ops n (listed.setIfInBounds i true)->wpHead P ops Q S n f (listed.setIfInBounds i true) (a.put oi.dst v) w):HeadInv .any ops n listed->wpHead P ops Q S n (f+1) listed a w:=
 jr hi hs hQ (Or.inl ⟨hw,hy⟩) hS h
theorem iu{i:Nat}{d:Oper}{f:Nat}{b:Array Bool}{a:Act}{w:World}(l:ops[i]?=some d)
  (c:Region.ready .any ops b=[i]) (m:decide (i<n)=true) (o:Region.wanted d (yielded ops a.tmps)=true)
  (h:∀ K:Act->World->Prop,(∀ a' w',S w'->(HeadInv .any ops n (b.setIfInBounds i true)->wpHead P ops Q S n f (b.setIfInBounds i true) a' w')->K a' w')->d.wp P a w K Q):
  HeadInv .any ops n b->wpHead P ops Q S n (f+1) b a w:=by
 intro p;have e:i<n:=of_decide_eq_true m;have k:i∈Region.ready .any ops b:=by rw [c];simp
 refine⟨fun h=>(by rw [c]at h;cases h),fun j hj=>?_⟩;rw [c]at hj;have:j=i:=by simpa using hj
 subst this;refine⟨e,?_⟩;unfold wpOp;simp only [l,o,if_true];exact Or.inl (h _ (fun a' w' hS hh=>⟨hS,hh (p.set k e)⟩))
theorem iF{on:Oper}{b:Array Bool}{a:Act}{w:World}(c:ops[n]?=some on)
  (d:Region.ready .any ops b=[n]) (e:Region.ready .any ops (b.setIfInBounds n true)=[]) (f:Region.wanted on (yielded ops a.tmps)=true)
  (h:on.wp P a w (fun a' w'=>Q .normal a' w') Q):HeadInv .any ops n b->wpHead P ops Q S n 0 b a w:=by
 intro _;refine⟨d,e,?_⟩;unfold wpOp;simp only [c,f,if_true];exact Or.inl h
theorem iz{e:Nat}{a:Act}{w:World}(S:World->Prop)(n:Nat)(c:P.follows .mixedOrders=true)(d:ops.size=n+1)(b:S w.drew)
  (h:S w.drew->HeadInv .any ops n (Array.replicate ops.size false)->wpHead P ops Q S n n (Array.replicate ops.size false) a w.drew):(Code.region e ops true).wp P Q a w:=by
 refine wp_region_any c ?_;have f:HeadInv .any ops n (Array.replicate ops.size false):=
  ⟨by simp,fun j oj _ hl=>(by rw [getD_replicate_false]at hl;cases hl),fun t _ ht=>getD_in (by simpa using ht) (getD_replicate_false _ _)⟩
 have:=lq (P:=P) (Q:=Q) n _ a _ (h b f);rw [d]at this ⊢;exact this
end
def Like(w' w:World):Prop:=w'.heap=w.heap/\w'.os=w.os/\w'.output=w.output/\w'.tape=w.tape
end
section
open Go.RowKit
theorem AZ(t r:Nat)(ht:t<4)(hr:r<4)(n:Int)(b a d c:Nat)(w:World)(x:Value)
  (hn:w.cell? ⟨a,0,none⟩=some (.int .i64 n)) (htc:w.cell? ⟨d,0,none⟩=some (.int .i64 t)) (hrc:w.cell? ⟨c,0,none⟩=some (.int .i64 r))
  (hx:w.cell? ⟨b,10+t*4+r,none⟩=some x) (hf:w.frozen? ⟨b,10+t*4+r,none⟩=false):
  Calls Tryz.prog 148 #[.pointer (some ⟨b,0,none⟩),.pointer (some ⟨a,0,none⟩),.pointer (some ⟨d,0,none⟩),.pointer (some ⟨c,0,none⟩)] w
   fun e w'=>e= .returned (.bool true)/\Like w' (w.setCell ⟨b,10+t*4+r,none⟩ (.int .i64 n)):=by
 have h1:(0:Int)<=(t:Int):=by omega
 have h2:(t:Int)<4:=by omega
 have h3:(0:Int)<=(r:Int):=by omega
 have h4:(r:Int)<4:=by omega
 go_enter Tryz.func148,Tryz.ntmps148
 go_wp2
 go_region
 all_goals (go_wp2;go_ret;exact⟨rfl,rfl,rfl,rfl,rfl⟩)
theorem yB(t r v:Nat)(ht:t<4)(hr:r<4)(hv:v<4)(n:Int)(b d c a:Nat)(w:World)(x:Value)
  (hvc:w.cell? ⟨d,0,none⟩=some (.int .i64 v)) (htc:w.cell? ⟨c,0,none⟩=some (.int .i64 t)) (hrc:w.cell? ⟨a,0,none⟩=some (.int .i64 r))
  (hn:w.cell? ⟨b,v,none⟩=some (.int .i64 n))
  (hx:w.cell? ⟨b,10+t*4+r,none⟩=some x) (hf:w.frozen? ⟨b,10+t*4+r,none⟩=false):
  Calls Tryz.prog 149 #[.pointer (some ⟨b,0,none⟩),.pointer (some ⟨d,0,none⟩),.pointer (some ⟨c,0,none⟩),.pointer (some ⟨a,0,none⟩)] w
   fun e w'=>e= .returned (.bool true)/\Like w' (w.setCell ⟨b,10+t*4+r,none⟩ (.int .i64 n)):=by
 have h1:(0:Int)<=(t:Int):=by omega
 have h2:(t:Int)<4:=by omega
 have h3:(0:Int)<=(r:Int):=by omega
 have h4:(r:Int)<4:=by omega
 have h5:(0:Int)<=(v:Int):=by omega
 have h6:(v:Int)<4:=by omega
 go_enter Tryz.func149,Tryz.ntmps149
 go_wp2
 go_region
 all_goals (go_wp2;go_ret;exact⟨rfl,rfl,rfl,rfl,rfl⟩)
theorem wZ(t r v:Nat)(ht:t<4)(hr:r<4)(hv:v<4)(n:Int)(b d c a:Nat)(w:World)(x:Value)
  (hvc:w.cell? ⟨d,0,none⟩=some (.int .i64 v)) (htc:w.cell? ⟨c,0,none⟩=some (.int .i64 t)) (hrc:w.cell? ⟨a,0,none⟩=some (.int .i64 r))
  (hn:w.cell? ⟨b,10+t*4+r,none⟩=some (.int .i64 n))
  (hx:w.cell? ⟨b,v,none⟩=some x) (hf:w.frozen? ⟨b,v,none⟩=false):
  Calls Tryz.prog 150 #[.pointer (some ⟨b,0,none⟩),.pointer (some ⟨c,0,none⟩),.pointer (some ⟨a,0,none⟩),.pointer (some ⟨d,0,none⟩)] w
   fun e w'=>e= .returned (.bool true)/\Like w' (w.setCell ⟨b,v,none⟩ (.int .i64 n)):=by
 have h1:(0:Int)<=(t:Int):=by omega
 have h2:(t:Int)<4:=by omega
 have h3:(0:Int)<=(r:Int):=by omega
 have h4:(r:Int)<4:=by omega
 have h5:(0:Int)<=(v:Int):=by omega
 have h6:(v:Int)<4:=by omega
 go_enter Tryz.func150,Tryz.ntmps150
 go_wp2
 go_region
 all_goals (go_wp2;go_ret;exact⟨rfl,rfl,rfl,rfl,rfl⟩)
theorem yy(t r:Nat)(ht:t<4)(hr:r<4)(n y:Int)(b d h f:Nat)(w:World)(x:Value)
  (hnc:w.cell? ⟨d,0,none⟩=some (.int .i64 n)) (htc:w.cell? ⟨h,0,none⟩=some (.int .i64 t)) (hrc:w.cell? ⟨f,0,none⟩=some (.int .i64 r))
  (hy:w.cell? ⟨b,10+t*4+r,none⟩=some (.int .i64 y))
  (hx:w.cell? ⟨b,26+t,none⟩=some x) (hf:w.frozen? ⟨b,26+t,none⟩=false):
  Calls Tryz.prog 153 #[.pointer (some ⟨b,0,none⟩),.pointer (some ⟨h,0,none⟩),.pointer (some ⟨f,0,none⟩),.pointer (some ⟨d,0,none⟩)] w
   fun e w'=>e= .returned (.bool true)/\Like w' (if y=0 then w.setCell ⟨b,26+t,none⟩ (.int .i64 n) else w):=by
 have h1:(0:Int)<=(t:Int):=by omega
 have h2:(t:Int)<4:=by omega
 have h3:(0:Int)<=(r:Int):=by omega
 have h4:(r:Int)<4:=by omega
 by_cases a:(y==0)=true
 ·have c:y=0:=by simpa using a
  rw [if_pos c];have HZ:Hid (y=0):=c;clear c;go_enter Tryz.func153,Tryz.ntmps153
  go_wp2
  go_region
  all_goals (go_wp2;go_region)
  all_goals (go_wp2;go_ret;exact⟨rfl,rfl,rfl,rfl,rfl⟩)
 ·have hz2:(y==0)=false:=by simpa using a
  rw [if_neg (by simpa using a)];clear a;go_enter Tryz.func153,Tryz.ntmps153
  go_wp2
  go_region
  all_goals (go_wp2;go_ret;exact⟨rfl,rfl,rfl,rfl,rfl⟩)
theorem tx(t r:Nat)(ht:t<4)(hr:r<4)(y:Int)(b c a:Nat)(w:World)
  (htc:w.cell? ⟨c,0,none⟩=some (.int .i64 t)) (hrc:w.cell? ⟨a,0,none⟩=some (.int .i64 r))
  (hy:w.cell? ⟨b,10+t*4+r,none⟩=some (.int .i64 y)):
  Calls Tryz.prog 156 #[.pointer (some ⟨b,0,none⟩),.pointer (some ⟨c,0,none⟩),.pointer (some ⟨a,0,none⟩)] w
   fun e w'=>e= .returned (.bool (y !=0))/\Like w' w:=by
 have h1:(0:Int)<=(t:Int):=by omega
 have h2:(t:Int)<4:=by omega
 have h3:(0:Int)<=(r:Int):=by omega
 have h4:(r:Int)<4:=by omega
 go_enter Tryz.func156,Tryz.ntmps156
 go_wp2
 go_region
 all_goals (go_wp2;go_ret;exact⟨rfl,rfl,rfl,rfl,rfl⟩)
theorem zp(t l:Nat)(hl:l<3)(b c a:Nat)(w:World)(x y:Value)
  (htc:w.cell? ⟨c,0,none⟩=some (.int .i64 t)) (hlc:w.cell? ⟨a,0,none⟩=some (.int .i64 l))
  (hx:w.cell? ⟨b,4+l*2,none⟩=some x) (hf:w.frozen? ⟨b,4+l*2,none⟩=false)
  (hy:w.cell? ⟨b,4+l*2+1,none⟩=some y) (hf2:w.frozen? ⟨b,4+l*2+1,none⟩=false):
  Calls Tryz.prog 154 #[.pointer (some ⟨b,0,none⟩),.pointer (some ⟨c,0,none⟩),.pointer (some ⟨a,0,none⟩)] w
   fun e w'=>e= .returned (.bool true)/\Like w' ((w.setCell ⟨b,4+l*2,none⟩ (.bool true)).setCell ⟨b,4+l*2+1,none⟩ (.int .i64 t)):=by
 have h3:(0:Int)<=(l:Int):=by omega
 have h4:(l:Int)<3:=by omega
 go_enter Tryz.func154,Tryz.ntmps154
 go_wp2
 go_region
 all_goals (go_wp2;go_ret;exact⟨rfl,rfl,rfl,rfl,rfl⟩)
theorem nU(t l:Nat)(hl:l<3)(b a c:Nat)(w:World)
  (hmc:w.cell? ⟨a,0,none⟩=some (.bool true)) (hmc2:w.cell? ⟨a,1,none⟩=some (.int .i64 t)) (hlc:w.cell? ⟨c,0,none⟩=some (.int .i64 l))
  (hx:w.cell? ⟨b,4+l*2,none⟩=some (.bool true)) (hf:w.frozen? ⟨b,4+l*2,none⟩=false)
  (hy:w.cell? ⟨b,4+l*2+1,none⟩=some (.int .i64 t)) (hf2:w.frozen? ⟨b,4+l*2+1,none⟩=false):
  Calls Tryz.prog 155 #[.pointer (some ⟨b,0,none⟩),.pointer (some ⟨c,0,none⟩),.pointer (some ⟨a,0,none⟩)] w
   fun e w'=>e= .returned (.bool true)/\Like w' ((w.setCell ⟨b,4+l*2,none⟩ (.bool false)).setCell ⟨b,4+l*2+1,none⟩ (.int .i64 0)):=by
 have h3:(0:Int)<=(l:Int):=by omega
 have h4:(l:Int)<3:=by omega
 go_enter Tryz.func155,Tryz.ntmps155
 go_wp2
 go_region
 all_goals (go_wp2;go_region)
 all_goals (go_wp2;go_ret;exact⟨rfl,rfl,rfl,rfl,rfl⟩)
theorem nz(t l:Nat)(hl:l<3)(b a c:Nat)(w:World)(o:Int)
  (hmc:w.cell? ⟨a,0,none⟩=some (.bool true)) (hmc2:w.cell? ⟨a,1,none⟩=some (.int .i64 t)) (hlc:w.cell? ⟨c,0,none⟩=some (.int .i64 l))
  (hx:w.cell? ⟨b,4+l*2,none⟩=some (.bool false))
  (hy:w.cell? ⟨b,4+l*2+1,none⟩=some (.int .i64 o)):
  Calls Tryz.prog 155 #[.pointer (some ⟨b,0,none⟩),.pointer (some ⟨c,0,none⟩),.pointer (some ⟨a,0,none⟩)] w
   fun e w'=>e= .returned (.bool false)/\Like w' w:=by
 have h3:(0:Int)<=(l:Int):=by omega
 have h4:(l:Int)<3:=by omega
 go_enter Tryz.func155,Tryz.ntmps155
 go_wp2
 go_region
 all_goals (go_wp2;go_ret;exact⟨rfl,rfl,rfl,rfl,rfl⟩)
theorem o9(t l:Nat)(hl:l<3)(b a c:Nat)(w:World)(o:Int)(ho:¬o=t)
  (hmc:w.cell? ⟨a,0,none⟩=some (.bool true)) (hmc2:w.cell? ⟨a,1,none⟩=some (.int .i64 t)) (hlc:w.cell? ⟨c,0,none⟩=some (.int .i64 l))
  (hx:w.cell? ⟨b,4+l*2,none⟩=some (.bool true))
  (hy:w.cell? ⟨b,4+l*2+1,none⟩=some (.int .i64 o)):
  Calls Tryz.prog 155 #[.pointer (some ⟨b,0,none⟩),.pointer (some ⟨c,0,none⟩),.pointer (some ⟨a,0,none⟩)] w
   fun e w'=>e= .returned (.bool false)/\Like w' w:=by
 have h3:(0:Int)<=(l:Int):=by omega
 have h4:(l:Int)<3:=by omega
 go_enter Tryz.func155,Tryz.ntmps155
 go_wp2
 go_region
 all_goals (go_wp2;go_ret;exact⟨rfl,rfl,rfl,rfl,rfl⟩)
theorem zJ(x y:Int)(w:World):Calls Tryz.prog 114 #[.int .i64 x,.int .i64 y] w fun e w'=>e= .returned (.int .i64 (wrap64 (x+y)))/\w'=w:=by
 go_enter Tryz.func114,Tryz.ntmps114
 go_wp2
 go_ret;exact⟨rfl,rfl⟩
theorem zI(t a c:Nat)(ht:t<4)(hr:a<4)(hv:c<4)(x y:Int)(b h i d f:Nat)(w:World)
  (hfc:w.cell? ⟨h,0,none⟩=some (.func (.func 114) #[] #[]))
  (htc:w.cell? ⟨i,0,none⟩=some (.int .i64 t)) (hac:w.cell? ⟨d,0,none⟩=some (.int .i64 a)) (hcc:w.cell? ⟨f,0,none⟩=some (.int .i64 c))
  (hx:w.cell? ⟨b,10+t*4+a,none⟩=some (.int .i64 x)) (hy:w.cell? ⟨b,10+t*4+c,none⟩=some (.int .i64 y)) (hf:w.frozen? ⟨b,10+t*4+a,none⟩=false):
  Calls Tryz.prog 151 #[.pointer (some ⟨b,0,none⟩),.pointer (some ⟨h,0,none⟩),.pointer (some ⟨i,0,none⟩),.pointer (some ⟨d,0,none⟩),.pointer (some ⟨f,0,none⟩)] w
   fun e w'=>e= .returned (.bool true)/\Like w' (w.setCell ⟨b,10+t*4+a,none⟩ (.int .i64 (wrap64 (x+y)))):=by
 have h1:(0:Int)<=(t:Int):=by omega
 have h2:(t:Int)<4:=by omega
 have h3:(0:Int)<=(a:Int):=by omega
 have h4:(a:Int)<4:=by omega
 have h5:(0:Int)<=(c:Int):=by omega
 have h6:(c:Int)<4:=by omega
 go_enter Tryz.func151,Tryz.ntmps151
 go_wp2
 refine wp_region_still_tail 25 (by kernel_rfl) (by kernel_rfl) ?_;simp only [List.take_succ_cons,List.take_zero,List.drop_succ_cons,List.drop_zero];iterate 20 still_step
 still_call (zJ _ _ _)
 iterate 4 still_step
 refine wpStill_nil ?_
 all_goals (go_wp2;go_ret;exact⟨rfl,rfl,rfl,rfl,rfl⟩)
theorem Bb(x y:Int)(w:World):Calls Tryz.prog 115 #[.int .i64 x,.int .i64 y] w fun e w'=>e= .returned (.int .i64 (wrap64 (x - y)))/\w'=w:=by
 go_enter Tryz.func115,Tryz.ntmps115
 go_wp2
 go_ret;exact⟨rfl,rfl⟩
theorem Ba(t a c:Nat)(ht:t<4)(hr:a<4)(hv:c<4)(x y:Int)(b h i d f:Nat)(w:World)
  (hfc:w.cell? ⟨h,0,none⟩=some (.func (.func 115) #[] #[]))
  (htc:w.cell? ⟨i,0,none⟩=some (.int .i64 t)) (hac:w.cell? ⟨d,0,none⟩=some (.int .i64 a)) (hcc:w.cell? ⟨f,0,none⟩=some (.int .i64 c))
  (hx:w.cell? ⟨b,10+t*4+a,none⟩=some (.int .i64 x)) (hy:w.cell? ⟨b,10+t*4+c,none⟩=some (.int .i64 y)) (hf:w.frozen? ⟨b,10+t*4+a,none⟩=false):
  Calls Tryz.prog 151 #[.pointer (some ⟨b,0,none⟩),.pointer (some ⟨h,0,none⟩),.pointer (some ⟨i,0,none⟩),.pointer (some ⟨d,0,none⟩),.pointer (some ⟨f,0,none⟩)] w
   fun e w'=>e= .returned (.bool true)/\Like w' (w.setCell ⟨b,10+t*4+a,none⟩ (.int .i64 (wrap64 (x - y)))):=by
 have h1:(0:Int)<=(t:Int):=by omega
 have h2:(t:Int)<4:=by omega
 have h3:(0:Int)<=(a:Int):=by omega
 have h4:(a:Int)<4:=by omega
 have h5:(0:Int)<=(c:Int):=by omega
 have h6:(c:Int)<4:=by omega
 go_enter Tryz.func151,Tryz.ntmps151
 go_wp2
 refine wp_region_still_tail 25 (by kernel_rfl) (by kernel_rfl) ?_;simp only [List.take_succ_cons,List.take_zero,List.drop_succ_cons,List.drop_zero];iterate 20 still_step
 still_call (Bb _ _ _)
 iterate 4 still_step
 refine wpStill_nil ?_
 all_goals (go_wp2;go_ret;exact⟨rfl,rfl,rfl,rfl,rfl⟩)
theorem AD(x y:Int)(w:World):Calls Tryz.prog 116 #[.int .i64 x,.int .i64 y] w fun e w'=>e= .returned (.int .i64 (wrap64 (x*y)))/\w'=w:=by
 go_enter Tryz.func116,Tryz.ntmps116
 go_wp2
 go_ret;exact⟨rfl,rfl⟩
theorem AC(t a c:Nat)(ht:t<4)(hr:a<4)(hv:c<4)(x y:Int)(b h i d f:Nat)(w:World)
  (hfc:w.cell? ⟨h,0,none⟩=some (.func (.func 116) #[] #[]))
  (htc:w.cell? ⟨i,0,none⟩=some (.int .i64 t)) (hac:w.cell? ⟨d,0,none⟩=some (.int .i64 a)) (hcc:w.cell? ⟨f,0,none⟩=some (.int .i64 c))
  (hx:w.cell? ⟨b,10+t*4+a,none⟩=some (.int .i64 x)) (hy:w.cell? ⟨b,10+t*4+c,none⟩=some (.int .i64 y)) (hf:w.frozen? ⟨b,10+t*4+a,none⟩=false):
  Calls Tryz.prog 151 #[.pointer (some ⟨b,0,none⟩),.pointer (some ⟨h,0,none⟩),.pointer (some ⟨i,0,none⟩),.pointer (some ⟨d,0,none⟩),.pointer (some ⟨f,0,none⟩)] w
   fun e w'=>e= .returned (.bool true)/\Like w' (w.setCell ⟨b,10+t*4+a,none⟩ (.int .i64 (wrap64 (x*y)))):=by
 have h1:(0:Int)<=(t:Int):=by omega
 have h2:(t:Int)<4:=by omega
 have h3:(0:Int)<=(a:Int):=by omega
 have h4:(a:Int)<4:=by omega
 have h5:(0:Int)<=(c:Int):=by omega
 have h6:(c:Int)<4:=by omega
 go_enter Tryz.func151,Tryz.ntmps151
 go_wp2
 refine wp_region_still_tail 25 (by kernel_rfl) (by kernel_rfl) ?_;simp only [List.take_succ_cons,List.take_zero,List.drop_succ_cons,List.drop_zero];iterate 20 still_step
 still_call (AD _ _ _)
 iterate 4 still_step
 refine wpStill_nil ?_
 all_goals (go_wp2;go_ret;exact⟨rfl,rfl,rfl,rfl,rfl⟩)
theorem tJ(t a c:Nat)(ht:t<4)(hr:a<4)(hv:c<4)(b h d f:Nat)(w:World)
  (htc:w.cell? ⟨h,0,none⟩=some (.int .i64 t)) (_hac:w.cell? ⟨d,0,none⟩=some (.int .i64 a)) (hcc:w.cell? ⟨f,0,none⟩=some (.int .i64 c))
  (hy:w.cell? ⟨b,10+t*4+c,none⟩=some (.int .i64 0)):
  Calls Tryz.prog 152 #[.pointer (some ⟨b,0,none⟩),.pointer (some ⟨h,0,none⟩),.pointer (some ⟨f,0,none⟩),.pointer (some ⟨d,0,none⟩)] w
   fun e w'=>e= .returned (.bool false)/\Like w' w:=by
 have h1:(0:Int)<=(t:Int):=by omega
 have h2:(t:Int)<4:=by omega
 have h3:(0:Int)<=(a:Int):=by omega
 have h4:(a:Int)<4:=by omega
 have h5:(0:Int)<=(c:Int):=by omega
 have h6:(c:Int)<4:=by omega
 go_enter Tryz.func152,Tryz.ntmps152
 go_wp2
 go_region
 all_goals (go_wp2;go_ret;exact⟨rfl,rfl,rfl,rfl,rfl⟩)
theorem se(t a c:Nat)(ht:t<4)(hr:a<4)(hv:c<4)(x y:Int)(i:(y==0)=false)(b h d f:Nat)(w:World)
  (htc:w.cell? ⟨h,0,none⟩=some (.int .i64 t)) (hac:w.cell? ⟨d,0,none⟩=some (.int .i64 a)) (hcc:w.cell? ⟨f,0,none⟩=some (.int .i64 c))
  (hx:w.cell? ⟨b,10+t*4+a,none⟩=some (.int .i64 x)) (hy:w.cell? ⟨b,10+t*4+c,none⟩=some (.int .i64 y)) (hf:w.frozen? ⟨b,10+t*4+a,none⟩=false):
  Calls Tryz.prog 152 #[.pointer (some ⟨b,0,none⟩),.pointer (some ⟨h,0,none⟩),.pointer (some ⟨f,0,none⟩),.pointer (some ⟨d,0,none⟩)] w
   fun e w'=>e= .returned (.bool true)/\Like w' (w.setCell ⟨b,10+t*4+a,none⟩ (.int .i64 (wrap64 (x.tdiv y)))):=by
 have h1:(0:Int)<=(t:Int):=by omega
 have h2:(t:Int)<4:=by omega
 have h3:(0:Int)<=(a:Int):=by omega
 have h4:(a:Int)<4:=by omega
 have h5:(0:Int)<=(c:Int):=by omega
 have h6:(c:Int)<4:=by omega
 have h7:¬y=0:=by simpa using i
 go_enter Tryz.func152,Tryz.ntmps152
 go_wp2
 go_region
 all_goals (go_wp2;go_region)
 all_goals (go_wp2;go_ret;exact⟨rfl,rfl,rfl,rfl,rfl⟩)
def St.cells(s:St):Array Value:= #[.int .i64 (s.vars 0),.int .i64 (s.vars 1),.int .i64 (s.vars 2),.int .i64 (s.vars 3),
 .bool (s.held 0),.int .i64 (s.own 0),.bool (s.held 1),.int .i64 (s.own 1),.bool (s.held 2),.int .i64 (s.own 2),
 .int .i64 (s.regs 0 0),.int .i64 (s.regs 0 1),.int .i64 (s.regs 0 2),.int .i64 (s.regs 0 3),.int .i64 (s.regs 1 0),.int .i64 (s.regs 1 1),.int .i64 (s.regs 1 2),.int .i64 (s.regs 1 3),
 .int .i64 (s.regs 2 0),.int .i64 (s.regs 2 1),.int .i64 (s.regs 2 2),.int .i64 (s.regs 2 3),.int .i64 (s.regs 3 0),.int .i64 (s.regs 3 1),.int .i64 (s.regs 3 2),.int .i64 (s.regs 3 3),
 .int .i64 (s.next 0),.int .i64 (s.next 1),.int .i64 (s.next 2),.int .i64 (s.next 3)]
def StAt(w:World)(b:Nat)(s:St):Prop:=w.heap[b]?=some (.cells s.cells 122 (0,0))
theorem lt4{t:Nat}(h:t<4):t=0\/t=1\/t=2\/t=3:=by omega
theorem lt3{t:Nat}(h:t<3):t=0\/t=1\/t=2:=by omega
theorem StAt.cell{w:World}{b:Nat}{s:St}(h:StAt w b s)(o:Nat):w.cell? ⟨b,o,none⟩=s.cells[o]?:=by
 unfold StAt at h;simp [World.cell?,h]
theorem StAt.frozen{w:World}{b:Nat}{s:St}(h:StAt w b s)(o:Nat):w.frozen? ⟨b,o,none⟩=false:=by
 unfold StAt at h;simp [World.frozen?,h]
theorem StAt.var{w:World}{b:Nat}{s:St}(h:StAt w b s){v:Nat}(a:v<4):w.cell? ⟨b,v,none⟩=some (.int .i64 (s.vars v)):=by
 rw [h.cell];rcases lt4 a with rfl | rfl | rfl | rfl<;>rfl
theorem StAt.held{w:World}{b:Nat}{s:St}(h:StAt w b s){l:Nat}(a:l<3):w.cell? ⟨b,4+l*2,none⟩=some (.bool (s.held l)):=by
 rw [h.cell];rcases lt3 a with rfl | rfl | rfl<;>rfl
theorem StAt.own{w:World}{b:Nat}{s:St}(h:StAt w b s){l:Nat}(a:l<3):w.cell? ⟨b,4+l*2+1,none⟩=some (.int .i64 (s.own l)):=by
 rw [h.cell];rcases lt3 a with rfl | rfl | rfl<;>rfl
theorem StAt.reg{w:World}{b:Nat}{s:St}(h:StAt w b s){t r:Nat}(c:t<4)(a:r<4):w.cell? ⟨b,10+t*4+r,none⟩=some (.int .i64 (s.regs t r)):=by
 rw [h.cell];rcases lt4 c with rfl | rfl | rfl | rfl<;>rcases lt4 a with rfl | rfl | rfl | rfl<;>rfl
theorem StAt.next{w:World}{b:Nat}{s:St}(h:StAt w b s){t:Nat}(a:t<4):w.cell? ⟨b,26+t,none⟩=some (.int .i64 (s.next t)):=by
 rw [h.cell];rcases lt4 a with rfl | rfl | rfl | rfl<;>rfl
theorem jD(s:St){t r:Nat}(b:t<4)(a:r<4)(v:Int):s.cells.setIfInBounds (10+t*4+r) (.int .i64 v)=(s.setReg t r v).cells:=by
 rcases lt4 b with rfl | rfl | rfl | rfl<;>rcases lt4 a with rfl | rfl | rfl | rfl<;>rfl
theorem qK(s:St){x:Nat}(a:x<4)(v:Int):s.cells.setIfInBounds x (.int .i64 v)=(s.setVar x v).cells:=by
 rcases lt4 a with rfl | rfl | rfl | rfl<;>rfl
theorem l8(s:St){x:Nat}(a:x<4)(v:Int):s.cells.setIfInBounds (26+x) (.int .i64 v)=(s.setNext x v).cells:=by
 rcases lt4 a with rfl | rfl | rfl | rfl<;>rfl
theorem lZ(s:St){l:Nat}(a:l<3)(h:Bool)(o:Int):(s.cells.setIfInBounds (4+l*2) (.bool h)).setIfInBounds (4+l*2+1) (.int .i64 o)=(s.setLock l h o).cells:=by
 rcases lt3 a with rfl | rfl | rfl<;>rfl
theorem StAt.setCell{w:World}{b:Nat}{s a:St}{o:Nat}{v:Value}(h:StAt w b s)(e:s.cells.setIfInBounds o v=a.cells):StAt (w.setCell ⟨b,o,none⟩ v) b a:=by
 unfold StAt at*;rw [heap_setCell_same w b o _ _ v h,e]
theorem StAt.setCell2{w:World}{b:Nat}{s d:St}{o a:Nat}{v c:Value}(h:StAt w b s)(e:(s.cells.setIfInBounds o v).setIfInBounds a c=d.cells):StAt ((w.setCell ⟨b,o,none⟩ v).setCell ⟨b,a,none⟩ c) b d:=by
 unfold StAt at*;rw [heap_setCell_same _ b a _ _ c (heap_setCell_same w b o _ _ v h),e]
theorem StAt.like{w w':World}{b:Nat}{s:St}(h:StAt w b s)(hl:Like w' w):StAt w' b s:=by unfold StAt at*;rw [hl.1];exact h
theorem ir(w:World)(r:Option Nat):w.grownBy w r:=⟨rfl,rfl,rfl,Nat.le_refl _,fun _ _ _=>rfl⟩
theorem iR{w w' w'':World}{r:Option Nat}(h:w.grownBy w' r)(hl:Like w'' w'):w.grownBy w'' r:=
 ⟨hl.2.1.trans h.os,hl.2.2.2.trans h.tape,hl.2.2.1.trans h.output,by rw [hl.1];exact h.size,fun k hk hr=>by rw [hl.1];exact h.block k hk hr⟩
theorem il{w w' w'':World}{r:Option Nat}(h:w.grownBy w' r)(h':w'.grownBy w'' r):w.grownBy w'' r:=
 ⟨h'.os.trans h.os,h'.tape.trans h.tape,h'.output.trans h.output,Nat.le_trans h.size h'.size,fun k hk hr=>(h'.block k (Nat.lt_of_lt_of_le hk h.size) hr).trans (h.block k hk hr)⟩
theorem iM{w:World}{b o:Nat}{v:Value}:w.grownBy (w.setCell ⟨b,o,none⟩ v) (some b):=
 ⟨rfl,rfl,rfl,by simp,fun k _ hr=>Below.heap_setCell w _ v k (by simpa using hr)⟩
theorem oJ{w:World}{b o o':Nat}{v v':Value}:w.grownBy ((w.setCell ⟨b,o,none⟩ v).setCell ⟨b,o',none⟩ v') (some b):=il iM iM
def Does(w:World)(v:Value)(b:Nat)(R:Bool->World->Prop):Prop:=
 ∃ k caps,v= .func (.func k) #[] caps/\(∀ args w,(callFunc k args).run Tryz.prog w= .ok (.enter k args) w)/\
  Calls Tryz.prog k (#[.pointer (some ⟨b,0,none⟩)]++caps) w fun e w'=>∃ r,e= .returned (.bool r)/\R r w'
def pt(b:Nat):Value:= .pointer (some ⟨b,0,none⟩)
def ActIs(B:Nat)(w:World)(v:Value)(t:Nat)(i:Ins):Prop:=
 ∃ x y z u:Nat,x<B/\y<B/\z<B/\u<B/\
 ((i.op=1/\v= .func (.func 148) #[] #[pt x,pt y,pt z]/\w.cell? ⟨x,0,none⟩=some (.int .i64 i.n)/\w.cell? ⟨y,0,none⟩=some (.int .i64 t)/\w.cell? ⟨z,0,none⟩=some (.int .i64 i.a))\/
  (i.op=2/\v= .func (.func 149) #[] #[pt x,pt y,pt z]/\w.cell? ⟨x,0,none⟩=some (.int .i64 i.b)/\w.cell? ⟨y,0,none⟩=some (.int .i64 t)/\w.cell? ⟨z,0,none⟩=some (.int .i64 i.a))\/
  (i.op=3/\v= .func (.func 150) #[] #[pt x,pt y,pt z]/\w.cell? ⟨x,0,none⟩=some (.int .i64 t)/\w.cell? ⟨y,0,none⟩=some (.int .i64 i.b)/\w.cell? ⟨z,0,none⟩=some (.int .i64 i.a))\/
  (∃ f,(i.op=4/\f=114\/i.op=5/\f=115\/i.op=6/\f=116)/\v= .func (.func 151) #[] #[pt x,pt y,pt z,pt u]/\w.cell? ⟨x,0,none⟩=some (.func (.func f) #[] #[])/\w.cell? ⟨y,0,none⟩=some (.int .i64 t)/\w.cell? ⟨z,0,none⟩=some (.int .i64 i.a)/\w.cell? ⟨u,0,none⟩=some (.int .i64 i.b))\/
  (i.op=7/\v= .func (.func 152) #[] #[pt x,pt y,pt z]/\w.cell? ⟨x,0,none⟩=some (.int .i64 t)/\w.cell? ⟨y,0,none⟩=some (.int .i64 i.b)/\w.cell? ⟨z,0,none⟩=some (.int .i64 i.a))\/
  (i.op=8/\v= .func (.func 153) #[] #[pt x,pt y,pt z]/\w.cell? ⟨x,0,none⟩=some (.int .i64 t)/\w.cell? ⟨y,0,none⟩=some (.int .i64 i.a)/\w.cell? ⟨z,0,none⟩=some (.int .i64 i.n))\/
  (i.op=9/\v= .func (.func 154) #[] #[pt x,pt y]/\w.cell? ⟨x,0,none⟩=some (.int .i64 t)/\w.cell? ⟨y,0,none⟩=some (.int .i64 i.a))\/
  (i.op=10/\v= .func (.func 155) #[] #[pt x,pt y]/\w.cell? ⟨x,0,none⟩=some (.int .i64 i.a)/\w.cell? ⟨y,0,none⟩=some (.bool true)/\w.cell? ⟨y,1,none⟩=some (.int .i64 t))\/
  (i.op=11/\v= .func (.func 156) #[] #[pt x,pt y]/\w.cell? ⟨x,0,none⟩=some (.int .i64 t)/\w.cell? ⟨y,0,none⟩=some (.int .i64 i.a)))
theorem ActIs.of_block{B:Nat}{w w':World}{v:Value}{t:Nat}{i:Ins}(h:ActIs B w v t i)(a:∀ k,k<B->w'.heap[k]?=w.heap[k]?):ActIs B w' v t i:=by
 obtain⟨x,y,z,u,c,d,e,b,h⟩:=h;have j:∀ o,w'.cell? ⟨x,o,none⟩=w.cell? ⟨x,o,none⟩:=fun o=>World.cell?_of_block (a x c)
 have l:∀ o,w'.cell? ⟨y,o,none⟩=w.cell? ⟨y,o,none⟩:=fun o=>World.cell?_of_block (a y d)
 have m:∀ o,w'.cell? ⟨z,o,none⟩=w.cell? ⟨z,o,none⟩:=fun o=>World.cell?_of_block (a z e)
 have f:∀ o,w'.cell? ⟨u,o,none⟩=w.cell? ⟨u,o,none⟩:=fun o=>World.cell?_of_block (a u b)
 exact⟨x,y,z,u,c,d,e,b,by simpa only [j,l,m,f]using h⟩
theorem ActIs.mono{B a:Nat}{w:World}{v:Value}{t:Nat}{i:Ins}(h:ActIs B w v t i)(hb:B<=a):ActIs a w v t i:=by
 obtain⟨x,y,z,u,hx,hy,hz,hu,h⟩:=h;exact⟨x,y,z,u,by omega,by omega,by omega,by omega,h⟩
def Acted(b:Nat)(w:World)(t:Nat)(i:Ins)(s:St)(r:Bool)(w':World):Prop:=r=(act t i s).1/\StAt w' b (act t i s).2/\w.grownBy w' (some b)
theorem jy{w:World}{b k:Nat}{caps:Array Value}{R:Bool->World->Prop}{r:Bool}{w0:World}(hk:∀ args w,(callFunc k args).run Tryz.prog w= .ok (.enter k args) w)
  (hc:Calls Tryz.prog k (#[.pointer (some ⟨b,0,none⟩)]++caps) w fun e w'=>e= .returned (.bool r)/\Like w' w0) (hR:∀ w',Like w' w0->R r w'):Does w (.func (.func k) #[] caps) b R:=
 ⟨k,caps,rfl,hk,hc.mono fun _e w' ⟨he,hl⟩=>⟨r,he,hR w' hl⟩⟩
theorem Acted.mk{b t:Nat}{w w0 w':World}{i:Ins}{s s':St}{r:Bool}(ha:act t i s=(r,s'))(hs:StAt w0 b s')(hg:w.grownBy w0 (some b))(hl:Like w' w0):Acted b w t i s r w':=
 ⟨by rw [ha],by rw [ha];exact hs.like hl,iR hg hl⟩
theorem xq{B:Nat}{w:World}{v:Value}{t:Nat}{i:Ins}{len:Int}{b:Nat}{s:St}(j:t<4)(F:vIns i len=true)(h:ActIs B w v t i)(c:StAt w b s):
  Does w v b (Acted b w t i s):=by
 obtain⟨x,y,z,u,_,_,_,_,h⟩:=h;have hsay:=lJ F;rcases h with ⟨e,rfl,h1,h2,h3⟩ | ⟨e,rfl,h1,h2,h3⟩ | ⟨e,rfl,h1,h2,h3⟩ | ⟨f,p,rfl,h1,h2,h3,h4⟩ | ⟨e,rfl,h1,h2,h3⟩ | ⟨e,rfl,h1,h2,h3⟩ | ⟨e,rfl,h1,h2⟩ | ⟨e,rfl,h1,h2,h3⟩ | ⟨e,rfl,h1,h2⟩
 ·have q:0<=i.a/\i.a<4:=by omega
  have k:((i.a.toNat:Nat):Int)=i.a:=by omega
  rw [<-k]at h3;have d:i.a.toNat<4:=by omega
  exact jy Tryz.call148 (AZ t i.a.toNat j d i.n b x y z w _ h1 h2 h3 (c.reg j d) (c.frozen _))
   fun w' hl=>Acted.mk (by simp [act,e]) (c.setCell (jD s j d _)) iM hl
 ·have q:0<=i.a/\i.a<4/\0<=i.b/\i.b<4:=by omega
  have k:((i.a.toNat:Nat):Int)=i.a:=by omega
  have r:((i.b.toNat:Nat):Int)=i.b:=by omega
  rw [<-k]at h3;rw [<-r]at h1
  have d:i.a.toNat<4:=by omega
  have l:i.b.toNat<4:=by omega
  exact jy Tryz.call149 (yB t i.a.toNat i.b.toNat j d l _ b x y z w _ h1 h2 h3 (c.var l) (c.reg j d) (c.frozen _))
   fun w' hl=>Acted.mk (by simp [act,e]) (c.setCell (jD s j d _)) iM hl
 ·have q:0<=i.a/\i.a<4/\0<=i.b/\i.b<4:=by omega
  have k:((i.a.toNat:Nat):Int)=i.a:=by omega
  have r:((i.b.toNat:Nat):Int)=i.b:=by omega
  rw [<-k]at h3;rw [<-r]at h2
  have d:i.a.toNat<4:=by omega
  have l:i.b.toNat<4:=by omega
  exact jy Tryz.call150 (wZ t i.b.toNat i.a.toNat j l d _ b z x y w _ h3 h1 h2 (c.reg j l) (c.var d) (c.frozen _))
   fun w' hl=>Acted.mk (by simp [act,e]) (c.setCell (qK s d _)) iM hl
 ·have hop:i.op=4\/i.op=5\/i.op=6:=by rcases p with p | p | p<;>simp [p.1]
  have q:0<=i.a/\i.a<4/\0<=i.b/\i.b<4:=by omega
  have k:((i.a.toNat:Nat):Int)=i.a:=by omega
  have r:((i.b.toNat:Nat):Int)=i.b:=by omega
  rw [<-k]at h3;rw [<-r]at h4
  have d:i.a.toNat<4:=by omega
  have l:i.b.toNat<4:=by omega
  rcases p with ⟨e,rfl⟩ | ⟨e,rfl⟩ | ⟨e,rfl⟩
  ·exact jy Tryz.call151 (zI t i.a.toNat i.b.toNat j d l _ _ b x y z u w h1 h2 h3 h4 (c.reg j d) (c.reg j l) (c.frozen _))
    fun w' hl=>Acted.mk (by simp [act,e]) (c.setCell (jD s j d _)) iM hl
  ·exact jy Tryz.call151 (Ba t i.a.toNat i.b.toNat j d l _ _ b x y z u w h1 h2 h3 h4 (c.reg j d) (c.reg j l) (c.frozen _))
    fun w' hl=>Acted.mk (by simp [act,e]) (c.setCell (jD s j d _)) iM hl
  ·exact jy Tryz.call151 (AC t i.a.toNat i.b.toNat j d l _ _ b x y z u w h1 h2 h3 h4 (c.reg j d) (c.reg j l) (c.frozen _))
    fun w' hl=>Acted.mk (by simp [act,e]) (c.setCell (jD s j d _)) iM hl
 ·have q:0<=i.a/\i.a<4/\0<=i.b/\i.b<4:=by omega
  have k:((i.a.toNat:Nat):Int)=i.a:=by omega
  have r:((i.b.toNat:Nat):Int)=i.b:=by omega
  rw [<-k]at h3;rw [<-r]at h2
  have d:i.a.toNat<4:=by omega
  have l:i.b.toNat<4:=by omega
  by_cases o:s.regs t i.b.toNat=0
  ·have E:=c.reg j l;rw [o]at E;exact jy Tryz.call152 (tJ t i.a.toNat i.b.toNat j d l b x z y w h1 h3 h2 E)
    fun w' hl=>Acted.mk (by simp [act,e,o]) c (ir _ _) hl
  ·exact jy Tryz.call152 (se t i.a.toNat i.b.toNat j d l _ _ (by simpa using o) b x z y w h1 h3 h2 (c.reg j d) (c.reg j l) (c.frozen _))
    fun w' hl=>Acted.mk (by simp [act,e,o]) (c.setCell (jD s j d _)) iM hl
 ·have q:0<=i.a/\i.a<4:=by omega
  have k:((i.a.toNat:Nat):Int)=i.a:=by omega
  rw [<-k]at h2;have d:i.a.toNat<4:=by omega
  refine jy Tryz.call153 (yy t i.a.toNat j d i.n _ b z x y w _ h3 h1 h2 (c.reg j d) (c.next j) (c.frozen _)) fun w' hl=>?_
  by_cases o:s.regs t i.a.toNat=0
  ·rw [if_pos o]at hl;exact Acted.mk (by simp [act,e,o]) (c.setCell (l8 s j _)) iM hl
  ·rw [if_neg o]at hl;exact Acted.mk (by simp [act,e,o]) c (ir _ _) hl
 ·have q:0<=i.a/\i.a<3:=by omega
  have k:((i.a.toNat:Nat):Int)=i.a:=by omega
  rw [<-k]at h2;have m:i.a.toNat<3:=by omega
  exact jy Tryz.call154 (zp t i.a.toNat m b x y w _ _ h1 h2 (c.held m) (c.frozen _) (c.own m) (c.frozen _))
   fun w' hl=>Acted.mk (by simp [act,e]) (c.setCell2 (lZ s m _ _)) oJ hl
 ·have q:0<=i.a/\i.a<3:=by omega
  have k:((i.a.toNat:Nat):Int)=i.a:=by omega
  rw [<-k]at h1;have m:i.a.toNat<3:=by omega
  by_cases A:s.held i.a.toNat=true
  ·have c1:=c.held m;rw [A]at c1;by_cases C:s.own i.a.toNat=t
   ·have D:=c.own m;rw [C]at D;exact jy Tryz.call155 (nU t i.a.toNat m b y x w h2 h3 h1 c1 (c.frozen _) D (c.frozen _))
     fun w' hl=>Acted.mk (by simp [act,e,A,C]) (c.setCell2 (lZ s m _ _)) oJ hl
   ·exact jy Tryz.call155 (o9 t i.a.toNat m b y x w _ C h2 h3 h1 c1 (c.own m))
     fun w' hl=>Acted.mk (by simp [act,e,A,C]) c (ir _ _) hl
  ·have p:s.held i.a.toNat=false:=by simpa using A
   have c1:=c.held m;rw [p]at c1;exact jy Tryz.call155 (nz t i.a.toNat m b y x w _ h2 h3 h1 c1 (c.own m))
    fun w' hl=>Acted.mk (by simp [act,e,p]) c (ir _ _) hl
 ·have q:0<=i.a/\i.a<4:=by omega
  have k:((i.a.toNat:Nat):Int)=i.a:=by omega
  rw [<-k]at h2;have d:i.a.toNat<4:=by omega
  exact jy Tryz.call156 (tx t i.a.toNat j d _ b x y w h1 h2 (c.reg j d))
   fun w' hl=>Acted.mk (by simp [act,e]) c (ir _ _) hl
end
section
open Go.RowKit
attribute [local go_sem] Go.World.cell?_alloc_some
theorem iH{w w':World}{r:Option Nat}(h:w'.heap=w.heap/\w'.os=w.os/\w'.output=w.output/\w'.tape=w.tape):w.grownBy w' r:=iR (ir w r) h
theorem iq{w w':World}{r:Option Nat}{o:Obj}(h:w.grownBy w' r):w.grownBy (w'.alloc o) r:=
 il h ⟨rfl,rfl,rfl,by simp,fun k hk _=>Below.heap_alloc _ _ _ hk⟩
theorem iy{w w':World}{r:Option Nat}(h:w.grownBy w' r):w.grownBy w'.drew r:=iR h ⟨rfl,rfl,rfl,rfl⟩
theorem jB(w:World):∀ n,Like (w.drewN n) w
 | 0=>⟨rfl,rfl,rfl,rfl⟩
 | n+1=>jB w n
theorem iO{w w':World}{r:Option Nat}(n:Nat)(h:w.grownBy w' r):w.grownBy (w'.drewN n) r:=iR h (jB w' n)
theorem mF(m g d b t n:Nat)(a:Option Addr)(len c:Nat)(x:Int)(w:World)(ht:t<n)(ht4:t<4)
  (hm:w.cell? ⟨m,0,none⟩=some (.slice (some ⟨g,0,none⟩) n d)) (hr:w.cell? ⟨g,t,none⟩=some (.slice a len c)) (hx:w.cell? ⟨b,26+t,none⟩=some (.int .i64 x)):
  Calls Tryz.prog 122 #[.pointer (some ⟨m,0,none⟩),.pointer (some ⟨b,0,none⟩),.int .i64 t] w
   fun e w'=>e= .returned (.bool (x==(len:Int)))/\Like w' w:=by
 have h1:(0:Int)<=(t:Int):=by omega
 have h2:(t:Int)<4:=by omega
 have h3:(t:Int)<n:=by omega
 go_enter Tryz.func122,Tryz.ntmps122
 go_wp2
 go_region
 all_goals (go_wp2;go_ret;exact⟨rfl,rfl,rfl,rfl,rfl⟩)
theorem oZ(m g d b t n:Nat)(a:Option Addr)(len c:Nat)(w:World)(j:t<n)(k:t<4)
  (h:w.cell? ⟨m,0,none⟩=some (.slice (some ⟨g,0,none⟩) n d)) (i:w.cell? ⟨g,t,none⟩=some (.slice a len c)) (l:w.cell? ⟨b,26+t,none⟩=some (.int .i64 len)):
  Calls Tryz.prog 81 #[.pointer (some ⟨m,0,none⟩),.pointer (some ⟨b,0,none⟩),.int .i64 t] w
   fun e w'=>e= .returned (.bool false)/\Like w' w:=by
 go_enter Tryz.func81,Tryz.ntmps81
 go_wp2_with fail
 refine(mF m g d b t n a len c len w j k h i l).mono ?_;rintro e w' ⟨rfl,f⟩;simp only [beq_self_eq_true];go_wp2
 go_ret;exact⟨rfl,f⟩
theorem o0(m g d b t n h k:Nat)(len c:Nat)(u:Nat)(p:Array Value)(l:Int)(w:World)(J:t<n)(K:t<4)(hk:k<len)
  (f:w.cell? ⟨m,0,none⟩=some (.slice (some ⟨g,0,none⟩) n d)) (i:w.cell? ⟨g,t,none⟩=some (.slice (some ⟨h,0,none⟩) len c)) (j:w.cell? ⟨b,26+t,none⟩=some (.int .i64 k))
  (q:w.cell? ⟨h,k*3,none⟩=some (.func (.func u) #[] p)) (r:w.cell? ⟨h,k*3+1,none⟩=some (.bool false)) (s:w.cell? ⟨h,k*3+2,none⟩=some (.int .i64 l)):
  Calls Tryz.prog 81 #[.pointer (some ⟨m,0,none⟩),.pointer (some ⟨b,0,none⟩),.int .i64 t] w
   fun e w'=>e= .returned (.bool true)/\w.grownBy w' none:=by
 have h1:(0:Int)<=(t:Int):=by omega
 have h2:(t:Int)<4:=by omega
 have h3:(t:Int)<n:=by omega
 have h4:(0:Int)<=(k:Int):=by omega
 have h5:(k:Int)<len:=by omega
 have H:((k:Int)==(len:Int))=false:=by simp;omega
 go_enter Tryz.func81,Tryz.ntmps81
 go_wp2_with fail
 refine(mF m g d b t n _ len c k w J K f i j).mono ?_;rintro e w' ⟨rfl,F⟩;rw [H];obtain⟨o,A,B,C⟩:=F;have c1:∀ a,w'.cell? a=w.cell? a:=fun a=>by simp [World.cell?,o]
 have D:Hid (w'.heap=w.heap/\w'.os=w.os/\w'.output=w.output/\w'.tape=w.tape):=⟨o,A,B,C⟩;have G:w'.cell? ⟨m,0,none⟩=some (.slice (some ⟨g,0,none⟩) n d):=by rw [c1];exact f
 have I:w'.cell? ⟨g,t,none⟩=some (.slice (some ⟨h,0,none⟩) len c):=by rw [c1];exact i
 have L:w'.cell? ⟨b,26+t,none⟩=some (.int .i64 k):=by rw [c1];exact j
 have E:w'.cell? ⟨h,k*3,none⟩=some (.func (.func u) #[] p):=by rw [c1];exact q
 have d1:w'.cell? ⟨h,k*3+1,none⟩=some (.bool false):=by rw [c1];exact r
 have d2:w'.cell? ⟨h,k*3+2,none⟩=some (.int .i64 l):=by rw [c1];exact s
 clear o A B C c1 f i j q r s;have v:=World.new_ne w' _ G;have x:=World.new_ne w' _ I;have y:=World.new_ne w' _ L;have z:=World.new_ne w' _ E;simp only at v x y z;have m1:=Ne.symm v;have m2:=Ne.symm x;have m3:=Ne.symm y;have m4:=Ne.symm z;go_wp2
 go_region
 go_wp2
 go_quiet (fail)
 go_wp2
 go_ret;exact⟨rfl,iO _ (iy (iq (iH D.out)))⟩
theorem o7(m g d b t n h k:Nat)(len c:Nat)(x:Nat)(q:Array Value)(l:Nat)(f:Bool)(hl3:l<3)(w:World)(L:t<n)(M:t<4)(hk:k<len)
  (i:w.cell? ⟨m,0,none⟩=some (.slice (some ⟨g,0,none⟩) n d)) (j:w.cell? ⟨g,t,none⟩=some (.slice (some ⟨h,0,none⟩) len c)) (o:w.cell? ⟨b,26+t,none⟩=some (.int .i64 k))
  (r:w.cell? ⟨h,k*3,none⟩=some (.func (.func x) #[] q)) (s:w.cell? ⟨h,k*3+1,none⟩=some (.bool true)) (u:w.cell? ⟨h,k*3+2,none⟩=some (.int .i64 l)) (v:w.cell? ⟨b,4+l*2,none⟩=some (.bool f)):
  Calls Tryz.prog 81 #[.pointer (some ⟨m,0,none⟩),.pointer (some ⟨b,0,none⟩),.int .i64 t] w
   fun e w'=>e= .returned (.bool (!f))/\w.grownBy w' none:=by
 have h1:(0:Int)<=(t:Int):=by omega
 have h2:(t:Int)<4:=by omega
 have h3:(t:Int)<n:=by omega
 have h4:(0:Int)<=(k:Int):=by omega
 have h5:(k:Int)<len:=by omega
 have J:((k:Int)==(len:Int))=false:=by simp;omega
 go_enter Tryz.func81,Tryz.ntmps81
 go_wp2_with fail
 refine(mF m g d b t n _ len c k w L M i j o).mono ?_;rintro e w' ⟨rfl,H⟩;rw [J];obtain⟨p,C,D,E⟩:=H;have c1:∀ a,w'.cell? a=w.cell? a:=fun a=>by simp [World.cell?,p]
 have F:Hid (w'.heap=w.heap/\w'.os=w.os/\w'.output=w.output/\w'.tape=w.tape):=⟨p,C,D,E⟩;have I:w'.cell? ⟨m,0,none⟩=some (.slice (some ⟨g,0,none⟩) n d):=by rw [c1];exact i
 have K:w'.cell? ⟨g,t,none⟩=some (.slice (some ⟨h,0,none⟩) len c):=by rw [c1];exact j
 have N:w'.cell? ⟨b,26+t,none⟩=some (.int .i64 k):=by rw [c1];exact o
 have G:w'.cell? ⟨h,k*3,none⟩=some (.func (.func x) #[] q):=by rw [c1];exact r
 have d1:w'.cell? ⟨h,k*3+1,none⟩=some (.bool true):=by rw [c1];exact s
 have d2:w'.cell? ⟨h,k*3+2,none⟩=some (.int .i64 l):=by rw [c1];exact u
 have d3:w'.cell? ⟨b,4+l*2,none⟩=some (.bool f):=by rw [c1];exact v
 have h6:(0:Int)<=(l:Int):=by omega
 have h7:(l:Int)<3:=by omega
 clear p C D E c1 i j o r s u v;have y:=World.new_ne w' _ I;have z:=World.new_ne w' _ K;have A:=World.new_ne w' _ N;have B:=World.new_ne w' _ G;simp only at y z A B;have m1:=Ne.symm y;have m2:=Ne.symm z;have m3:=Ne.symm A;have m4:=Ne.symm B;go_wp2
 go_region
 go_wp2
 go_quiet (fail)
 go_wp2
 go_ret;exact⟨rfl,iO _ (iy (iq (iH F.out)))⟩
theorem zm(m g f b t n h k:Nat)(len c:Nat)(a:Nat)(d:Array Value)(w:World)(R:Bool->World->Prop)(ht:t<n)(ht4:t<4)(hk:k<len)(hk16:k<16)
  (u:m≠b) (p:g≠b) (q:h≠b)
  (s:w.cell? ⟨m,0,none⟩=some (.slice (some ⟨g,0,none⟩) n f)) (v:w.cell? ⟨g,t,none⟩=some (.slice (some ⟨h,0,none⟩) len c)) (hx:w.cell? ⟨b,26+t,none⟩=some (.int .i64 k)) (hxf:w.frozen? ⟨b,26+t,none⟩=false)
  (o:w.cell? ⟨h,k*3,none⟩=some (.func (.func a) #[] d))
  (hent:∀ args w,(callFunc a args).run Tryz.prog w= .ok (.enter a args) w)
  (i:Calls Tryz.prog a (#[.pointer (some ⟨b,0,none⟩)]++d) (w.setCell ⟨b,26+t,none⟩ (.int .i64 ((k:Int)+1))) fun e w'=>∃ r,e= .returned (.bool r)/\R r w'):
  Calls Tryz.prog 82 #[.pointer (some ⟨m,0,none⟩),.pointer (some ⟨b,0,none⟩),.int .i64 t] w
   fun e w'=>∃ r,e= .returned (.bool r)/\R r w':=by
 have h1:(0:Int)<=(t:Int):=by omega
 have h2:(t:Int)<4:=by omega
 have h3:(t:Int)<n:=by omega
 have h4:(0:Int)<=(k:Int):=by omega
 have h5:(k:Int)<len:=by omega
 have h6:(k:Int)<16:=by omega
 have j:Hid (Calls Tryz.prog a (#[.pointer (some ⟨b,0,none⟩)]++d) (w.setCell ⟨b,26+t,none⟩ (.int .i64 ((k:Int)+1))) fun e w'=>∃ r,e= .returned (.bool r)/\R r w'):=i;clear i;have s1:(w.setCell ⟨b,26+t,none⟩ (.int .i64 ((k:Int)+1))).cell? ⟨m,0,none⟩=some (.slice (some ⟨g,0,none⟩) n f):=by rw [World.cell?_setCell_far _ _ _ _ (by simpa using Ne.symm u)];exact s
 have s2:(w.setCell ⟨b,26+t,none⟩ (.int .i64 ((k:Int)+1))).cell? ⟨g,t,none⟩=some (.slice (some ⟨h,0,none⟩) len c):=by rw [World.cell?_setCell_far _ _ _ _ (by simpa using Ne.symm p)];exact v
 have s3:(w.setCell ⟨b,26+t,none⟩ (.int .i64 ((k:Int)+1))).cell? ⟨h,k*3,none⟩=some (.func (.func a) #[] d):=by rw [World.cell?_setCell_far _ _ _ _ (by simpa using Ne.symm q)];exact o
 go_enter Tryz.func82,Tryz.ntmps82
 go_wp2_with fail
 go_show
 refine j.out.mono ?_;rintro e w' ⟨r,rfl,l⟩;go_wp2
 go_ret;exact⟨r,rfl,l⟩
end
section
open Go.RowKit
def MoveAt(B:Nat)(w:World)(h k t:Nat)(i:Ins):Prop:=
 ∃ kf caps,w.cell? ⟨h,k*3,none⟩=some (.func (.func kf) #[] caps)/\ActIs B w (.func (.func kf) #[] caps) t i/\
  w.cell? ⟨h,k*3+1,none⟩=some (.bool (i.op==9))/\w.cell? ⟨h,k*3+2,none⟩=some (.int .i64 (if i.op=9 then i.a else 0))
def RowIs(B:Nat)(w:World)(v:Value)(t:Nat)(c:List Ins):Prop:=
 (c=[]/\v= .slice none 0 0)\/∃ h cap,v= .slice (some ⟨h,0,none⟩) c.length cap/\h<B/\∀ k (hk:k<c.length),MoveAt B w h k t c[k]
def MachAt(B:Nat)(w:World)(m:Nat)(p:List (List Ins)):Prop:=
 ∃ g cap,m<B/\g<B/\w.cell? ⟨m,0,none⟩=some (.slice (some ⟨g,0,none⟩) p.length cap)/\
  ∀ t,t<p.length->∃ v,w.cell? ⟨g,t,none⟩=some v/\RowIs B w v t (codeOf p t)
theorem MoveAt.of_block{B:Nat}{w w':World}{h k t:Nat}{i:Ins}(l:h<B)(H:MoveAt B w h k t i)(a:∀ k,k<B->w'.heap[k]?=w.heap[k]?):MoveAt B w' h k t i:=by
 obtain⟨m,b,d,e,f,j⟩:=H;have c:∀ o,w'.cell? ⟨h,o,none⟩=w.cell? ⟨h,o,none⟩:=fun o=>World.cell?_of_block (a h l)
 exact⟨m,b,by rw [c];exact d,e.of_block a,by rw [c];exact f,by rw [c];exact j⟩
theorem MoveAt.mono{B a:Nat}{w:World}{h k t:Nat}{i:Ins}(H:MoveAt B w h k t i)(j:B<=a):MoveAt a w h k t i:=by
 obtain⟨l,b,c,d,e,f⟩:=H;exact⟨l,b,c,d.mono j,e,f⟩
theorem RowIs.of_block{B:Nat}{w w':World}{v:Value}{t:Nat}{c:List Ins}(H:RowIs B w v t c)(a:∀ k,k<B->w'.heap[k]?=w.heap[k]?):RowIs B w' v t c:=by
 rcases H with H | ⟨h,cap,h1,h2,h3⟩
 ·exact Or.inl H
 ·exact Or.inr ⟨h,cap,h1,h2,fun k hk=>(h3 k hk).of_block h2 a⟩
theorem RowIs.mono{B a:Nat}{w:World}{v:Value}{t:Nat}{c:List Ins}(H:RowIs B w v t c)(b:B<=a):RowIs a w v t c:=by
 rcases H with H | ⟨h,cap,h1,h2,h3⟩
 ·exact Or.inl H
 ·exact Or.inr ⟨h,cap,h1,by omega,fun k hk=>(h3 k hk).mono b⟩
theorem MachAt.of_block{B:Nat}{w w':World}{m:Nat}{p:List (List Ins)}(H:MachAt B w m p)(a:∀ k,k<B->w'.heap[k]?=w.heap[k]?):MachAt B w' m p:=by
 obtain⟨g,d,c,b,e,f⟩:=H;refine⟨g,d,c,b,by rw [World.cell?_of_block (a m c)];exact e,fun t ht=>?_⟩;obtain⟨v,h,i⟩:=f t ht;exact⟨v,by rw [World.cell?_of_block (a g b)];exact h,i.of_block a⟩
theorem StAt.lt{w:World}{b:Nat}{s:St}(h:StAt w b s):b<w.heap.size:=by
 unfold StAt at h;exact(Array.getElem?_eq_some_iff.1 h).1
theorem StAt.grown{w w':World}{b:Nat}{s:St}(h:StAt w b s)(a:w.grownBy w' none):StAt w' b s:=by
 have c:=h.lt;unfold StAt at*;rw [a.block b c (by simp)];exact h
theorem MachAt.grown{B b:Nat}{w w':World}{m:Nat}{p:List (List Ins)}(H:MachAt B w m p)(hB:B<=b)(hb:b<w.heap.size)(hg:w.grownBy w' (some b)):MachAt B w' m p:=
 H.of_block fun k hk=>hg.block k (by omega) (by simp;omega)
theorem MachAt.grown'{B:Nat}{w w':World}{m:Nat}{p:List (List Ins)}(H:MachAt B w m p)(hB:B<=w.heap.size)(hg:w.grownBy w' none):MachAt B w' m p:=
 H.of_block fun k hk=>hg.block k (by omega) (by simp)
theorem Bz{B m b t:Nat}{w:World}{p:List (List Ins)}{s:St}(q:vProg p=true)(o:MachAt B w m p)(r:StAt w b s)(d:t<p.length):
  Calls Tryz.prog 122 #[.pointer (some ⟨m,0,none⟩),.pointer (some ⟨b,0,none⟩),.int .i64 t] w
   fun e w'=>e= .returned (.bool (doneB p s t))/\w.grownBy w' none:=by
 obtain⟨g,i,hm,hg,j,k⟩:=o;obtain⟨v,l,n⟩:=k t d;have f:t<4:=by have:=(iW q).2;omega
 have u:∃ a c,v= .slice a (codeOf p t).length c:=by
  rcases n with ⟨e,rfl⟩ | ⟨h,c,rfl,_⟩
  ·exact⟨none,0,by rw [e];rfl⟩
  ·exact⟨_,_,rfl⟩
 obtain⟨a,c,rfl⟩:=u;exact(mF m g i b t _ a _ c _ w d f j l (r.next f)).mono fun e w' ⟨he,hl⟩=>⟨he,iR (ir _ _) hl⟩
theorem sX{B:Nat}{w:World}{v:Value}{t:Nat}{c:List Ins}(H:RowIs B w v t c){k:Nat}(a:k<c.length):
  ∃ h cap,v= .slice (some ⟨h,0,none⟩) c.length cap/\h<B/\MoveAt B w h k t c[k]:=by
 rcases H with ⟨e,_⟩ | ⟨h,cap,e,hh,hm⟩
 ·subst e;simp at a
 ·exact⟨h,cap,e,hh,hm k a⟩
theorem uY{B m b t:Nat}{w:World}{p:List (List Ins)}{s:St}(F:vProg p=true)(N:MachAt B w m p)(z:StAt w b s)(M:Inv p s)(d:t<p.length):
  Calls Tryz.prog 81 #[.pointer (some ⟨m,0,none⟩),.pointer (some ⟨b,0,none⟩),.int .i64 t] w
   fun e w'=>e= .returned (.bool (readyB p s t))/\w.grownBy w' none:=by
 obtain⟨g,q,hm,hg,r,L⟩:=N;obtain⟨v,u,D⟩:=L t d;have k:t<4:=by have:=(iW F).2;omega
 have hn:=M t d;by_cases x:doneB p s t=true
 ·have A:∃ o c,v= .slice o (codeOf p t).length c:=by
   rcases D with ⟨e,rfl⟩ | ⟨h,c,rfl,_⟩
   ·exact⟨none,0,by rw [e];rfl⟩
   ·exact⟨_,_,rfl⟩
  obtain⟨o,c,rfl⟩:=A;have f:=z.next k;have e:s.next t=((codeOf p t).length:Int):=by simpa [doneB]using x
  rw [e]at f;exact(oZ m g q b t _ o _ c w d k r u f).mono fun e w' ⟨he,hl⟩=>⟨by rw [he];simp [readyB,x],iR (ir _ _) hl⟩
 ·have y:doneB p s t=false:=by simpa using x
  have hne:s.next t≠((codeOf p t).length:Int):=by simpa [doneB]using y
  have j:(s.next t).toNat<(codeOf p t).length:=by omega
  have K:((s.next t).toNat:Int)=s.next t:=by omega
  obtain⟨h,c,rfl,hh,G,C,H,P,l,n⟩:=sX D j;have f:=z.next k;rw [<-K]at f;have A:=jT F d j;have O:insAt p t (s.next t)=(codeOf p t)[(s.next t).toNat]:=j4 j;rw [<-O]at P l n;by_cases i:(insAt p t (s.next t)).op=9
  ·have hsay:=lJ A;have ha:0<=(insAt p t (s.next t)).a/\(insAt p t (s.next t)).a<3:=by omega
   have J:((insAt p t (s.next t)).a.toNat:Int)=(insAt p t (s.next t)).a:=by omega
   have E:(insAt p t (s.next t)).a.toNat<3:=by omega
   rw [if_pos i,<-J]at n;rw [i]at l;exact(o7 m g q b t _ h _ _ c G C _ _ E w d k j r u f H l n (z.held E)).mono fun e w' ⟨he,hl⟩=>⟨by rw [he];simp [readyB,y,i],hl⟩
  ·have I:((insAt p t (s.next t)).op==9)=false:=by simpa using i
   rw [I]at l;exact(o0 m g q b t _ h _ _ c G C _ w d k j r u f H l n).mono fun e w' ⟨he,hl⟩=>⟨by rw [he];simp [readyB,y,i],hl⟩
theorem BZ{B m b t:Nat}{w:World}{p:List (List Ins)}{s:St}(l:vProg p=true)(M:MachAt B w m p)(hB:B<=b)(n:StAt w b s)(L:Inv p s)(d:t<p.length)(N:doneB p s t=false):
  Calls Tryz.prog 82 #[.pointer (some ⟨m,0,none⟩),.pointer (some ⟨b,0,none⟩),.int .i64 t] w
   fun e w'=>∃ r,e= .returned (.bool r)/\r=(stepS p s t).1/\StAt w' b (stepS p s t).2/\w.grownBy w' (some b):=by
 obtain⟨g,D,hm,hg,H,I⟩:=M;obtain⟨v,J,K⟩:=I t d;have f:t<4:=by have:=(iW l).2;omega
 have hn:=L t d;have hne:s.next t≠((codeOf p t).length:Int):=by simpa [doneB]using N
 have a:(s.next t).toNat<(codeOf p t).length:=by omega
 have j:((s.next t).toNat:Int)=s.next t:=by omega
 have h16:=jx (jf l d);obtain⟨h,c,rfl,hh,T,E,U,y,m2,m3⟩:=sX K a;have u:=n.next f;rw [<-j]at u;have S:=jT l d a;have Q:insAt p t (s.next t)=(codeOf p t)[(s.next t).toNat]:=j4 a;rw [<-Q]at y;have R:StAt (w.setCell ⟨b,26+t,none⟩ (.int .i64 (s.next t+1))) b (s.setNext t (s.next t+1)):=n.setCell (l8 s f _);have P:w.grownBy (w.setCell ⟨b,26+t,none⟩ (.int .i64 (s.next t+1))) (some b):=iM;have V:=y.of_block (w':=w.setCell ⟨b,26+t,none⟩ (.int .i64 (s.next t+1))) fun k a=>Below.heap_setCell _ _ _ _ (by simp;omega)
 obtain⟨x,o,i,F,q⟩:=xq f S V R;have G:x=T/\o=E:=by simp at i;exact⟨i.1.symm,i.2.symm⟩
 obtain⟨rfl,rfl⟩:=G;rw [<-j]at q;refine(zm m g D b t _ h _ _ c x o w (fun r w'=>r=(stepS p s t).1/\StAt w' b (stepS p s t).2/\w.grownBy w' (some b)) d f a (by omega) (by omega) (by omega) (by omega) H J u (n.frozen _) U F (q.mono ?_));rintro e w' ⟨r,O,z,A,C⟩;rw [j]at z A C;exact⟨r,O,z,A,il P C⟩
end
end Go.Proofs.YtklenjmfalljgabGreatDoor
