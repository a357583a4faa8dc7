/- The texts Reg. -/
import Derived.StillTailTactics
import Derived.OrdersHeld
namespace Go.Proofs.YtklenjmfalljgabGreatDoor
set_option maxRecDepth 100000
set_option maxHeartbeats 8000000
section
open Go
section
variable {P : Program} {ops : Array Oper} {Q : Exit -> Act -> World -> Prop} {S : World -> Prop} {n : Nat}
def lastL(P:Program)(ops:Array Oper)(Q:Exit->Act->World->Prop)(n:Nat)(listed:Array Bool)(a:Act)(w:World):Prop:=
 Region.ready .any ops listed=[n]/\Region.ready .any ops (listed.setIfInBounds n true)=[]/\wpOp P ops Q n (fun a' w'=>Q .normal a' w') a w
def wpHead(P:Program)(ops:Array Oper)(Q:Exit->Act->World->Prop)(S:World->Prop)(n:Nat):Nat->Array Bool->Act->World->Prop
 | 0,listed,a,w=>lastL P ops Q n listed a w
 | f+1,listed,a,w=>Region.ready .any ops listed≠[]/\∀ i∈Region.ready .any ops listed,i<n/\wpOp P ops Q i (fun a' w'=>S w'/\wpHead P ops Q S n f (listed.setIfInBounds i true) a' w') a w
theorem lq:∀ (f:Nat) (listed:Array Bool) (a:Act) (w:World),wpHead P ops Q S n f listed a w->wpAny P .any ops Q (f+1) listed a w
 | 0,listed,a,w,⟨h1,h2,h3⟩=>⟨fun h=>(by rw [h1]at h;cases h),fun i hi=>by
   rw [h1]at hi;have:i=n:=by simpa using hi
   subst this;exact wpOp_mono (fun a' w' h=>⟨h2,h⟩) h3⟩
 | f+1,listed,a,w,⟨h1,h2⟩=>⟨fun h=>absurd h h1,fun i hi=>wpOp_mono (fun a' w' h=>lq f _ a' w' h.2) (h2 i hi).2⟩
theorem rO{i:Nat}{p:Oper}{v:Value}(x:ops[i]?=some p)(E:∀ (j:Nat) (o:Oper) cs b,ops[j]?=some o->o.op≠ .select cs b)
  (F:∀ c a w,Q (.panic c) (a.put p.dst v) w->Q (.panic c) a w) (K:Region.sinkB .any ops n=true) (hc:Region.chainB .any ops n=true) (I:n<ops.size) (y:i<n):
  ∀ (f:Nat) (m:Array Bool) (a:Act) (w:World),
   (∀ j oj,ops[j]?=some oj->j≠i->m.getD j true=false->(∀ e∈oj.after,Region.binds .any e=true->e.on≠i)->p.apart ops oj=true)->
   i∈Region.ready .any ops m->HeadInv .any ops n m->YieldsIf P ops S p v a->S w->
   wpHead P ops Q S n f (m.setIfInBounds i true) (a.put p.dst v) w->wpHead P ops Q S n (f+1) m a w:=by
 intro f;induction f with
 | zero=>
  intro m a w _ l A s r H;refine⟨fun h=>(by rw [h]at l;cases l),fun j hj=>?_⟩;by_cases d:j=i
  ·subst d;exact⟨y,s.wpOp x r ⟨r,H⟩⟩
  ·have q:=ready_mono hj d;rw [H.1]at q;have:j=n:=by simpa using q
   subst this;exact absurd hj (tail_waits K hc I A _ i rfl y (mem_ready.1 l).1 j (Nat.le_refl _))
 | succ f ih=>
  intro m a w B l A s r H;refine⟨fun h=>(by rw [h]at l;cases l),fun j hj=>?_⟩;by_cases d:j=i
  ·subst d;exact⟨y,s.wpOp x r ⟨r,H⟩⟩
  ·have t:=H.2 j (ready_mono hj d);refine⟨t.1,?_⟩;obtain⟨D,oj,z,G⟩:=mem_ready.1 hj;have J:∀ e∈oj.after,Region.binds .any e=true->e.on≠i:=fun e he hb heq=>by
    have q:=G e he hb;have u:=getD_both (mem_ready.1 l).1;rw [heq,u]at q;cases q
   have u:=wpOp_putIf z (B j oj z d D J) (fun cs b=>E i p cs b x) (fun cs b=>E j oj cs b z) F s t.2;refine wpOp_mono (fun a' w' h3=>⟨h3.2.1,ih (m.setIfInBounds j true) a' w' (fun k ok hk hki hun hno=>?_) (ready_mono l (Ne.symm d)) (A.set hj t.1) h3.1 h3.2.1 ?_⟩) u
   ·refine B k ok hk hki ?_ hno;by_cases C:j=k
    ·subst C;exact D
    ·rw [getD_set_ne true C]at hun;exact hun
   ·rw [Array.setIfInBounds_comm _ _ d];exact h3.2.2
theorem jr{i:Nat}{d:Oper}{v:Value}{f:Nat}{b:Array Bool}{a:Act}{w:World}(k:ops[i]?=some d)
  (l:(Region.noSelect ops && (Region.sinkB .any ops n && (Region.chainB .any ops n && (decide (n<ops.size) && (decide (i<n) && (Region.free .any ops b i && (Region.ready .any ops b).contains i))))))=true)
  (t:∀ c a w,Q (.panic c) (a.put d.dst v) w->Q (.panic c) a w) (x:YieldsIf P ops S d v a) (u:S w)
  (h:HeadInv .any ops n (b.setIfInBounds i true)->wpHead P ops Q S n f (b.setIfInBounds i true) (a.put d.dst v) w):HeadInv .any ops n b->wpHead P ops Q S n (f+1) b a w:=by
 simp only [Bool.and_eq_true,decide_eq_true_eq]at l;obtain⟨m,o,p,q,e,r,s⟩:=l;have j:i∈Region.ready .any ops b:=by simpa using s
 exact fun inv=>rO k (Region.noSelect_spec m) t o p q e f b a w (Region.free_spec k r) j inv x u (h (inv.set j e))
theorem ie(i:Nat)(v:Value){oi:Oper}{f:Nat}{listed:Array Bool}{a:Act}{w:World}(hi:ops[i]?=some oi)
  (hs:(Region.noSelect ops && (Region.sinkB .any ops n && (Region.chainB .any ops n && (decide (n<ops.size) && (decide (i<n) && (Region.free .any ops listed i && (Region.ready .any ops listed).contains i))))))=true)
  (hQ:∀ c a w,Q (.panic c) (a.put oi.dst v) w->Q (.panic c) a w) (hw:Region.wanted oi (yielded ops a.tmps)=true) (hy:∀ w,S w->(execOp a.eval oi).run P w= .ok (.value v) w) (hS:S w)
  (h:HeadInv .any ops n (listed.setIfInBounds i true)->wpHead P ops Q S n f (listed.setIfInBounds i true) (a.put oi.dst v) w):HeadInv .any ops n listed->wpHead P ops Q S n (f+1) listed a w:=
 jr hi hs hQ (Or.inl ⟨hw,hy⟩) hS h
theorem iu{i:Nat}{d:Oper}{f:Nat}{b:Array Bool}{a:Act}{w:World}(l:ops[i]?=some d)
  (c:Region.ready .any ops b=[i]) (m:decide (i<n)=true) (o:Region.wanted d (yielded ops a.tmps)=true)
  (h:∀ K:Act->World->Prop,(∀ a' w',S w'->(HeadInv .any ops n (b.setIfInBounds i true)->wpHead P ops Q S n f (b.setIfInBounds i true) a' w')->K a' w')->d.wp P a w K Q):
  HeadInv .any ops n b->wpHead P ops Q S n (f+1) b a w:=by
 intro p;have e:i<n:=of_decide_eq_true m;have k:i∈Region.ready .any ops b:=by rw [c];simp
 refine⟨fun h=>(by rw [c]at h;cases h),fun j hj=>?_⟩;rw [c]at hj;have:j=i:=by simpa using hj
 subst this;refine⟨e,?_⟩;unfold wpOp;simp only [l,o,if_true];exact Or.inl (h _ (fun a' w' hS hh=>⟨hS,hh (p.set k e)⟩))
theorem iF{on:Oper}{b:Array Bool}{a:Act}{w:World}(c:ops[n]?=some on)
  (d:Region.ready .any ops b=[n]) (e:Region.ready .any ops (b.setIfInBounds n true)=[]) (f:Region.wanted on (yielded ops a.tmps)=true)
  (h:on.wp P a w (fun a' w'=>Q .normal a' w') Q):HeadInv .any ops n b->wpHead P ops Q S n 0 b a w:=by
 intro _;refine⟨d,e,?_⟩;unfold wpOp;simp only [c,f,if_true];exact Or.inl h
theorem iz{e:Nat}{a:Act}{w:World}(S:World->Prop)(n:Nat)(c:P.follows .mixedOrders=true)(d:ops.size=n+1)(b:S w.drew)
  (h:S w.drew->HeadInv .any ops n (Array.replicate ops.size false)->wpHead P ops Q S n n (Array.replicate ops.size false) a w.drew):(Code.region e ops true).wp P Q a w:=by
 refine wp_region_any c ?_;have f:HeadInv .any ops n (Array.replicate ops.size false):=
  ⟨by simp,fun j oj _ hl=>(by rw [getD_replicate_false]at hl;cases hl),fun t _ ht=>getD_in (by simpa using ht) (getD_replicate_false _ _)⟩
 have:=lq (P:=P) (Q:=Q) n _ a _ (h b f);rw [d]at this ⊢;exact this
end
def Like(w' w:World):Prop:=w'.heap=w.heap/\w'.os=w.os/\w'.output=w.output/\w'.tape=w.tape
end
end Go.Proofs.YtklenjmfalljgabGreatDoor
