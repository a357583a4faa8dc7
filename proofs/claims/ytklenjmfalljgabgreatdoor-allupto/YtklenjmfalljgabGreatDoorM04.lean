/- The texts Frm Frn Fro Frr Fha Fhb Fhc Frs. -/
import Derived.Test.YtklenjmfalljgabGreatDoorM02
import Derived.RowKit
import Derived.Maps.Own
import Derived.Maps.OwnOps
import Derived.Maps.Views
import Derived.DeepKeys4
import Derived.Deep.DeepCutAuto
namespace Go.Proofs.YtklenjmfalljgabGreatDoor
set_option maxRecDepth 100000
set_option maxHeartbeats 8000000
section
section
variable {α : Type} (d : α -> α -> Bool) (th : α -> Nat)
def layIn:List (α × Nat)->α->Nat
 | [],_=>0
 | y::r,x=>if d y.1 x=true then max (y.2+1) (layIn r x) else layIn r x
def tl:List (α × Nat)->List α->List (α × Nat)
 | _,[]=>[]
 | past,x::r=>(x,layIn d past x)::tl ((x,layIn d past x)::past) r
theorem qV(a b:List (α × Nat))(x:α):layIn d (a++b) x=max (layIn d a x) (layIn d b x):=by
 induction a with
 | nil=>simp [layIn]
 | cons y r ih=>
  simp only [List.cons_append,layIn,ih];split<;>omega
theorem ub{a b:List (α × Nat)}(h:a.Perm b)(x:α):layIn d a x=layIn d b x:=by
 induction h with
 | nil=>rfl
 | cons y _ ih=>simp only [layIn,ih]
 | swap y z l=>
  simp only [layIn];split<;>split<;>omega
 | trans _ _ ih1 ih2=>rw [ih1,ih2]
theorem Bf{a b:List (α × Nat)}(h:a.Perm b)(xs:List α):tl d a xs=tl d b xs:=by
 induction xs generalizing a b with
 | nil=>rfl
 | cons x r ih=>
  simp only [tl];rw [ub d h x,ih (h.cons _)]
theorem xe(past:List (α × Nat))(xs a:List α):tl d past (xs++a)=tl d past xs++tl d (tl d past xs++past) a:=by
 induction xs generalizing past with
 | nil=>simp [tl]
 | cons x r ih=>
  simp only [List.cons_append,tl];rw [ih];congr 2
  exact Bf d (by simp) a
theorem pm(past:List (α × Nat))(xs:List α):(tl d past xs).map (·.1)=xs:=by
 induction xs generalizing past with
 | nil=>rfl
 | cons x r ih=>simp only [tl,List.map_cons,ih]
theorem iX(past:List (α × Nat))(xs:List α):(tl d past xs).length=xs.length:=by
 have:=congrArg List.length (pm d past xs);simpa using this
theorem Bg(xs:List α)(x:α):tl d [] (xs++[x])=tl d [] xs++[(x,layIn d (tl d [] xs) x)]:=by
 rw [xe];simp [tl]
theorem yz{past:List (α × Nat)}{y:α × Nat}{x:α}(h:y∈past)(a:d y.1 x=true):y.2+1<=layIn d past x:=by
 induction past with
 | nil=>cases h
 | cons z r ih=>
  simp only [layIn];rcases List.mem_cons.1 h with h | h
  ·subst h;rw [if_pos a];omega
  ·have:=ih h;split<;>omega
theorem mN{past:List (α × Nat)}{x:α}{n:Nat}(h:∀ y∈past,d y.1 x=true->y.2+1<=n):layIn d past x<=n:=by
 induction past with
 | nil=>simp [layIn]
 | cons z r ih=>
  simp only [layIn];have a:=ih (fun y hy=>h y (List.mem_cons_of_mem _ hy));split
  ·have:=h z (List.mem_cons_self ..) ‹_›;omega
  ·exact a
def Eqv(xs ys:List α):Prop:=∀ R:List α->List α->Prop,(∀ a,R a a)->(∀ (a:List α) (x y:α) (b:List α),d x y=false->d y x=false->R (a++x::y::b) (a++y::x::b))->(∀ a b c,R a b->R b c->R a c)->R xs ys
variable {d}
theorem Eqv.refl(xs:List α):Eqv d xs xs:=fun _ h _ _=>h xs
theorem Eqv.swap(a:List α)(x y:α)(b:List α)(h1:d x y=false)(h2:d y x=false):Eqv d (a++x::y::b) (a++y::x::b):=fun _ _ h _=>h a x y b h1 h2
theorem Eqv.trans{xs ys zs:List α}(h:Eqv d xs ys)(h':Eqv d ys zs):Eqv d xs zs:=fun R h1 h2 h3=>h3 xs ys zs (h R h1 h2 h3) (h' R h1 h2 h3)
theorem Eqv.snoc{xs c:List α}(h:Eqv d xs c)(z:α):Eqv d (xs++[z]) (c++[z]):=by
 refine h (fun xs c=>Eqv d (xs++[z]) (c++[z])) (fun _=>Eqv.refl _) (fun a x y b h1 h2=>?_) (fun _ _ _ i1 i2=>i1.trans i2);simpa using Eqv.swap a x y (b++[z]) h1 h2
end
theorem pj:∀ {a b:List (Nat × Nat)},a.Perm b->a.Pairwise (fun x y=>x.1<y.1\/(x.1=y.1/\x.2<=y.2))->b.Pairwise (fun x y=>x.1<y.1\/(x.1=y.1/\x.2<=y.2))->a=b
 | [],b,h,_,_=>(List.nil_perm.1 h).symm
 | x::a,[],h,_,_=>absurd h.length_eq (by simp)
 | x::a,y::b,h,h1,h2=>by
  rw [List.pairwise_cons]at h1 h2;have e:x=y:=by
   have c:x∈y::b:=h.mem_iff.1 (List.mem_cons_self ..);have d:y∈x::a:=h.mem_iff.2 (List.mem_cons_self ..);rcases List.mem_cons.1 c with c | c
   ·exact c
   ·rcases List.mem_cons.1 d with d | d
    ·exact d.symm
    ·have k1:=h1.1 y d;have k2:=h2.1 x c;obtain⟨x1,x2⟩:=x;obtain⟨j,k⟩:=y;simp only at k1 k2;have f:x1=j:=by omega
     have i:x2=k:=by omega
     rw [f,i]
  subst e;rw [pj (List.perm_cons _ |>.1 h) h1.2 h2.2]
end
section
open Go.RowKit (wrap64)
def tou(i:Ins):Nat × Nat:=if i.op=9\/i.op=10 then (1,i.a.toNat) else if i.op=2 then (2,i.b.toNat) else if i.op=3 then (3,i.a.toNat) else (0,0)
def clash(x y:Nat × Nat):Bool:=x.1 !=0 && y.1 !=0 && x.2==y.2 && ((x.1==1)==(y.1==1)) && !(x.1==2 && y.1==2)
structure Ev where
 t:Nat
 k:Int
 bad:Bool
def depE(p:List (List Ins))(x y:Ev):Bool:=x.bad || y.bad || x.t==y.t || clash (tou (insAt p x.t x.k)) (tou (insAt p y.t y.k))
def goes(p:List (List Ins))(s:St)(x:Ev):Prop:=x.t<p.length/\readyB p s x.t=true/\s.next x.t=x.k/\(stepS p s x.t).1= !x.bad
def RunE(p:List (List Ins)):St->List Ev->St->Prop
 | s,[],s'=>s'=s
 | s,x::r,s'=>goes p s x/\RunE p (stepS p s x.t).2 r s'
theorem St.eq_of{s a:St}(b:s.vars=a.vars)(c:s.held=a.held)(d:s.own=a.own)(e:s.regs=a.regs)(f:s.next=a.next):s=a:=by
 cases s;cases a;simp at*;exact⟨b,c,d,e,f⟩
theorem RunE.append{p:List (List Ins)}:∀ {a b:List Ev} {s s':St},RunE p s (a++b) s'↔∃ s1,RunE p s a s1/\RunE p s1 b s'
 | [],b,s,s'=>by simp [RunE]
 | x::a,b,s,s'=>by
  simp only [List.cons_append,RunE,RunE.append (a:=a)];constructor
  ·rintro⟨h1,s1,h2,h3⟩;exact⟨s1,⟨h1,h2⟩,h3⟩
  ·rintro⟨s1,⟨h1,h2⟩,h3⟩;exact⟨h1,s1,h2,h3⟩
end
section
def Ev.tI(e:Ev):Int:=(e.t:Int)
def Ev.pr(e:Ev):Int × Int:=((e.t:Int),e.k)
def evG(x:Int × Int):Ev:=⟨x.1.toNat,x.2,false⟩
def evB(x:Int × Int):Ev:=⟨x.1.toNat,x.2,true⟩
def good(xs:List Ev):Prop:=∀ e∈xs,e.bad=false
def evsOf(o:Out):List Ev:=if o.kind=1 then o.steps.dropLast.map evG++(o.steps.getLast?.map evB).toList else o.steps.map evG
theorem BC{e:Ev}(h:e.bad=false):evG e.pr=e:=by cases e;simp [evG,Ev.pr]at*;exact h
theorem BA{e:Ev}(h:e.bad=true):evB e.pr=e:=by cases e;simp [evB,Ev.pr]at*;exact h
theorem uQ{xs:List Ev}(h:good xs):(xs.map Ev.pr).map evG=xs:=by
 induction xs with
 | nil=>rfl
 | cons x r ih=>
  simp only [List.map_cons];rw [BC (h x (List.mem_cons_self ..)),ih (fun e he=>h e (List.mem_cons_of_mem _ he))]
theorem tM{o:Out}{xs:List Ev}(a:o.kind≠1)(b:o.steps=xs.map Ev.pr)(h:good xs):evsOf o=xs:=by
 unfold evsOf;rw [if_neg a,b,uQ h]
theorem vP{o:Out}{a:List Ev}{z:Ev}(b:o.kind=1)(c:o.steps=(a++[z]).map Ev.pr)(h:good a)(d:z.bad=true):evsOf o=a++[z]:=by
 unfold evsOf;rw [if_pos b,c];simp [uQ h,BA d]
theorem uS{p:List (List Ins)}{s:St}{x:Ev}(h:goes p s x):okAt p s x.tI=true:=by
 obtain⟨a,b,_⟩:=h;simp [okAt,belowB,Ev.tI,a,b]
theorem kr(p:List (List Ins)):∀ (l:List Int) (i:Int) (s:St) (b:List (Int × Int)),∃ xs s',RunE p s xs s'/\(follow p l i s b).steps=b++xs.map Ev.pr/\(follow p l i s b).st=s'/\
  ((good xs/\xs.map Ev.tI=l/\(follow p l i s b).kind=endingS p s'/\(follow p l i s b).thread=0/\(follow p l i s b).at_=0)\/
   (good xs/\(∃ u r,l=xs.map Ev.tI++u::r/\okAt p s' u=false)/\(follow p l i s b).kind=2/\(follow p l i s b).thread=0/\(follow p l i s b).at_=i+xs.length)\/
   (∃ ys z r,xs=ys++[z]/\good ys/\z.bad=true/\l=xs.map Ev.tI++r/\(follow p l i s b).kind=1/\(follow p l i s b).thread=z.tI/\(follow p l i s b).at_=z.k))
 | [],i,s,b=>⟨[],s,rfl,by simp [follow],rfl,Or.inl ⟨by simp [good],rfl,rfl,rfl,rfl⟩⟩
 | t::r,i,s,b=>by
  by_cases h1:okAt p s t=true
  ·have hb:0<=t/\t<p.length/\readyB p s t.toNat=true:=by
    simp [okAt,belowB]at h1;exact⟨h1.1.1,h1.1.2,h1.2⟩
   obtain⟨hb1,hb2,m⟩:=hb;have c:((t.toNat:Nat):Int)=t:=by omega
   by_cases f:(stepS p s t.toNat).1=true
   ·obtain⟨xs,s',o,q,v,hc⟩:=kr p r (i+1) (stepS p s t.toNat).2 (b++[(t,s.next t.toNat)]);rw [kS p t r i s b h1 f];have n:goes p s ⟨t.toNat,s.next t.toNat,false⟩:=⟨by simp only;omega,m,rfl,by simpa using f⟩;refine⟨⟨t.toNat,s.next t.toNat,false⟩::xs,s',⟨n,o⟩,?_,v,?_⟩
    ·rw [q];simp [Ev.pr,c]
    ·have j:∀ {zs:List Ev},good zs->good (⟨t.toNat,s.next t.toNat,false⟩::zs):=fun h e he=>by
      rcases List.mem_cons.1 he with he | he
      ·rw [he]
      ·exact h e he
     rcases hc with ⟨g1,g2,g3,g4,g5⟩ | ⟨g1,⟨u,r',g2,g2'⟩,g3,g4,g5⟩ | ⟨ys,z,r',g1,g2,g3,g4,g5,g6,g7⟩
     ·exact Or.inl ⟨j g1,by simp [Ev.tI,c];exact g2,g3,g4,g5⟩
     ·exact Or.inr (Or.inl ⟨j g1,⟨u,r',by simp [Ev.tI,c];exact g2,g2'⟩,g3,g4,by rw [g5];simp;omega⟩)
     ·exact Or.inr (Or.inr ⟨⟨t.toNat,s.next t.toNat,false⟩::ys,z,r',by rw [g1];rfl,j g2,g3,by simp [Ev.tI,c];exact g4,g5,g6,g7⟩)
   ·have d:(stepS p s t.toNat).1=false:=by simpa using f
    rw [kk p t r i s b h1 d];refine⟨[⟨t.toNat,s.next t.toNat,true⟩],_,⟨⟨by simp only;omega,m,rfl,by simpa using d⟩,rfl⟩,by simp [Ev.pr,c],rfl,Or.inr (Or.inr ⟨[],_,r,rfl,by simp [good],rfl,by simp [Ev.tI,c],rfl,by simp [Ev.tI,c],rfl⟩)⟩
  ·have d:okAt p s t=false:=by simpa using h1
   rw [jh p t r i s b d];exact⟨[],s,rfl,by simp,rfl,Or.inr (Or.inl ⟨by simp [good],⟨t,r,rfl,d⟩,rfl,rfl,by simp⟩)⟩
theorem kF(p:List (List Ins)):∀ (xs:List Ev) (l:List Int) (i:Int) (s s':St) (acc:List (Int × Int)),good xs->RunE p s xs s'->follow p (xs.map Ev.tI++l) i s acc=follow p l (i+xs.length) s' (acc++xs.map Ev.pr)
 | [],l,i,s,s',acc,_,h=>by cases h;simp
 | x::r,l,i,s,s',acc,hg,⟨h1,h2⟩=>by
  have hb:=hg x (List.mem_cons_self ..);have hok:=uS h1;obtain⟨g1,g2,g3,g4⟩:=h1;have e1:x.tI.toNat=x.t:=by simp [Ev.tI]
  rw [List.map_cons,List.cons_append,kS p _ _ i s acc hok (by rw [e1,g4,hb];rfl),e1,kF p r l (i+1) _ s' _ (fun e he=>hg e (List.mem_cons_of_mem _ he)) h2];congr 1
  ·simp;omega
  ·simp [Ev.pr,Ev.tI,g3]
theorem tQ{p:List (List Ins)}{a:List Ev}{z:Ev}{i:Int}{s e:St}{b:List (Int × Int)}(o:good a)(r:z.bad=true)(h:RunE p s (a++[z]) e):follow p ((a++[z]).map Ev.tI) i s b=⟨b++(a++[z]).map Ev.pr,1,z.tI,z.k,e⟩:=by
 rw [RunE.append]at h;obtain⟨f,m,d,n⟩:=h;have q:=uS d;obtain⟨g1,g2,j,l⟩:=d;have c:z.tI.toNat=z.t:=by simp [Ev.tI]
 rw [List.map_append,kF p a _ i s f b o m,List.map_cons,List.map_nil,kk p _ _ _ f _ q (by rw [c,l,r];rfl),c,j];cases n
 simp [Ev.pr,Ev.tI]
def insK(x:Nat × Nat):List (Nat × Nat)->List (Nat × Nat)
 | []=>[x]
 | y::r=>if x.1<y.1\/(x.1=y.1/\x.2<=y.2) then x::y::r else y::insK x r
def sortK:List (Nat × Nat)->List (Nat × Nat)
 | []=>[]
 | x::r=>insK x (sortK r)
def leP(x y:Nat × Nat):Prop:=x.1<y.1\/(x.1=y.1/\x.2<=y.2)
theorem nl(x:Nat × Nat):∀ l,(insK x l).Perm (x::l)
 | []=>List.Perm.refl _
 | y::r=>by
  unfold insK;split
  ·exact List.Perm.refl _
  ·exact((nl x r).cons y).trans (List.Perm.swap _ _ _)
theorem ke:∀ l,(sortK l).Perm l
 | []=>List.Perm.refl _
 | x::r=>(nl x (sortK r)).trans ((ke r).cons x)
theorem nO(x:Nat × Nat):∀ l,l.Pairwise leP->(insK x l).Pairwise leP
 | [],_=>by simp [insK]
 | y::r,h=>by
  have h0:=h;rw [List.pairwise_cons]at h;unfold insK;split
  ·rename_i hxy
   rw [List.pairwise_cons];refine⟨fun z hz=>?_,h0⟩;rcases List.mem_cons.1 hz with hz | hz
   ·subst hz;exact hxy
   ·have:=h.1 z hz;unfold leP at*;omega
  ·rename_i hxy
   rw [List.pairwise_cons];refine⟨fun z hz=>?_,nO x r h.2⟩;have hz':=(nl x r).mem_iff.1 hz;rcases List.mem_cons.1 hz' with hz' | hz'
   ·subst hz';unfold leP;omega
   ·exact h.1 z hz'
theorem mU:∀ l,(sortK l).Pairwise leP
 | []=>List.Pairwise.nil
 | x::r=>nO x _ (mU r)
theorem qu{a b:List (Nat × Nat)}(h:a.Perm b)(hb:b.Pairwise leP):sortK a=b:=pj ((ke a).trans h) (mU a) hb
def keyE(x:Ev × Nat):Nat × Nat:=(x.2,x.1.t)
def keysE(p:List (List Ins))(xs:List Ev):List (Nat × Nat):=(tl (depE p) [] xs).map keyE
def formE(p:List (List Ins))(xs:List Ev):List Int:=(sortK (keysE p xs)).map fun x=>(x.2:Int)
def formS(p:List (List Ins))(o:Out):List Int:=formE p (evsOf o)
theorem kt(p:List (List Ins))(xs:List Ev):(formE p xs).length=xs.length:=by
 unfold formE keysE;rw [List.length_map,(ke _).length_eq,List.length_map,iX]
def usesI(t:Nat)(i:Ins):List (Nat × Nat × Bool):=(0,t,true)::(if i.op=9\/i.op=10 then [(2,i.a.toNat,true)] else if i.op=2 then [(1,i.b.toNat,false)] else if i.op=3 then [(1,i.a.toNat,true)] else [])
def usesE(p:List (List Ins))(e:Ev):List (Nat × Nat × Bool):=usesI e.t (insAt p e.t e.k)
def histOf(p:List (List Ins)):List (Ev × Nat)->Nat × Nat × Bool->Nat
 | [],_=>0
 | q::r,u=>if u∈usesE p q.1 then max (q.2+1) (histOf p r u) else histOf p r u
def aheadS(H:Nat × Nat × Bool->Nat):List (Nat × Nat × Bool)->Nat->Nat
 | [],n=>n
 | u::r,n=>aheadS H r (if u.2.2=true then max (max n (H (u.1,u.2.1,true))) (H (u.1,u.2.1,false)) else max n (H (u.1,u.2.1,true)))
theorem wt{α:Type}(d:α->α->Bool)(past:List (α × Nat))(x:α)(n:Nat):layIn d past x<=n↔∀ q∈past,d q.1 x=true->q.2+1<=n:=by
 constructor
 ·intro h q b a;exact Nat.le_trans (yz d b a) h
 ·exact mN d
theorem j3(p:List (List Ins))(u:Nat × Nat × Bool)(n:Nat):∀ past,histOf p past u<=n↔∀ q∈past,u∈usesE p q.1->q.2+1<=n
 | []=>by simp [histOf]
 | q::r=>by
  have ih:=j3 p u n r;unfold histOf;by_cases h:u∈usesE p q.1
  ·rw [if_pos h,Nat.max_le,ih];simp [h]
  ·rw [if_neg h,ih];simp [h]
theorem og(H:Nat × Nat × Bool->Nat)(n:Nat):∀ (us:List (Nat × Nat × Bool)) (m:Nat),aheadS H us m<=n↔m<=n/\∀ u∈us,H (u.1,u.2.1,true)<=n/\(u.2.2=true->H (u.1,u.2.1,false)<=n)
 | [],m=>by simp [aheadS]
 | u::r,m=>by
  unfold aheadS;rw [og H n r];by_cases h:u.2.2=true
  ·rw [if_pos h,Nat.max_le,Nat.max_le];simp [h,and_assoc]
  ·rw [if_neg h,Nat.max_le];simp [h,and_assoc]
theorem oB(p:List (List Ins)){x y:Ev}(a:x.bad=false)(b:y.bad=false):depE p y x=true↔∃ u∈usesE p x,(u.1,u.2.1,true)∈usesE p y\/(u.2.2=true/\(u.1,u.2.1,false)∈usesE p y):=by
 unfold depE usesE usesI;generalize insAt p x.t x.k=i;generalize insAt p y.t y.k=j;by_cases l:i.op=9\/i.op=10
 ·by_cases e:j.op=9\/j.op=10
  ·simp [clash,tou,a,b,l,e];omega
  ·by_cases c:j.op=2
   ·have:¬(j.op=9\/j.op=10):=by omega
    simp [clash,tou,a,b,l,c];omega
   ·by_cases d:j.op=3
    ·simp [clash,tou,a,b,l,d];omega
    ·simp [clash,tou,a,b,l,e,c,d];omega
 ·by_cases f:i.op=2
  ·by_cases e:j.op=9\/j.op=10
   ·simp [clash,tou,a,b,f,e];omega
   ·by_cases c:j.op=2
    ·simp [clash,tou,a,b,f,c];omega
    ·by_cases d:j.op=3
     ·simp [clash,tou,a,b,f,d];omega
     ·simp [clash,tou,a,b,f,e,c,d];omega
  ·by_cases h:i.op=3
   ·by_cases e:j.op=9\/j.op=10
    ·simp [clash,tou,a,b,h,e];omega
    ·by_cases c:j.op=2
     ·simp [clash,tou,a,b,h,c];omega
     ·by_cases d:j.op=3
      ·simp [clash,tou,a,b,h,d];omega
      ·simp [clash,tou,a,b,h,e,c,d];omega
   ·by_cases e:j.op=9\/j.op=10
    ·simp [clash,tou,a,b,l,f,h,e];omega
    ·by_cases c:j.op=2
     ·simp [clash,tou,a,b,l,f,h,c];omega
     ·by_cases d:j.op=3
      ·simp [clash,tou,a,b,l,f,h,d];omega
      ·simp [clash,tou,a,b,l,f,h,e,c,d];omega
theorem vn(p:List (List Ins)){past:List (Ev × Nat)}{x:Ev}(f:x.bad=false)(e:∀ q∈past,q.1.bad=false):aheadS (histOf p past) (usesE p x) 0=layIn (depE p) past x:=by
 have key:∀ n,aheadS (histOf p past) (usesE p x) 0<=n↔layIn (depE p) past x<=n:=by
  intro n;rw [og,wt];constructor
  ·rintro⟨_,h⟩ q b i;obtain⟨u,c,a⟩:=(oB p f (e q b)).1 i;have d:=h u c;rcases a with a | ⟨a,h3⟩
   ·exact(j3 p _ n past).1 d.1 q b a
   ·exact(j3 p _ n past).1 (d.2 a) q b h3
  ·intro h;refine⟨Nat.zero_le _,fun u c=>⟨(j3 p _ n past).2 fun q b a=>?_,fun hw=>(j3 p _ n past).2 fun q b a=>?_⟩⟩
   ·exact h q b ((oB p f (e q b)).2 ⟨u,c,Or.inl a⟩)
   ·exact h q b ((oB p f (e q b)).2 ⟨u,c,Or.inr ⟨hw,a⟩⟩)
 have a:=(key (layIn (depE p) past x)).2 (Nat.le_refl _);have d:=(key (aheadS (histOf p past) (usesE p x) 0)).1 (Nat.le_refl _);omega
def highOf:List (Ev × Nat)->Nat
 | []=>0
 | q::r=>max (q.2+1) (highOf r)
theorem ye(p:List (List Ins)){past:List (Ev × Nat)}{x:Ev}(a:x.bad=true):layIn (depE p) past x=highOf past:=by
 induction past with
 | nil=>rfl
 | cons q r ih=>
  unfold layIn highOf;rw [if_pos (by simp [depE,a]),ih]
theorem lC{α:Type}(d:α->α->Bool):∀ (xs:List α) (past:List (α × Nat)) (m:Nat),(∀ q∈past,q.2<m)->∀ k q,(tl d past xs)[k]?=some q->q.2<=m+k
 | [],past,m,_,k,q,h=>by simp [tl]at h
 | x::r,past,m,hm,k,q,h=>by
  have hx:layIn d past x<=m:=mN d (fun y hy _=>hm y hy);cases k with
  | zero=>simp [tl]at h;subst h;exact hx
  | succ k=>
   simp only [tl,List.getElem?_cons_succ]at h;have:=lC d r _ (m+1) (fun y hy=>by
    rcases List.mem_cons.1 hy with hy | hy
    ·subst hy;simp only;omega
    ·have:=hm y hy;omega) k q h
   omega
def goThrough(n:Nat)(ks:List (Nat × Nat)):List (Nat × Nat):=(List.range n).flatMap fun l=>(List.range 4).flatMap fun t=>ks.filter fun k=>k.1==l && k.2==t
theorem kW{β:Type}{R:β->β->Prop}{f:Nat->List β}{n:Nat}(b:∀ l,l<n->(f l).Pairwise R)(c:∀ l l',l<l'->l'<n->∀ x∈f l,∀ y∈f l',R x y):((List.range n).flatMap f).Pairwise R:=by
 induction n with
 | zero=>simp
 | succ n ih=>
  rw [List.range_succ,List.flatMap_append,List.pairwise_append];refine⟨ih (fun l h=>b l (by omega)) (fun l l' h h'=>c l l' h (by omega)),by simpa using b n (by omega),fun x a y hy=>?_⟩;obtain⟨l,d,a⟩:=List.mem_flatMap.1 a;simp at hy d;exact c l n d (by omega) x a y hy
theorem mi{f:Nat->List (Nat × Nat)}(q:Nat × Nat)(c:Nat):∀ {n:Nat} (_:∀ l,l<n->(f l).count q=if l=c then (f c).count q else 0),((List.range n).flatMap f).count q=if c<n then (f c).count q else 0
 | 0,_=>by simp
 | n+1,h=>by
  rw [List.range_succ,List.flatMap_append,List.count_append,mi q c (fun l hl=>h l (by omega))];have:=h n (by omega);simp only [List.flatMap_cons,List.flatMap_nil,List.append_nil,this];by_cases e:n=c
  ·subst e;simp
  ·rw [if_neg e];by_cases e2:c<n
   ·rw [if_pos e2,if_pos (by omega)];rfl
   ·rw [if_neg e2,if_neg (by omega)]
theorem oI{n:Nat}{a:List (Nat × Nat)}(h:∀ k∈a,k.1<n/\k.2<4):(goThrough n a).Perm a:=by
 rw [List.perm_iff_count];intro q;have f:∀ l t,(a.filter fun k=>k.1==l && k.2==t).count q=if l=q.1/\t=q.2 then a.count q else 0:=by
  intro l t;by_cases e:l=q.1/\t=q.2
  ·rw [if_pos e,List.count_filter (by simp [e.1,e.2])]
  ·rw [if_neg e,List.count_eq_zero];intro c;have:=(List.mem_filter.1 c).2;simp at this;exact e ⟨this.1.symm,this.2.symm⟩
 have d:∀ l,((List.range 4).flatMap fun t=>a.filter fun k=>k.1==l && k.2==t).count q=if l=q.1 then (if q.2<4 then a.count q else 0) else 0:=by
  intro l;rw [mi q q.2 (fun t _=>by rw [f,f];by_cases b:l=q.1<;>by_cases i:t=q.2<;>simp [b,i]),f];by_cases b:l=q.1<;>simp [b]
 unfold goThrough;rw [mi q q.1 (fun l _=>by rw [d,d];by_cases b:l=q.1<;>simp [b]),d];simp only [if_true];by_cases c:q∈a
 ·have:=h q c;rw [if_pos this.1,if_pos this.2]
 ·have:a.count q=0:=List.count_eq_zero.2 c;rw [this];simp
theorem nh(n:Nat)(i:List (Nat × Nat)):(goThrough n i).Pairwise leP:=by
 have c:∀ l t x,x∈(i.filter fun k=>k.1==l && k.2==t)->x.1=l/\x.2=t:=fun l t x a=>by
  have:=(List.mem_filter.1 a).2;simpa using this
 refine kW (fun l _=>kW (fun t _=>?_) (fun t d h _ x a y b=>?_)) (fun l l' h _ x a y b=>?_)
 ·refine List.Pairwise.imp_of_mem (R:=fun _ _=>True) (fun {x y} a b _=>?_) (List.pairwise_of_forall (fun _ _=>trivial));have e:=c l t x a;have f:=c l t y b;unfold leP;omega
 ·have e:=c l t x a;have f:=c l d y b;unfold leP;omega
 ·obtain⟨t,_,a⟩:=List.mem_flatMap.1 a;obtain⟨d,_,b⟩:=List.mem_flatMap.1 b;have e:=c l t x a;have f:=c l' d y b;unfold leP;omega
theorem qO{p:List (List Ins)}{xs:List Ev}(h:∀ e∈xs,e.t<4):formE p xs=(goThrough xs.length (keysE p xs)).map fun x=>(x.2:Int):=by
 unfold formE;rw [qu (oI ?_).symm (nh _ _)];intro k b;unfold keysE at b;obtain⟨q,f,rfl⟩:=List.mem_map.1 b;obtain⟨j,a,rfl⟩:=List.getElem_of_mem f;have hj':j<xs.length:=by rwa [iX]at a
 have:=lC (depE p) xs [] 0 (by simp) j _ (List.getElem?_eq_getElem a);refine⟨by simp only [keyE];omega,?_⟩;have d:((tl (depE p) [] xs)[j]).1∈xs:=by
  have c:((tl (depE p) [] xs)[j]).1∈(tl (depE p) [] xs).map (·.1):=List.mem_map.2 ⟨_,List.getElem_mem a,rfl⟩;rwa [pm]at c
 exact h _ d
end
section
open Go.RowKit Go.Maps
abbrev Use:=Nat × Nat × Bool
def useV(u:Use):Value:= .agg #[.int .i64 u.1,.int .i64 u.2.1,.bool u.2.2]
def useL(u:Use):Lit:= .string (keyBytes [.int .i64 u.1,.int .i64 u.2.1,.bool u.2.2])
def smallU(u:Use):Prop:=u.1<=1000/\u.2.1<=1000
theorem qU:Keyed Tryz.prog 240:=Keyed.of_law (deep_law_laid (by kernel_rfl) (m:=Tryz.prog.types.size+1) (of_decide_eq_true (by kernel_rfl)) (of_decide_eq_true (by kernel_rfl)) (by kernel_rfl) (by kernel_rfl))
theorem zF(w:World):(zeroValue 3).run Tryz.prog w= .ok (.int .i64 0) w:=by kernel_rfl
theorem pq{n:Nat}(h:n<=1000000):(Lit.int .i64 (n:Int)).wf=true:=WalkArith.wf_i64 (by omega)
theorem od{u:Use}(h:smallU u):keyOf Tryz.prog 240 (useV u)=some (useL u):=by
 have k1:Tryz.prog.keyType 240=true:=by kernel_rfl
 have f:=pq (n:=u.1) (by have:=h.1;omega);have i:=pq (n:=u.2.1) (by have:=h.2;omega);obtain⟨m,e⟩:∃ m,Tryz.prog.types.size+1=m+2:=⟨Tryz.prog.types.size - 1,by have:2<=Tryz.prog.types.size:=of_decide_eq_true (by kernel_rfl);omega⟩;have c1:Tryz.prog.cellsOf 240=3:=by kernel_rfl
 have a:Tryz.prog.cellsOf 238=1:=by kernel_rfl
 have b:Tryz.prog.cellsOf 3=1:=by kernel_rfl
 have c:Tryz.prog.cellsOf 4=1:=by kernel_rfl
 have j:Tryz.prog.keyLits (m+1) 238 [.int .i64 (u.1:Int)]=some [.int .i64 (u.1:Int)]:=by
  unfold Program.keyLits;rw [Tryz.underlying238];simp only [f,and_self,if_true]
 have k:Tryz.prog.keyLits (m+1) 3 [.int .i64 (u.2.1:Int)]=some [.int .i64 (u.2.1:Int)]:=by
  unfold Program.keyLits;rw [Tryz.underlying3];simp only [i,and_self,if_true]
 have l:Tryz.prog.keyLits (m+1) 4 [.bool u.2.2]=some [.bool u.2.2]:=by
  unfold Program.keyLits;rw [Tryz.underlying4]
 have o:Tryz.prog.keyLits (m+2) 240 [.int .i64 (u.1:Int),.int .i64 (u.2.1:Int),.bool u.2.2]=some [.int .i64 (u.1:Int),.int .i64 (u.2.1:Int),.bool u.2.2]:=by
  unfold Program.keyLits;rw [Tryz.underlying240]
  simp only;rw [if_pos ⟨by rw [c1];rfl,by simp⟩];simp only [List.mapM_cons,List.mapM_nil,a,b,c,List.drop_zero,List.drop_succ_cons,List.take_succ_cons,List.take_zero,j,k,l];rfl
 have d:(useV u).formed Tryz.prog 240=true:=by
  unfold Value.formed useV;rw [Tryz.underlying240];simp only [c1];rfl
 unfold keyOf;rw [Tryz.underlying240];simp only [k1,d,Bool.and_self,if_true,e];have hc:(useV u).cells.toList=[.int .i64 (u.1:Int),.int .i64 (u.2.1:Int),.bool u.2.2]:=rfl;rw [hc,o];rfl
theorem zy{u v:Use}(c:smallU u)(d:smallU v)(h:useL u=useL v):u=v:=by
 have b:=od c;have a:=od d;rw [<-h]at a;have:=qU.inj b a;unfold useV at this;simp at this;obtain⟨u1,u2,u3⟩:=u;obtain⟨v1,v2,v3⟩:=v;simp at this ⊢;exact⟨by omega,by omega,this.2.2⟩
def HistAt(w:World)(b n:Nat)(F:Use->Nat):Prop:=
 ∃ D:DataW Unit,w.ownsMap Tryz.prog 240 (plainElem Tryz.prog 3) b n D/\∀ u,smallU u->D.atKey (useL u) (.lit (.int .i64 0))= .lit (.int .i64 (F u))
theorem HistAt.made(w:World):HistAt (w.alloc (.map #[] 0)) w.heap.size 0 (fun _=>0):=⟨.map [],World.ownsMap_made _ _ _ _,fun _ _=>rfl⟩
theorem HistAt.kept{w w':World}{b n:Nat}{F:Use->Nat}(h:HistAt w b n F)(d:w.grownBy w' none):HistAt w' b n F:=by
 obtain⟨D,a,c⟩:=h;exact⟨D,a.kept d (by simp),c⟩
theorem HistAt.lt{w:World}{b n:Nat}{F:Use->Nat}(h:HistAt w b n F):b<w.heap.size:=by
 obtain⟨D,a,h2⟩:=h;exact a.lt
theorem HistAt.look{w:World}{b n:Nat}{F:Use->Nat}(h:HistAt w b n F){u:Use}(d:smallU u):
  (Instr.lookup 205 (.map (some b)) (useV u) false).run Tryz.prog w= .ok (.int .i64 (F u)) w:=by
 obtain⟨D,e,f⟩:=h;obtain⟨c,i,a,_⟩:=e.lookup_int qU Tryz.underlying205 Tryz.underlying3 (zF w) (od d);rw [f u d]at a;simp at a;rw [i,<-a]
def putF(F:Use->Nat)(u:Use)(x:Nat):Use->Nat:=fun v=>if v=u then x else F v
theorem HistAt.put{w:World}{b n:Nat}{F:Use->Nat}(h:HistAt w b n F){u:Use}(c:smallU u){x:Nat}(k:x<=1000000)(hn:n<=1000000):
  ∃ w',(Instr.mapUpdate 205 (.map (some b)) (useV u) (.int .i64 (x:Int))).run Tryz.prog w= .ok () w'/\HistAt w' b (n+1) (putF F u x)/\w.grownBy w' (some b):=by
 obtain⟨D,a,d⟩:=h;obtain⟨w',j,i,f⟩:=a.update qU Tryz.underlying205 (by unfold maxLen;omega) (od c) (plainElem_int Tryz.underlying3 (pq k));refine⟨w',j,⟨_,i,fun v hv=>?_⟩,f⟩;unfold putF;by_cases e:v=u
 ·subst e;rw [if_pos rfl];refine atKey_put_same ?_ ?_ _ _
  ·obtain⟨es,_,_,_,_,rfl⟩:=a;exact⟨_,rfl⟩
  ·exact trivial
 ·rw [if_neg e,atKey_put_other (fun e2=>e (zy hv c e2))];exact d v hv
end
section
open Go.RowKit Go.Maps
attribute [local go_sem] Go.World.cell?_alloc_some
def UsesAt(w:World)(v:Value)(us:List Use):Prop:=
 ∃ g cap,v= .slice (some ⟨g,0,none⟩) us.length cap/\g<w.heap.size/\∀ k (hk:k<us.length),w.cell? ⟨g,k*3,none⟩=some (.int .i64 (us[k].1:Int))/\w.cell? ⟨g,k*3+1,none⟩=some (.int .i64 (us[k].2.1:Int))/\w.cell? ⟨g,k*3+2,none⟩=some (.bool us[k].2.2)
theorem UsesAt.grown{w w':World}{v:Value}{f:List Use}(h:UsesAt w v f)(d:w.grownBy w' none):UsesAt w' v f:=by
 obtain⟨g,i,e,l,j⟩:=h;refine⟨g,i,e,Nat.lt_of_lt_of_le l d.size,fun k hk=>?_⟩;obtain⟨a,b,c⟩:=j k hk;exact⟨ip d _ _ a,ip d _ _ b,ip d _ _ c⟩
theorem zB{W:World}{t:TypeId}{g:Nat}{u:Use}(a:W.heap.size=g):UsesAt (W.alloc (.cells #[.int .i64 (u.1:Int),.int .i64 (u.2.1:Int),.bool u.2.2] t)) (.slice (some ⟨g,0,none⟩) 1 1) [u]:=by
 subst a;have h:=heap_alloc_new W (.cells #[.int .i64 (u.1:Int),.int .i64 (u.2.1:Int),.bool u.2.2] t);refine⟨W.heap.size,1,rfl,by simp,fun k hk=>?_⟩;have b:k=0:=by simp at hk;omega
 subst b;simp only [World.cell?,h];exact⟨rfl,rfl,rfl⟩
theorem mX{W:World}{t:TypeId}{g:Nat}{u v:Use}(a:W.heap.size=g):UsesAt (W.alloc (.cells #[.int .i64 (u.1:Int),.int .i64 (u.2.1:Int),.bool u.2.2,.int .i64 (v.1:Int),.int .i64 (v.2.1:Int),.bool v.2.2] t)) (.slice (some ⟨g,0,none⟩) 2 2) [u,v]:=by
 subst a;have h:=heap_alloc_new W (.cells #[.int .i64 (u.1:Int),.int .i64 (u.2.1:Int),.bool u.2.2,.int .i64 (v.1:Int),.int .i64 (v.2.1:Int),.bool v.2.2] t);refine⟨W.heap.size,2,rfl,by simp,fun k hk=>?_⟩;have b:k=0\/k=1:=by simp at hk;omega
 rcases b with rfl | rfl
 ·simp only [World.cell?,h];exact⟨rfl,rfl,rfl⟩
 ·simp only [World.cell?,h];exact⟨rfl,rfl,rfl⟩
theorem zA(t:Nat)(i:Ins)(w:World)(k:0<=i.a)(l:0<=i.b):
  Calls Tryz.prog 124 #[.int .i64 (t:Int),.agg #[.int .i64 i.op,.int .i64 i.a,.int .i64 i.b,.int .i64 i.n]] w fun e w'=>∃ v,e= .returned v/\UsesAt w' v (usesI t i)/\w.grownBy w' none:=by
 obtain⟨op,a,b,n⟩:=i;obtain⟨a,rfl⟩:=Int.eq_ofNat_of_zero_le k;obtain⟨b,rfl⟩:=Int.eq_ofNat_of_zero_le l;simp only;have d:Hid (∀ x y z,w.grownBy (((w.alloc x).alloc y).alloc z) none):=fun x y z=>iq (iq (iq (ir _ _)))
 by_cases j:op=9\/op=10
 ·have c:Hid (usesI t ⟨op,a,b,n⟩=[(0,t,true),(2,a,true)]):=by unfold Hid usesI;simp [j]
  rcases j with rfl | rfl
  ·go_enter Tryz.func124,Tryz.ntmps124
   go_wp2_with fail
   go_ret;exact⟨_,rfl,by rw [c.out];exact mX (u:=(0,t,true)) (v:=(2,a,true)) (by simp),d.out _ _ _⟩
  ·go_enter Tryz.func124,Tryz.ntmps124
   go_wp2_with fail
   go_ret;exact⟨_,rfl,by rw [c.out];exact mX (u:=(0,t,true)) (v:=(2,a,true)) (by simp),d.out _ _ _⟩
 ·by_cases f:op=2
  ·have c:Hid (usesI t ⟨op,a,b,n⟩=[(0,t,true),(1,b,false)]):=by unfold Hid usesI;simp [f]
   subst f;go_enter Tryz.func124,Tryz.ntmps124
   go_wp2_with fail
   go_ret;exact⟨_,rfl,by rw [c.out];exact mX (u:=(0,t,true)) (v:=(1,b,false)) (by simp),d.out _ _ _⟩
  ·by_cases h:op=3
   ·have c:Hid (usesI t ⟨op,a,b,n⟩=[(0,t,true),(1,a,true)]):=by unfold Hid usesI;simp [h]
    subst h;go_enter Tryz.func124,Tryz.ntmps124
    go_wp2_with fail
    go_ret;exact⟨_,rfl,by rw [c.out];exact mX (u:=(0,t,true)) (v:=(1,a,true)) (by simp),d.out _ _ _⟩
   ·have c:Hid (usesI t ⟨op,a,b,n⟩=[(0,t,true)]):=by unfold Hid usesI;simp [j,f,h]
    have e2:(op==2)=false:=by simpa using f
    have e3:(op==3)=false:=by simpa using h
    have e9:(op==9)=false:=by simp;omega
    have e10:(op==10)=false:=by simp;omega
    clear j f h;go_enter Tryz.func124,Tryz.ntmps124
    go_wp2_with fail
    go_ret;exact⟨_,rfl,by rw [c.out];exact zB (u:=(0,t,true)) (by simp),d.out _ _ _⟩
theorem my(F:Use->Nat)(hF:∀ u,F u<=1000):∀ (us:List Use) (n:Nat),n<=1000->aheadS F us n<=1000
 | [],n,h=>h
 | u::r,n,h=>by
  unfold aheadS;have h1:=hF (u.1,u.2.1,true);have h2:=hF (u.1,u.2.1,false);exact my F hF r _ (by split<;>omega)
theorem zK{w:World}{b n:Nat}{F:Use->Nat}(B:HistAt w b n F)(A:∀ u,F u<=1000)(a:List Use)(C:∀ u∈a,smallU u)(v:Value)(I:UsesAt w v a)(hl:a.length<=10):
  Calls Tryz.prog 125 #[.map (some b),v] w fun e w'=>e= .returned (.int .i64 (aheadS F a 0:Nat))/\w.grownBy w' none:=by
 obtain⟨g,cap,rfl,hg,hc⟩:=I;have s:=ij B;have r:=ij A;have H:=ij C;have E:=ij hc;have hl':(a.length:Int)<=10:=by omega
 clear B A C hc;go_enter Tryz.func125,Tryz.ntmps125
 go_wp2_with fail
 go_loopw [5,10] (fun x i w'=>∃ k m:Nat,k<=a.length/\i= .int .i64 k/\x= .int .i64 m/\m<=1000/\Hid (w.grownBy w' none)/\Hid (aheadS F a 0=aheadS F (a.drop k) m)) (fun _ i _=>a.length - (intOf i).toNat)
 case atStart=>exact⟨0,0,Nat.zero_le _,rfl,rfl,by omega,ir _ _,rfl⟩
 case round=>
  obtain⟨k,m,hk,rfl,rfl,hm,c,l⟩:=hrel;obtain⟨d,D⟩:∃ d,d=wr:=⟨_,rfl⟩;rw [<-D]at c ⊢;clear D;by_cases o:k<a.length
  ·obtain⟨c0,c1,z⟩:=E.out k o;have d0:=ip c.out _ _ c0;have d1:=ip c.out _ _ c1;have d2:=ip c.out _ _ z;have f:Hid (aheadS F a 0=aheadS F (a.drop (k+1)) (if a[k].2.2=true then max (max m (F (a[k].1,a[k].2.1,true))) (F (a[k].1,a[k].2.1,false)) else max m (F (a[k].1,a[k].2.1,true)))):=by
    unfold Hid;rw [l.out,List.drop_eq_getElem_cons o,aheadS]
   have p:=H.out _ (List.getElem_mem o);have y:Hid (∀ u,d.grownBy u none->(Instr.lookup 205 (.map (some b)) (.agg #[.int .i64 (a[k].1:Int),.int .i64 (a[k].2.1:Int),.bool true]) false).run Tryz.prog u= .ok (.int .i64 (F (a[k].1,a[k].2.1,true))) u):=fun u hu=>((s.out.kept c.out).kept hu).look (u:=(a[k].1,a[k].2.1,true)) p
   have t:Hid (∀ u,d.grownBy u none->(Instr.lookup 205 (.map (some b)) (.agg #[.int .i64 (a[k].1:Int),.int .i64 (a[k].2.1:Int),.bool false]) false).run Tryz.prog u= .ok (.int .i64 (F (a[k].1,a[k].2.1,false))) u):=fun u hu=>((s.out.kept c.out).kept hu).look (u:=(a[k].1,a[k].2.1,false)) p
   have hft:=r.out (a[k].1,a[k].2.1,true);have hff:=r.out (a[k].1,a[k].2.1,false);clear c0 c1 z p l;generalize a[k]=u at*;obtain⟨h,j,q⟩:=u;simp only at*;generalize F (h,j,true)=ft at*;generalize F (h,j,false)=ff at*;have k0:(0:Int)<=(k:Int):=by omega
   have k1:(k:Int)<a.length:=by omega
   have rt:=y.out (d.alloc (.cells #[.int .i64 (h:Int),.int .i64 (j:Int),.bool q] 240)) (iq (ir _ _));have rf:=t.out (d.alloc (.cells #[.int .i64 (h:Int),.int .i64 (j:Int),.bool q] 240)) (iq (ir _ _));clear y t;cases q
   ·simp only [Bool.false_eq_true,if_false]at f;go_wp2_with fail
    go_roundw
    case rel=>exact⟨k+1,max m ft,by omega,by go_num,by congr 1;(repeat' split)<;>omega,by omega,iq c.out,f⟩
    case measure=>simp [intOf];omega
   ·simp only [if_true]at f;go_wp2_with fail
    go_roundw
    case rel=>exact⟨k+1,max (max m ft) ff,by omega,by go_num,by congr 1;(repeat' split)<;>omega,by omega,iq c.out,f⟩
    case measure=>simp [intOf];omega
  ·have k1:(a.length:Int)<=(k:Int):=by omega
   have G:Hid (aheadS F a 0=m):=by
    unfold Hid;rw [l.out,List.drop_of_length_le (by omega)];rfl
   go_wp2_with fail
   go_ret;exact⟨by rw [G.out];rfl,c.out⟩
theorem HistAt.nocell{w:World}{b n:Nat}{F:Use->Nat}(h:HistAt w b n F)(o:Nat):w.cell? ⟨b,o,none⟩=none:=by
 obtain⟨D,⟨es,cl,a,_⟩,_⟩:=h;simp [World.cell?,a]
def enterF(x:Nat):List Use->(Use->Nat)->Use->Nat
 | [],F=>F
 | u::r,F=>enterF x r (putF F u (max (F u) x))
theorem nb(x:Nat):∀ (us:List Use) (F:Use->Nat) (v:Use),enterF x us F v=if v∈us then max (F v) x else F v
 | [],F,v=>by simp [enterF]
 | u::r,F,v=>by
  unfold enterF;rw [nb x r];unfold putF;by_cases e:v=u
  ·subst e;simp
  ·simp [e]
theorem sf(x:Nat)(b:List Use)(u:Use)(F:Use->Nat):enterF x (b++[u]) F=putF (enterF x b F) u (max (enterF x b F u) x):=by
 induction b generalizing F with
 | nil=>rfl
 | cons a r ih=>simp only [List.cons_append,enterF];exact ih _
theorem Aa{w:World}{b n:Nat}{F:Use->Nat}(B:HistAt w b n F)(I:∀ u,F u<=1000)(hn:n<=100000)(a:List Use)(Q:∀ u∈a,smallU u)(v:Value)(hU:UsesAt w v a)(hl:a.length<=10)(c:Nat)(hla:c<=900):
  Calls Tryz.prog 126 #[.map (some b),v,.int .i64 (c:Int)] w fun e w'=>(∃ v,e= .returned v)/\HistAt w' b (n+a.length) (enterF (c+1) a F)/\w.grownBy w' (some b):=by
 obtain⟨g,cap,rfl,hg,hc⟩:=hU;have D:=ij B;have W:=ij I;have HS:=ij Q;have U:=ij hc;have hl':(a.length:Int)<=10:=by omega
 have hla':(c:Int)<=900:=by omega
 have hla0:(0:Int)<=(c:Int):=by omega
 have hbw:=B.lt;clear B I Q hc;go_enter Tryz.func126,Tryz.ntmps126
 go_wp2_with fail
 go_loopw [10] (fun i w'=>∃ k:Nat,k<=a.length/\i= .int .i64 k/\Hid (HistAt w' b (n+k) (enterF (c+1) (a.take k) F))/\Hid (w.grownBy w' (some b))) (fun i _=>a.length - (intOf i).toNat)
 case atStart=>exact⟨0,Nat.zero_le _,rfl,D,ir _ _⟩
 case round=>
  obtain⟨k,hk,rfl,t,s⟩:=hrel;obtain⟨d,R⟩:∃ d,d=wr:=⟨_,rfl⟩;rw [<-R]at t s ⊢;clear R;by_cases C:k<a.length
  ·obtain⟨c0,c1,H⟩:=U.out k C;have ah:g≠b:=fun e=>by
    have:=D.out.nocell (k*3);rw [<-e,c0]at this;cases this
   have z:=s.out.block g hg (by simpa using ah);have d0:d.cell? ⟨g,k*3,none⟩=some (.int .i64 (a[k].1:Int)):=by rw [World.cell?_of_block z];exact c0
   have d1:d.cell? ⟨g,k*3+1,none⟩=some (.int .i64 (a[k].2.1:Int)):=by rw [World.cell?_of_block z];exact c1
   have d2:d.cell? ⟨g,k*3+2,none⟩=some (.bool a[k].2.2):=by rw [World.cell?_of_block z];exact H
   have O:=HS.out _ (List.getElem_mem C);have E:Hid (enterF (c+1) (a.take (k+1)) F=putF (enterF (c+1) (a.take k) F) a[k] (max (enterF (c+1) (a.take k) F a[k]) (c+1))):=by
    unfold Hid;rw [List.take_succ_eq_append_getElem C,sf]
   have hfx:enterF (c+1) (a.take k) F a[k]<=1000:=by
    rw [nb];have:=W.out a[k];split<;>omega
   have hbw5:=t.out.lt;clear c0 c1 H z;generalize a[k]=u at*;obtain⟨p,q,r⟩:=u;simp only at d0 d1 d2;generalize enterF (c+1) (a.take k) F=G at*;generalize K:G (p,q,r)=fv at*;have X:=ij K;clear K;have k0:(0:Int)<=(k:Int):=by omega
   have k1:(k:Int)<a.length:=by omega
   have A:Hid (HistAt (d.alloc (.cells #[.int .i64 (p:Int),.int .i64 (q:Int),.bool r] 240)).drew b (n+k) G):=t.out.kept (iy (iq (ir _ _)));obtain⟨T,P,J,L⟩:=A.out.put (u:=(p,q,r)) O (x:=max fv (c+1)) (by omega) (by omega);have Z:Hid (HistAt T b (n+(k+1)) (enterF (c+1) (a.take (k+1)) F)):=by
    unfold Hid;rw [E.out];exact J
   have Y:Hid (w.grownBy T (some b)):=il s.out (il (iy (iq (ir _ _))) L);have M:(if (fv:Int)<(c:Int)+1 then ((c:Int)+1) else (fv:Int))=((max fv (c+1):Nat):Int):=by split<;>omega
   clear J L E;have y:(d.alloc (.cells #[.int .i64 (p:Int),.int .i64 (q:Int),.bool r] 240)).drew.heap[d.heap.size]?=some (.cells #[.int .i64 (p:Int),.int .i64 (q:Int),.bool r] 240):=heap_alloc_new d _;go_upto_region 3 with fail
   refine iz (fun u=>(u.cell? ⟨d.heap.size,0,none⟩=some (.int .i64 (p:Int))/\u.cell? ⟨d.heap.size,1,none⟩=some (.int .i64 (q:Int))/\u.cell? ⟨d.heap.size,2,none⟩=some (.bool r))/\HistAt u b (n+k) G) 8 (by kernel_rfl) (by kernel_rfl) ⟨⟨by simp only [World.cell?,y];rfl,by simp only [World.cell?,y];rfl,by simp only [World.cell?,y];rfl⟩,A.out⟩ ?_;intro j;have S:IntKind.i64.wrap ((c:Int)+1)=(c:Int)+1:=by rw [IntKind.wrap_i64];omega
   refine ie 0 ?va0 rfl (by kernel_rfl) (fun _ _ _ h=>h) (by rfl) ?ya0 j ?_
   case ya0=>(rintro u ⟨⟨l,m,o⟩,f⟩;go_simp;try rfl)
   simp only [Act.put,List.setIfInBounds_toArray];refine ie 1 ?va1 rfl (by kernel_rfl) (fun _ _ _ h=>h) (by rfl) ?ya1 j ?_
   case ya1=>(rintro u ⟨⟨l,m,o⟩,f⟩;go_simp;try rfl)
   simp only [Act.put];refine ie 2 ?va2 rfl (by kernel_rfl) (fun _ _ _ h=>h) (by rfl) ?ya2 j ?_
   case ya2=>(rintro u ⟨⟨l,m,o⟩,f⟩;go_simp;try rfl)
   simp only [Act.put];refine ie 3 ?va3 rfl (by kernel_rfl) (fun _ _ _ h=>h) (by rfl) ?ya3 j ?_
   case ya3=>(rintro u ⟨⟨l,m,o⟩,f⟩;go_simp;try rfl)
   simp only [Act.put];refine jr (i:=4) (v:= .int .i64 (fv:Int)) rfl (by kernel_rfl) (fun _ _ _ h=>h) (Or.inl ⟨by rfl,?ya4⟩) j ?resta4
   case ya4=>(rintro u ⟨⟨l,m,o⟩,f⟩;have N:=f.look (u:=(p,q,r)) O;rw [X.out]at N;unfold useV at N;clear f;go_simp)
   simp only [Act.put];refine ie 5 ?va5 rfl (by kernel_rfl) (fun _ _ _ h=>h) (by rfl) ?ya5 j ?_
   case ya5=>(rintro u ⟨⟨l,m,o⟩,f⟩;go_simp;try rfl)
   simp only [Act.put];refine jr (i:=6) (v:= .int .i64 ((c:Int)+1)) rfl (by kernel_rfl) (fun _ _ _ h=>h) (Or.inl ⟨by rfl,?ya6⟩) j ?resta6
   case ya6=>(rintro u ⟨⟨l,m,o⟩,f⟩;go_simp;try rw [S])
   simp only [Act.put];refine jr (i:=7) (v:= .int .i64 ((max fv (c+1):Nat):Int)) rfl (by kernel_rfl) (fun _ _ _ h=>h) (Or.inl ⟨by rfl,?ya7⟩) j ?resta7
   case ya7=>(rintro u ⟨⟨l,m,o⟩,f⟩;clear f;go_simp;try rw [M])
   simp only [Act.put];refine iF rfl (by kernel_rfl) (by kernel_rfl) (by rfl) ?_;unfold useV at P;go_simp;clear j P A S M y;go_wp2_with fail
   go_roundw
   case rel=>exact⟨k+1,by omega,by go_num,Z,Y⟩
   case measure=>simp [intOf];omega
  ·have k1:(a.length:Int)<=(k:Int):=by omega
   have ek:k=a.length:=by omega
   have V:Hid (HistAt d b (n+a.length) (enterF (c+1) a F)):=by
    have:=t.out;rwa [List.take_of_length_le (by omega),ek]at this
   go_wp2_with fail
   go_end0
   exact⟨⟨_,rfl⟩,V.out,s.out⟩
end
section
theorem nN(p:List (List Ins))(q:Ev × Nat)(u:Nat × Nat × Bool):∀ L,histOf p (L++[q]) u=if u∈usesE p q.1 then max (histOf p L u) (q.2+1) else histOf p L u
 | []=>by simp [histOf]
 | y::r=>by
  simp only [List.cons_append,histOf,nN p q u r];split<;>split<;>omega
theorem nM(q:Ev × Nat):∀ L,highOf (L++[q])=max (highOf L) (q.2+1)
 | []=>by simp [highOf]
 | y::r=>by
  simp only [List.cons_append,highOf,nM q r];omega
theorem vZ(p:List (List Ins))(xs:List Ev)(u:Nat × Nat × Bool):histOf p (tl (depE p) [] xs) u<=xs.length:=by
 rw [j3];intro q b _;obtain⟨j,a,rfl⟩:=List.getElem_of_mem b;have:=lC (depE p) xs [] 0 (by simp) j _ (List.getElem?_eq_getElem a);rw [iX]at a;omega
theorem vY(p:List (List Ins))(xs:List Ev):highOf (tl (depE p) [] xs)<=xs.length:=by
 have key:∀ (L:List (Ev × Nat)) (n:Nat),(∀ q∈L,q.2+1<=n)->highOf L<=n:=by
  intro L n;induction L with
  | nil=>simp [highOf]
  | cons y r ih=>
   intro h;unfold highOf;have h1:=h y (List.mem_cons_self ..);have h2:=ih (fun q a=>h q (List.mem_cons_of_mem _ a));omega
 apply key;intro q a;obtain⟨j,b,rfl⟩:=List.getElem_of_mem a;have:=lC (depE p) xs [] 0 (by simp) j _ (List.getElem?_eq_getElem b);rw [iX]at b;omega
theorem BK(p:List (List Ins))(xs:List Ev)(x:Ev):layIn (depE p) (tl (depE p) [] xs) x<=xs.length:=by
 apply mN;intro q b _;obtain⟨j,a,rfl⟩:=List.getElem_of_mem b;have:=lC (depE p) xs [] 0 (by simp) j _ (List.getElem?_eq_getElem a);rw [iX]at a;omega
structure Stood(p:List (List Ins))(o:Out)(xs:List Ev):Prop where
 ev:evsOf o=xs
 st:o.steps=xs.map Ev.pr
 th:∀ e∈xs,e.t<p.length/\0<=e.k/\e.k<(codeOf p e.t).length
 gd:∀ i (hi:i<xs.length),xs[i].bad=(decide (o.kind=1) && decide (i+1=xs.length))
theorem ph{p:List (List Ins)}(c:vProg p=true):∀ (xs:List Ev) (s a:St),Inv p s->RunE p s xs a->∀ e∈xs,e.t<p.length/\0<=e.k/\e.k<(codeOf p e.t).length
 | [],_,_,_,_,e,he=>by cases he
 | x::r,s,a,hI,⟨hx,hr⟩,e,he=>by
  obtain⟨h1,h2,h3,h4⟩:=hx;have hd:doneB p s x.t=false:=by
   cases hd:doneB p s x.t with
   | false=>rfl
   | true=>simp [readyB,hd]at h2
  rcases List.mem_cons.1 he with he | he
  ·subst he;have b:=hI e.t h1;have d:s.next e.t≠((codeOf p e.t).length:Int):=by simpa [doneB]using hd
   rw [h3]at b d;exact⟨h1,b.1,by omega⟩
  ·exact ph c r _ a (Inv.step c hI h1 hd) hr e he
theorem kZ{p:List (List Ins)}(h:vProg p=true)(s:List Int):∃ xs,Stood p (runS p s) xs:=by
 have hc:=kr p s 0 St.zero [];change ∃ xs a,RunE p St.zero xs a/\(runS p s).steps=[]++xs.map Ev.pr/\(runS p s).st=a/\((good xs/\xs.map Ev.tI=s/\(runS p s).kind=endingS p a/\(runS p s).thread=0/\(runS p s).at_=0)\/(good xs/\(∃ u r,s=xs.map Ev.tI++u::r/\okAt p a u=false)/\(runS p s).kind=2/\(runS p s).thread=0/\(runS p s).at_=0+xs.length)\/(∃ ys z r,xs=ys++[z]/\good ys/\z.bad=true/\s=xs.map Ev.tI++r/\(runS p s).kind=1/\(runS p s).thread=z.tI/\(runS p s).at_=z.k))at hc
 obtain⟨xs,a,j,b,hst,hc⟩:=hc;rw [List.nil_append]at b;have f:=ph h xs St.zero a (Inv.zero p) j;refine⟨xs,?_⟩;have c:good xs->(runS p s).kind≠1->Stood p (runS p s) xs:=fun g hk=>by
  refine⟨tM hk b g,b,f,fun i hi=>?_⟩;rw [g _ (List.getElem_mem hi)];simp [hk]
 rcases hc with ⟨g1,_,g3,_⟩ | ⟨g1,_,g3,_⟩ | ⟨us,z,r,g1,g2,g3,_,g5,_⟩
 ·exact c g1 (by have:=l9 p a;omega)
 ·exact c g1 (by omega)
 ·subst g1;refine⟨vP g5 b g2 g3,b,f,fun i hi=>?_⟩;by_cases e:i=us.length
  ·subst e;simp [g3,g5]
  ·have d:i<us.length:=by simp at hi;omega
   rw [List.getElem_append_left d,g2 _ (List.getElem_mem d)];simp;intro _;omega
theorem yA{p:List (List Ins)}{o:Out}{xs:List Ev}(h:Stood p o xs){i:Nat}(d:i<xs.length):
  layIn (depE p) (tl (depE p) [] (xs.take i)) xs[i]=if o.kind=1/\i+1=xs.length then highOf (tl (depE p) [] (xs.take i)) else aheadS (histOf p (tl (depE p) [] (xs.take i))) (usesE p xs[i]) 0:=by
 have a:=h.gd i d;by_cases e:o.kind=1/\i+1=xs.length
 ·rw [if_pos e,ye p (by rw [a];simp [e])]
 ·rw [if_neg e,vn p (by rw [a];simp;omega)];intro q n;have m:q.1∈xs.take i:=by
   have c:q.1∈(tl (depE p) [] (xs.take i)).map (·.1):=List.mem_map.2 ⟨q,n,rfl⟩;rwa [pm]at c
  obtain⟨j,f,k⟩:=List.getElem_of_mem m;have hj':j<i:=by simp at f;omega
  have l:j<xs.length:=by omega
  have b:q.1=xs[j]:=by rw [<-k];simp
  rw [b,h.gd j l];simp;intro _;omega
theorem qg{p:List (List Ins)}{xs:List Ev}{i:Nat}(a:i<xs.length):tl (depE p) [] (xs.take (i+1))=tl (depE p) [] (xs.take i)++[(xs[i],layIn (depE p) (tl (depE p) [] (xs.take i)) xs[i])]:=by
 rw [List.take_succ_eq_append_getElem a,Bg]
end
end Go.Proofs.YtklenjmfalljgabGreatDoor
