/- The texts Pure PureB PureC Frm Frn Fro Frr Frs Rfm Frt Frq TxtP TxtQ TxtR Crc. -/
import Derived.RowKit
namespace Go.Proofs.YtklenjmfalljgabGreatDoor
set_option maxRecDepth 100000
set_option maxHeartbeats 8000000
section
open Go.RowKit (wrap64)
structure Ins where
 op:Int
 a:Int
 b:Int
 n:Int
structure St where
 vars:Nat->Int
 held:Nat->Bool
 own:Nat->Int
 regs:Nat->Nat->Int
 next:Nat->Int
def St.zero:St:=⟨fun _=>0,fun _=>false,fun _=>0,fun _ _=>0,fun _=>0⟩
def St.setReg(s:St)(t r:Nat)(v:Int):St:=⟨s.vars,s.held,s.own,fun t' r'=>if t'=t/\r'=r then v else s.regs t' r',s.next⟩
def St.setVar(s:St)(x:Nat)(v:Int):St:=⟨fun x'=>if x'=x then v else s.vars x',s.held,s.own,s.regs,s.next⟩
def St.setNext(s:St)(t:Nat)(v:Int):St:=⟨s.vars,s.held,s.own,s.regs,fun t'=>if t'=t then v else s.next t'⟩
def St.setLock(s:St)(l:Nat)(h:Bool)(o:Int):St:=⟨s.vars,fun l'=>if l'=l then h else s.held l',fun l'=>if l'=l then o else s.own l',s.regs,s.next⟩
def act(t:Nat)(i:Ins)(s:St):Bool × St:=
 if i.op=1 then (true,s.setReg t i.a.toNat i.n)
 else if i.op=2 then (true,s.setReg t i.a.toNat (s.vars i.b.toNat))
 else if i.op=3 then (true,s.setVar i.a.toNat (s.regs t i.b.toNat))
 else if i.op=4 then (true,s.setReg t i.a.toNat (wrap64 (s.regs t i.a.toNat+s.regs t i.b.toNat)))
 else if i.op=5 then (true,s.setReg t i.a.toNat (wrap64 (s.regs t i.a.toNat - s.regs t i.b.toNat)))
 else if i.op=6 then (true,s.setReg t i.a.toNat (wrap64 (s.regs t i.a.toNat*s.regs t i.b.toNat)))
 else if i.op=7 then (if s.regs t i.b.toNat=0 then (false,s) else (true,s.setReg t i.a.toNat (wrap64 ((s.regs t i.a.toNat).tdiv (s.regs t i.b.toNat)))))
 else if i.op=8 then (true,if s.regs t i.a.toNat=0 then s.setNext t i.n else s)
 else if i.op=9 then (true,s.setLock i.a.toNat true t)
 else if i.op=10 then (if s.held i.a.toNat=true/\s.own i.a.toNat=t then (true,s.setLock i.a.toNat false 0) else (false,s))
 else (s.regs t i.a.toNat !=0,s)
def shp(op j:Nat):Int:=
 ((([[0,0,0],[1,0,5],[1,2,0],[2,1,0],[1,1,0],[1,1,0],[1,1,0],[1,1,0],[1,0,4],[3,0,0],[3,0,0],[1,0,0]]:List (List Int))[op]?).getD [])[j]?.getD 0
def belowB(x n:Int):Bool:=decide (0<=x) && decide (x<n)
def fitsB(k x len:Int):Bool:=
 if k=1 then belowB x 4 else if k=2 then belowB x 4 else if k=3 then belowB x 3 else if k=4 then belowB x (len+1) else if k=5 then true else (x==0)
def vIns(i:Ins)(len:Int):Bool:=
 decide (1<=i.op) && (decide (i.op<=11) && (fitsB (shp i.op.toNat 0) i.a len && (fitsB (shp i.op.toNat 1) i.b len && fitsB (shp i.op.toNat 2) i.n len)))
def vCode(c:List Ins):Bool:=decide (c.length<=16) && c.all fun i=>vIns i c.length
def vProg(p:List (List Ins)):Bool:=decide (1<=p.length) && (decide (p.length<=4) && p.all vCode)
def codeOf(p:List (List Ins))(t:Nat):List Ins:=(p[t]?).getD []
def insAt(p:List (List Ins))(t:Nat)(k:Int):Ins:=((codeOf p t)[k.toNat]?).getD ⟨0,0,0,0⟩
def doneB(p:List (List Ins))(s:St)(t:Nat):Bool:=s.next t==((codeOf p t).length:Int)
def readyB(p:List (List Ins))(s:St)(t:Nat):Bool:=!doneB p s t && (!((insAt p t (s.next t)).op==9) || !s.held (insAt p t (s.next t)).a.toNat)
def stepS(p:List (List Ins))(s:St)(t:Nat):Bool × St:=act t (insAt p t (s.next t)) (s.setNext t (s.next t+1))
def endingS(p:List (List Ins))(s:St):Int:=
 if (List.range p.length).any (readyB p s) then 5 else if (List.range p.length).all (doneB p s) then 3 else 4
def okAt(p:List (List Ins))(s:St)(t:Int):Bool:=belowB t p.length && readyB p s t.toNat
structure Out where
 steps:List (Int × Int)
 kind:Int
 thread:Int
 at_:Int
 st:St
def follow(p:List (List Ins)):List Int->Int->St->List (Int × Int)->Out
 | [],_,s,acc=>⟨acc,endingS p s,0,0,s⟩
 | t::r,i,s,acc=>
  if okAt p s t=true then
   (if (stepS p s t.toNat).1=true then follow p r (i+1) (stepS p s t.toNat).2 (acc++[(t,s.next t.toNat)])
    else ⟨acc++[(t,s.next t.toNat)],1,t,s.next t.toNat,(stepS p s t.toNat).2⟩)
  else ⟨acc,2,0,i,s⟩
def runS(p:List (List Ins))(sch:List Int):Out:=follow p sch 0 St.zero []
def Inv(p:List (List Ins))(s:St):Prop:=∀ t,t<p.length->0<=s.next t/\s.next t<=(codeOf p t).length
theorem Inv.zero(p:List (List Ins)):Inv p St.zero:=fun t _=>⟨by simp [St.zero],by simp [St.zero]⟩
theorem rN{i:Ins}{len:Int}(h:vIns i len=true):1<=i.op/\i.op<=11:=by
 simp only [vIns,Bool.and_eq_true,decide_eq_true_eq]at h;exact⟨h.1,h.2.1⟩
theorem pn{i:Ins}{len:Int}(h:vIns i len=true):fitsB (shp i.op.toNat 0) i.a len=true/\fitsB (shp i.op.toNat 1) i.b len=true/\fitsB (shp i.op.toNat 2) i.n len=true:=by
 simp only [vIns,Bool.and_eq_true,decide_eq_true_eq]at h;exact h.2.2
theorem lJ{i:Ins}{len:Int}(h:vIns i len=true):
  (i.op=1/\0<=i.a/\i.a<4)\/(i.op=2/\0<=i.a/\i.a<4/\0<=i.b/\i.b<4)\/(i.op=3/\0<=i.a/\i.a<4/\0<=i.b/\i.b<4)\/
  (i.op=4/\0<=i.a/\i.a<4/\0<=i.b/\i.b<4)\/(i.op=5/\0<=i.a/\i.a<4/\0<=i.b/\i.b<4)\/(i.op=6/\0<=i.a/\i.a<4/\0<=i.b/\i.b<4)\/
  (i.op=7/\0<=i.a/\i.a<4/\0<=i.b/\i.b<4)\/(i.op=8/\0<=i.a/\i.a<4/\0<=i.n/\i.n<len+1)\/(i.op=9/\0<=i.a/\i.a<3)\/(i.op=10/\0<=i.a/\i.a<3)\/(i.op=11/\0<=i.a/\i.a<4):=by
 obtain⟨h1,h2⟩:=rN h;obtain⟨c,d,f⟩:=pn h;have hc:i.op=1\/i.op=2\/i.op=3\/i.op=4\/i.op=5\/i.op=6\/i.op=7\/i.op=8\/i.op=9\/i.op=10\/i.op=11:=by omega
 rcases hc with e | e | e | e | e | e | e | e | e | e | e<;>rw [e]at c d f<;>simp [shp,fitsB,belowB]at c d f<;>simp [e]<;>omega
theorem xr(t:Nat)(i:Ins)(s:St)(b:Nat):(act t i s).2.next b=s.next b\/(b=t/\i.op=8/\(act t i s).2.next b=i.n):=by
 by_cases c:i.op=8
 ·have e:act t i s=(true,if s.regs t i.a.toNat=0 then s.setNext t i.n else s):=by simp [act,c]
  rw [e];by_cases d:s.regs t i.a.toNat=0
  ·simp only [d,if_true,St.setNext];by_cases f:b=t
   ·right;simp [f,c]
   ·left;simp [f]
  ·left;simp [d]
 ·left
  unfold act;repeat' split
  all_goals first | rfl | (exfalso;exact c ‹_›)
theorem kC{p:List (List Ins)}{t:Nat}(h:t<p.length):codeOf p t=p[t]:=by simp [codeOf,h]
theorem jf{p:List (List Ins)}(h:vProg p=true){t:Nat}(a:t<p.length):vCode (codeOf p t)=true:=by
 simp only [vProg,Bool.and_eq_true,List.all_eq_true]at h;rw [kC a];exact h.2.2 _ (List.getElem_mem a)
theorem iW{p:List (List Ins)}(h:vProg p=true):1<=p.length/\p.length<=4:=by
 simp only [vProg,Bool.and_eq_true,decide_eq_true_eq]at h;exact⟨h.1,h.2.1⟩
theorem jx{c:List Ins}(h:vCode c=true):c.length<=16:=by
 simp only [vCode,Bool.and_eq_true,decide_eq_true_eq]at h;exact h.1
theorem qy{c:List Ins}(h:vCode c=true){k:Nat}(a:k<c.length):vIns c[k] c.length=true:=by
 simp only [vCode,Bool.and_eq_true,List.all_eq_true]at h;exact h.2 _ (List.getElem_mem a)
theorem j4{p:List (List Ins)}{t:Nat}{k:Int}(h:k.toNat<(codeOf p t).length):insAt p t k=(codeOf p t)[k.toNat]:=by simp [insAt,h]
theorem jT{p:List (List Ins)}(h:vProg p=true){t:Nat}(b:t<p.length){k:Int}(a:k.toNat<(codeOf p t).length):vIns (insAt p t k) (codeOf p t).length=true:=by
 rw [j4 a];exact qy (jf h b) a
theorem Inv.step{p:List (List Ins)}{s:St}(k:vProg p=true)(h:Inv p s){t:Nat}(d:t<p.length)(f:doneB p s t=false):Inv p (stepS p s t).2:=by
 intro b l;have hn:=h t d;have j:=h b l;have hne:s.next t≠((codeOf p t).length:Int):=by simpa [doneB]using f
 have i:(s.next t).toNat<(codeOf p t).length:=by omega
 have m:=jT k d i;have c:∀ t'',t''=t->(codeOf p t'').length=(codeOf p t).length:=fun t'' e=>by rw [e]
 rcases xr t (insAt p t (s.next t)) (s.setNext t (s.next t+1)) b with e | ⟨e1,e2,e3⟩
 ·unfold stepS;rw [e];simp only [St.setNext]
  split
  ·rename_i e4;have:=c b e4;omega
  ·exact j
 ·unfold stepS;rw [e3]
  have:=lJ m;have hl:=c b e1;rcases this with h1 | h1 | h1 | h1 | h1 | h1 | h1 | h1 | h1 | h1 | h1<;>omega
theorem mn(p:List (List Ins))(i:Int)(s:St)(acc:List (Int × Int)):follow p [] i s acc=⟨acc,endingS p s,0,0,s⟩:=rfl
theorem jh(p:List (List Ins))(t:Int)(r:List Int)(i:Int)(s:St)(acc:List (Int × Int))(h:okAt p s t=false):follow p (t::r) i s acc=⟨acc,2,0,i,s⟩:=by simp [follow,h]
theorem kk(p:List (List Ins))(t:Int)(r:List Int)(i:Int)(s:St)(acc:List (Int × Int))(h:okAt p s t=true)(h2:(stepS p s t.toNat).1=false):
  follow p (t::r) i s acc=⟨acc++[(t,s.next t.toNat)],1,t,s.next t.toNat,(stepS p s t.toNat).2⟩:=by simp [follow,h,h2]
theorem kS(p:List (List Ins))(t:Int)(r:List Int)(i:Int)(s:St)(acc:List (Int × Int))(h:okAt p s t=true)(h2:(stepS p s t.toNat).1=true):
  follow p (t::r) i s acc=follow p r (i+1) (stepS p s t.toNat).2 (acc++[(t,s.next t.toNat)]):=by simp [follow,h,h2]
end
section
theorem l9(p:List (List Ins))(s:St):3<=endingS p s/\endingS p s<=5:=by
 unfold endingS;split
 ·omega
 ·split<;>omega
def Sched(p:List (List Ins))(a:List Int):Prop:=(runS p a).kind≠2/\(runS p a).steps.length=a.length
theorem lf(p:List (List Ins)):∀ (l:List Int) (i:Int) (s:St) (acc:List (Int × Int)),∃ m,m<=l.length/\(follow p l i s acc).steps.map (·.1)=acc.map (·.1)++l.take m/\acc.length+m=(follow p l i s acc).steps.length/\∃ more,(follow p l i s acc).steps=acc++more
 | [],i,s,acc=>⟨0,Nat.le_refl _,by simp [mn],by simp [mn],[],by simp [mn]⟩
 | t::r,i,s,acc=>by
  by_cases h1:okAt p s t=true
  ·by_cases h2:(stepS p s t.toNat).1=true
   ·rw [kS p t r i s acc h1 h2];obtain⟨m,q1,q2,q3,more,q4⟩:=lf p r (i+1) (stepS p s t.toNat).2 (acc++[(t,s.next t.toNat)]);refine⟨m+1,by simp;omega,by rw [q2];simp,by rw [<-q3];simp;omega,(t,s.next t.toNat)::more,by rw [q4];simp⟩
   ·have h3:(stepS p s t.toNat).1=false:=by simpa using h2
    rw [kk p t r i s acc h1 h3];exact⟨1,by simp,by simp,by simp,_,rfl⟩
  ·have h3:okAt p s t=false:=by simpa using h1
   rw [jh p t r i s acc h3];exact⟨0,by simp,by simp,by simp,[],by simp⟩
section
variable {α : Type} (d : α -> α -> Bool) (th : α -> Nat)
def layIn:List (α × Nat)->α->Nat
 | [],_=>0
 | y::r,x=>if d y.1 x=true then max (y.2+1) (layIn r x) else layIn r x
def tl:List (α × Nat)->List α->List (α × Nat)
 | _,[]=>[]
 | past,x::r=>(x,layIn d past x)::tl ((x,layIn d past x)::past) r
theorem qV(a b:List (α × Nat))(x:α):layIn d (a++b) x=max (layIn d a x) (layIn d b x):=by
 induction a with
 | nil=>simp [layIn]
 | cons y r ih=>
  simp only [List.cons_append,layIn,ih];split<;>omega
theorem ub{a b:List (α × Nat)}(h:a.Perm b)(x:α):layIn d a x=layIn d b x:=by
 induction h with
 | nil=>rfl
 | cons y _ ih=>simp only [layIn,ih]
 | swap y z l=>
  simp only [layIn];split<;>split<;>omega
 | trans _ _ ih1 ih2=>rw [ih1,ih2]
theorem Bf{a b:List (α × Nat)}(h:a.Perm b)(xs:List α):tl d a xs=tl d b xs:=by
 induction xs generalizing a b with
 | nil=>rfl
 | cons x r ih=>
  simp only [tl];rw [ub d h x,ih (h.cons _)]
theorem xe(past:List (α × Nat))(xs a:List α):tl d past (xs++a)=tl d past xs++tl d (tl d past xs++past) a:=by
 induction xs generalizing past with
 | nil=>simp [tl]
 | cons x r ih=>
  simp only [List.cons_append,tl];rw [ih];congr 2
  exact Bf d (by simp) a
theorem pm(past:List (α × Nat))(xs:List α):(tl d past xs).map (·.1)=xs:=by
 induction xs generalizing past with
 | nil=>rfl
 | cons x r ih=>simp only [tl,List.map_cons,ih]
theorem iX(past:List (α × Nat))(xs:List α):(tl d past xs).length=xs.length:=by
 have:=congrArg List.length (pm d past xs);simpa using this
theorem Bg(xs:List α)(x:α):tl d [] (xs++[x])=tl d [] xs++[(x,layIn d (tl d [] xs) x)]:=by
 rw [xe];simp [tl]
theorem yz{past:List (α × Nat)}{y:α × Nat}{x:α}(h:y∈past)(a:d y.1 x=true):y.2+1<=layIn d past x:=by
 induction past with
 | nil=>cases h
 | cons z r ih=>
  simp only [layIn];rcases List.mem_cons.1 h with h | h
  ·subst h;rw [if_pos a];omega
  ·have:=ih h;split<;>omega
theorem mN{past:List (α × Nat)}{x:α}{n:Nat}(h:∀ y∈past,d y.1 x=true->y.2+1<=n):layIn d past x<=n:=by
 induction past with
 | nil=>simp [layIn]
 | cons z r ih=>
  simp only [layIn];have a:=ih (fun y hy=>h y (List.mem_cons_of_mem _ hy));split
  ·have:=h z (List.mem_cons_self ..) ‹_›;omega
  ·exact a
def Eqv(xs ys:List α):Prop:=∀ R:List α->List α->Prop,(∀ a,R a a)->(∀ (a:List α) (x y:α) (b:List α),d x y=false->d y x=false->R (a++x::y::b) (a++y::x::b))->(∀ a b c,R a b->R b c->R a c)->R xs ys
variable {d}
theorem Eqv.refl(xs:List α):Eqv d xs xs:=fun _ h _ _=>h xs
theorem Eqv.swap(a:List α)(x y:α)(b:List α)(h1:d x y=false)(h2:d y x=false):Eqv d (a++x::y::b) (a++y::x::b):=fun _ _ h _=>h a x y b h1 h2
theorem Eqv.trans{xs ys zs:List α}(h:Eqv d xs ys)(h':Eqv d ys zs):Eqv d xs zs:=fun R h1 h2 h3=>h3 xs ys zs (h R h1 h2 h3) (h' R h1 h2 h3)
theorem Eqv.snoc{xs c:List α}(h:Eqv d xs c)(z:α):Eqv d (xs++[z]) (c++[z]):=by
 refine h (fun xs c=>Eqv d (xs++[z]) (c++[z])) (fun _=>Eqv.refl _) (fun a x y b h1 h2=>?_) (fun _ _ _ i1 i2=>i1.trans i2);simpa using Eqv.swap a x y (b++[z]) h1 h2
end
theorem pj:∀ {a b:List (Nat × Nat)},a.Perm b->a.Pairwise (fun x y=>x.1<y.1\/(x.1=y.1/\x.2<=y.2))->b.Pairwise (fun x y=>x.1<y.1\/(x.1=y.1/\x.2<=y.2))->a=b
 | [],b,h,_,_=>(List.nil_perm.1 h).symm
 | x::a,[],h,_,_=>absurd h.length_eq (by simp)
 | x::a,y::b,h,h1,h2=>by
  rw [List.pairwise_cons]at h1 h2;have e:x=y:=by
   have c:x∈y::b:=h.mem_iff.1 (List.mem_cons_self ..);have d:y∈x::a:=h.mem_iff.2 (List.mem_cons_self ..);rcases List.mem_cons.1 c with c | c
   ·exact c
   ·rcases List.mem_cons.1 d with d | d
    ·exact d.symm
    ·have k1:=h1.1 y d;have k2:=h2.1 x c;obtain⟨x1,x2⟩:=x;obtain⟨j,k⟩:=y;simp only at k1 k2;have f:x1=j:=by omega
     have i:x2=k:=by omega
     rw [f,i]
  subst e;rw [pj (List.perm_cons _ |>.1 h) h1.2 h2.2]
end
section
open Go.RowKit (wrap64)
def tou(i:Ins):Nat × Nat:=if i.op=9\/i.op=10 then (1,i.a.toNat) else if i.op=2 then (2,i.b.toNat) else if i.op=3 then (3,i.a.toNat) else (0,0)
def clash(x y:Nat × Nat):Bool:=x.1 !=0 && y.1 !=0 && x.2==y.2 && ((x.1==1)==(y.1==1)) && !(x.1==2 && y.1==2)
structure Ev where
 t:Nat
 k:Int
 bad:Bool
def depE(p:List (List Ins))(x y:Ev):Bool:=x.bad || y.bad || x.t==y.t || clash (tou (insAt p x.t x.k)) (tou (insAt p y.t y.k))
def goes(p:List (List Ins))(s:St)(x:Ev):Prop:=x.t<p.length/\readyB p s x.t=true/\s.next x.t=x.k/\(stepS p s x.t).1= !x.bad
def RunE(p:List (List Ins)):St->List Ev->St->Prop
 | s,[],s'=>s'=s
 | s,x::r,s'=>goes p s x/\RunE p (stepS p s x.t).2 r s'
theorem St.eq_of{s a:St}(b:s.vars=a.vars)(c:s.held=a.held)(d:s.own=a.own)(e:s.regs=a.regs)(f:s.next=a.next):s=a:=by
 cases s;cases a;simp at*;exact⟨b,c,d,e,f⟩
theorem RunE.append{p:List (List Ins)}:∀ {a b:List Ev} {s s':St},RunE p s (a++b) s'↔∃ s1,RunE p s a s1/\RunE p s1 b s'
 | [],b,s,s'=>by simp [RunE]
 | x::a,b,s,s'=>by
  simp only [List.cons_append,RunE,RunE.append (a:=a)];constructor
  ·rintro⟨h1,s1,h2,h3⟩;exact⟨s1,⟨h1,h2⟩,h3⟩
  ·rintro⟨s1,⟨h1,h2⟩,h3⟩;exact⟨h1,s1,h2,h3⟩
end
section
def Ev.tI(e:Ev):Int:=(e.t:Int)
def Ev.pr(e:Ev):Int × Int:=((e.t:Int),e.k)
def evG(x:Int × Int):Ev:=⟨x.1.toNat,x.2,false⟩
def evB(x:Int × Int):Ev:=⟨x.1.toNat,x.2,true⟩
def good(xs:List Ev):Prop:=∀ e∈xs,e.bad=false
def evsOf(o:Out):List Ev:=if o.kind=1 then o.steps.dropLast.map evG++(o.steps.getLast?.map evB).toList else o.steps.map evG
theorem BC{e:Ev}(h:e.bad=false):evG e.pr=e:=by cases e;simp [evG,Ev.pr]at*;exact h
theorem BA{e:Ev}(h:e.bad=true):evB e.pr=e:=by cases e;simp [evB,Ev.pr]at*;exact h
theorem uQ{xs:List Ev}(h:good xs):(xs.map Ev.pr).map evG=xs:=by
 induction xs with
 | nil=>rfl
 | cons x r ih=>
  simp only [List.map_cons];rw [BC (h x (List.mem_cons_self ..)),ih (fun e he=>h e (List.mem_cons_of_mem _ he))]
theorem tM{o:Out}{xs:List Ev}(a:o.kind≠1)(b:o.steps=xs.map Ev.pr)(h:good xs):evsOf o=xs:=by
 unfold evsOf;rw [if_neg a,b,uQ h]
theorem vP{o:Out}{a:List Ev}{z:Ev}(b:o.kind=1)(c:o.steps=(a++[z]).map Ev.pr)(h:good a)(d:z.bad=true):evsOf o=a++[z]:=by
 unfold evsOf;rw [if_pos b,c];simp [uQ h,BA d]
theorem uS{p:List (List Ins)}{s:St}{x:Ev}(h:goes p s x):okAt p s x.tI=true:=by
 obtain⟨a,b,_⟩:=h;simp [okAt,belowB,Ev.tI,a,b]
theorem kr(p:List (List Ins)):∀ (l:List Int) (i:Int) (s:St) (b:List (Int × Int)),∃ xs s',RunE p s xs s'/\(follow p l i s b).steps=b++xs.map Ev.pr/\(follow p l i s b).st=s'/\
  ((good xs/\xs.map Ev.tI=l/\(follow p l i s b).kind=endingS p s'/\(follow p l i s b).thread=0/\(follow p l i s b).at_=0)\/
   (good xs/\(∃ u r,l=xs.map Ev.tI++u::r/\okAt p s' u=false)/\(follow p l i s b).kind=2/\(follow p l i s b).thread=0/\(follow p l i s b).at_=i+xs.length)\/
   (∃ ys z r,xs=ys++[z]/\good ys/\z.bad=true/\l=xs.map Ev.tI++r/\(follow p l i s b).kind=1/\(follow p l i s b).thread=z.tI/\(follow p l i s b).at_=z.k))
 | [],i,s,b=>⟨[],s,rfl,by simp [follow],rfl,Or.inl ⟨by simp [good],rfl,rfl,rfl,rfl⟩⟩
 | t::r,i,s,b=>by
  by_cases h1:okAt p s t=true
  ·have hb:0<=t/\t<p.length/\readyB p s t.toNat=true:=by
    simp [okAt,belowB]at h1;exact⟨h1.1.1,h1.1.2,h1.2⟩
   obtain⟨hb1,hb2,m⟩:=hb;have c:((t.toNat:Nat):Int)=t:=by omega
   by_cases f:(stepS p s t.toNat).1=true
   ·obtain⟨xs,s',o,q,v,hc⟩:=kr p r (i+1) (stepS p s t.toNat).2 (b++[(t,s.next t.toNat)]);rw [kS p t r i s b h1 f];have n:goes p s ⟨t.toNat,s.next t.toNat,false⟩:=⟨by simp only;omega,m,rfl,by simpa using f⟩;refine⟨⟨t.toNat,s.next t.toNat,false⟩::xs,s',⟨n,o⟩,?_,v,?_⟩
    ·rw [q];simp [Ev.pr,c]
    ·have j:∀ {zs:List Ev},good zs->good (⟨t.toNat,s.next t.toNat,false⟩::zs):=fun h e he=>by
      rcases List.mem_cons.1 he with he | he
      ·rw [he]
      ·exact h e he
     rcases hc with ⟨g1,g2,g3,g4,g5⟩ | ⟨g1,⟨u,r',g2,g2'⟩,g3,g4,g5⟩ | ⟨ys,z,r',g1,g2,g3,g4,g5,g6,g7⟩
     ·exact Or.inl ⟨j g1,by simp [Ev.tI,c];exact g2,g3,g4,g5⟩
     ·exact Or.inr (Or.inl ⟨j g1,⟨u,r',by simp [Ev.tI,c];exact g2,g2'⟩,g3,g4,by rw [g5];simp;omega⟩)
     ·exact Or.inr (Or.inr ⟨⟨t.toNat,s.next t.toNat,false⟩::ys,z,r',by rw [g1];rfl,j g2,g3,by simp [Ev.tI,c];exact g4,g5,g6,g7⟩)
   ·have d:(stepS p s t.toNat).1=false:=by simpa using f
    rw [kk p t r i s b h1 d];refine⟨[⟨t.toNat,s.next t.toNat,true⟩],_,⟨⟨by simp only;omega,m,rfl,by simpa using d⟩,rfl⟩,by simp [Ev.pr,c],rfl,Or.inr (Or.inr ⟨[],_,r,rfl,by simp [good],rfl,by simp [Ev.tI,c],rfl,by simp [Ev.tI,c],rfl⟩)⟩
  ·have d:okAt p s t=false:=by simpa using h1
   rw [jh p t r i s b d];exact⟨[],s,rfl,by simp,rfl,Or.inr (Or.inl ⟨by simp [good],⟨t,r,rfl,d⟩,rfl,rfl,by simp⟩)⟩
theorem kF(p:List (List Ins)):∀ (xs:List Ev) (l:List Int) (i:Int) (s s':St) (acc:List (Int × Int)),good xs->RunE p s xs s'->follow p (xs.map Ev.tI++l) i s acc=follow p l (i+xs.length) s' (acc++xs.map Ev.pr)
 | [],l,i,s,s',acc,_,h=>by cases h;simp
 | x::r,l,i,s,s',acc,hg,⟨h1,h2⟩=>by
  have hb:=hg x (List.mem_cons_self ..);have hok:=uS h1;obtain⟨g1,g2,g3,g4⟩:=h1;have e1:x.tI.toNat=x.t:=by simp [Ev.tI]
  rw [List.map_cons,List.cons_append,kS p _ _ i s acc hok (by rw [e1,g4,hb];rfl),e1,kF p r l (i+1) _ s' _ (fun e he=>hg e (List.mem_cons_of_mem _ he)) h2];congr 1
  ·simp;omega
  ·simp [Ev.pr,Ev.tI,g3]
theorem tQ{p:List (List Ins)}{a:List Ev}{z:Ev}{i:Int}{s e:St}{b:List (Int × Int)}(o:good a)(r:z.bad=true)(h:RunE p s (a++[z]) e):follow p ((a++[z]).map Ev.tI) i s b=⟨b++(a++[z]).map Ev.pr,1,z.tI,z.k,e⟩:=by
 rw [RunE.append]at h;obtain⟨f,m,d,n⟩:=h;have q:=uS d;obtain⟨g1,g2,j,l⟩:=d;have c:z.tI.toNat=z.t:=by simp [Ev.tI]
 rw [List.map_append,kF p a _ i s f b o m,List.map_cons,List.map_nil,kk p _ _ _ f _ q (by rw [c,l,r];rfl),c,j];cases n
 simp [Ev.pr,Ev.tI]
def insK(x:Nat × Nat):List (Nat × Nat)->List (Nat × Nat)
 | []=>[x]
 | y::r=>if x.1<y.1\/(x.1=y.1/\x.2<=y.2) then x::y::r else y::insK x r
def sortK:List (Nat × Nat)->List (Nat × Nat)
 | []=>[]
 | x::r=>insK x (sortK r)
def leP(x y:Nat × Nat):Prop:=x.1<y.1\/(x.1=y.1/\x.2<=y.2)
theorem nl(x:Nat × Nat):∀ l,(insK x l).Perm (x::l)
 | []=>List.Perm.refl _
 | y::r=>by
  unfold insK;split
  ·exact List.Perm.refl _
  ·exact((nl x r).cons y).trans (List.Perm.swap _ _ _)
theorem ke:∀ l,(sortK l).Perm l
 | []=>List.Perm.refl _
 | x::r=>(nl x (sortK r)).trans ((ke r).cons x)
theorem nO(x:Nat × Nat):∀ l,l.Pairwise leP->(insK x l).Pairwise leP
 | [],_=>by simp [insK]
 | y::r,h=>by
  have h0:=h;rw [List.pairwise_cons]at h;unfold insK;split
  ·rename_i hxy
   rw [List.pairwise_cons];refine⟨fun z hz=>?_,h0⟩;rcases List.mem_cons.1 hz with hz | hz
   ·subst hz;exact hxy
   ·have:=h.1 z hz;unfold leP at*;omega
  ·rename_i hxy
   rw [List.pairwise_cons];refine⟨fun z hz=>?_,nO x r h.2⟩;have hz':=(nl x r).mem_iff.1 hz;rcases List.mem_cons.1 hz' with hz' | hz'
   ·subst hz';unfold leP;omega
   ·exact h.1 z hz'
theorem mU:∀ l,(sortK l).Pairwise leP
 | []=>List.Pairwise.nil
 | x::r=>nO x _ (mU r)
theorem qu{a b:List (Nat × Nat)}(h:a.Perm b)(hb:b.Pairwise leP):sortK a=b:=pj ((ke a).trans h) (mU a) hb
def keyE(x:Ev × Nat):Nat × Nat:=(x.2,x.1.t)
def keysE(p:List (List Ins))(xs:List Ev):List (Nat × Nat):=(tl (depE p) [] xs).map keyE
def formE(p:List (List Ins))(xs:List Ev):List Int:=(sortK (keysE p xs)).map fun x=>(x.2:Int)
def formS(p:List (List Ins))(o:Out):List Int:=formE p (evsOf o)
theorem kt(p:List (List Ins))(xs:List Ev):(formE p xs).length=xs.length:=by
 unfold formE keysE;rw [List.length_map,(ke _).length_eq,List.length_map,iX]
def usesI(t:Nat)(i:Ins):List (Nat × Nat × Bool):=(0,t,true)::(if i.op=9\/i.op=10 then [(2,i.a.toNat,true)] else if i.op=2 then [(1,i.b.toNat,false)] else if i.op=3 then [(1,i.a.toNat,true)] else [])
def usesE(p:List (List Ins))(e:Ev):List (Nat × Nat × Bool):=usesI e.t (insAt p e.t e.k)
def histOf(p:List (List Ins)):List (Ev × Nat)->Nat × Nat × Bool->Nat
 | [],_=>0
 | q::r,u=>if u∈usesE p q.1 then max (q.2+1) (histOf p r u) else histOf p r u
def aheadS(H:Nat × Nat × Bool->Nat):List (Nat × Nat × Bool)->Nat->Nat
 | [],n=>n
 | u::r,n=>aheadS H r (if u.2.2=true then max (max n (H (u.1,u.2.1,true))) (H (u.1,u.2.1,false)) else max n (H (u.1,u.2.1,true)))
theorem wt{α:Type}(d:α->α->Bool)(past:List (α × Nat))(x:α)(n:Nat):layIn d past x<=n↔∀ q∈past,d q.1 x=true->q.2+1<=n:=by
 constructor
 ·intro h q b a;exact Nat.le_trans (yz d b a) h
 ·exact mN d
theorem j3(p:List (List Ins))(u:Nat × Nat × Bool)(n:Nat):∀ past,histOf p past u<=n↔∀ q∈past,u∈usesE p q.1->q.2+1<=n
 | []=>by simp [histOf]
 | q::r=>by
  have ih:=j3 p u n r;unfold histOf;by_cases h:u∈usesE p q.1
  ·rw [if_pos h,Nat.max_le,ih];simp [h]
  ·rw [if_neg h,ih];simp [h]
theorem og(H:Nat × Nat × Bool->Nat)(n:Nat):∀ (us:List (Nat × Nat × Bool)) (m:Nat),aheadS H us m<=n↔m<=n/\∀ u∈us,H (u.1,u.2.1,true)<=n/\(u.2.2=true->H (u.1,u.2.1,false)<=n)
 | [],m=>by simp [aheadS]
 | u::r,m=>by
  unfold aheadS;rw [og H n r];by_cases h:u.2.2=true
  ·rw [if_pos h,Nat.max_le,Nat.max_le];simp [h,and_assoc]
  ·rw [if_neg h,Nat.max_le];simp [h,and_assoc]
theorem oB(p:List (List Ins)){x y:Ev}(a:x.bad=false)(b:y.bad=false):depE p y x=true↔∃ u∈usesE p x,(u.1,u.2.1,true)∈usesE p y\/(u.2.2=true/\(u.1,u.2.1,false)∈usesE p y):=by
 unfold depE usesE usesI;generalize insAt p x.t x.k=i;generalize insAt p y.t y.k=j;by_cases l:i.op=9\/i.op=10
 ·by_cases e:j.op=9\/j.op=10
  ·simp [clash,tou,a,b,l,e];omega
  ·by_cases c:j.op=2
   ·have:¬(j.op=9\/j.op=10):=by omega
    simp [clash,tou,a,b,l,c];omega
   ·by_cases d:j.op=3
    ·simp [clash,tou,a,b,l,d];omega
    ·simp [clash,tou,a,b,l,e,c,d];omega
 ·by_cases f:i.op=2
  ·by_cases e:j.op=9\/j.op=10
   ·simp [clash,tou,a,b,f,e];omega
   ·by_cases c:j.op=2
    ·simp [clash,tou,a,b,f,c];omega
    ·by_cases d:j.op=3
     ·simp [clash,tou,a,b,f,d];omega
     ·simp [clash,tou,a,b,f,e,c,d];omega
  ·by_cases h:i.op=3
   ·by_cases e:j.op=9\/j.op=10
    ·simp [clash,tou,a,b,h,e];omega
    ·by_cases c:j.op=2
     ·simp [clash,tou,a,b,h,c];omega
     ·by_cases d:j.op=3
      ·simp [clash,tou,a,b,h,d];omega
      ·simp [clash,tou,a,b,h,e,c,d];omega
   ·by_cases e:j.op=9\/j.op=10
    ·simp [clash,tou,a,b,l,f,h,e];omega
    ·by_cases c:j.op=2
     ·simp [clash,tou,a,b,l,f,h,c];omega
     ·by_cases d:j.op=3
      ·simp [clash,tou,a,b,l,f,h,d];omega
      ·simp [clash,tou,a,b,l,f,h,e,c,d];omega
theorem vn(p:List (List Ins)){past:List (Ev × Nat)}{x:Ev}(f:x.bad=false)(e:∀ q∈past,q.1.bad=false):aheadS (histOf p past) (usesE p x) 0=layIn (depE p) past x:=by
 have key:∀ n,aheadS (histOf p past) (usesE p x) 0<=n↔layIn (depE p) past x<=n:=by
  intro n;rw [og,wt];constructor
  ·rintro⟨_,h⟩ q b i;obtain⟨u,c,a⟩:=(oB p f (e q b)).1 i;have d:=h u c;rcases a with a | ⟨a,h3⟩
   ·exact(j3 p _ n past).1 d.1 q b a
   ·exact(j3 p _ n past).1 (d.2 a) q b h3
  ·intro h;refine⟨Nat.zero_le _,fun u c=>⟨(j3 p _ n past).2 fun q b a=>?_,fun hw=>(j3 p _ n past).2 fun q b a=>?_⟩⟩
   ·exact h q b ((oB p f (e q b)).2 ⟨u,c,Or.inl a⟩)
   ·exact h q b ((oB p f (e q b)).2 ⟨u,c,Or.inr ⟨hw,a⟩⟩)
 have a:=(key (layIn (depE p) past x)).2 (Nat.le_refl _);have d:=(key (aheadS (histOf p past) (usesE p x) 0)).1 (Nat.le_refl _);omega
def highOf:List (Ev × Nat)->Nat
 | []=>0
 | q::r=>max (q.2+1) (highOf r)
theorem ye(p:List (List Ins)){past:List (Ev × Nat)}{x:Ev}(a:x.bad=true):layIn (depE p) past x=highOf past:=by
 induction past with
 | nil=>rfl
 | cons q r ih=>
  unfold layIn highOf;rw [if_pos (by simp [depE,a]),ih]
theorem lC{α:Type}(d:α->α->Bool):∀ (xs:List α) (past:List (α × Nat)) (m:Nat),(∀ q∈past,q.2<m)->∀ k q,(tl d past xs)[k]?=some q->q.2<=m+k
 | [],past,m,_,k,q,h=>by simp [tl]at h
 | x::r,past,m,hm,k,q,h=>by
  have hx:layIn d past x<=m:=mN d (fun y hy _=>hm y hy);cases k with
  | zero=>simp [tl]at h;subst h;exact hx
  | succ k=>
   simp only [tl,List.getElem?_cons_succ]at h;have:=lC d r _ (m+1) (fun y hy=>by
    rcases List.mem_cons.1 hy with hy | hy
    ·subst hy;simp only;omega
    ·have:=hm y hy;omega) k q h
   omega
def goThrough(n:Nat)(ks:List (Nat × Nat)):List (Nat × Nat):=(List.range n).flatMap fun l=>(List.range 4).flatMap fun t=>ks.filter fun k=>k.1==l && k.2==t
theorem kW{β:Type}{R:β->β->Prop}{f:Nat->List β}{n:Nat}(b:∀ l,l<n->(f l).Pairwise R)(c:∀ l l',l<l'->l'<n->∀ x∈f l,∀ y∈f l',R x y):((List.range n).flatMap f).Pairwise R:=by
 induction n with
 | zero=>simp
 | succ n ih=>
  rw [List.range_succ,List.flatMap_append,List.pairwise_append];refine⟨ih (fun l h=>b l (by omega)) (fun l l' h h'=>c l l' h (by omega)),by simpa using b n (by omega),fun x a y hy=>?_⟩;obtain⟨l,d,a⟩:=List.mem_flatMap.1 a;simp at hy d;exact c l n d (by omega) x a y hy
theorem mi{f:Nat->List (Nat × Nat)}(q:Nat × Nat)(c:Nat):∀ {n:Nat} (_:∀ l,l<n->(f l).count q=if l=c then (f c).count q else 0),((List.range n).flatMap f).count q=if c<n then (f c).count q else 0
 | 0,_=>by simp
 | n+1,h=>by
  rw [List.range_succ,List.flatMap_append,List.count_append,mi q c (fun l hl=>h l (by omega))];have:=h n (by omega);simp only [List.flatMap_cons,List.flatMap_nil,List.append_nil,this];by_cases e:n=c
  ·subst e;simp
  ·rw [if_neg e];by_cases e2:c<n
   ·rw [if_pos e2,if_pos (by omega)];rfl
   ·rw [if_neg e2,if_neg (by omega)]
theorem oI{n:Nat}{a:List (Nat × Nat)}(h:∀ k∈a,k.1<n/\k.2<4):(goThrough n a).Perm a:=by
 rw [List.perm_iff_count];intro q;have f:∀ l t,(a.filter fun k=>k.1==l && k.2==t).count q=if l=q.1/\t=q.2 then a.count q else 0:=by
  intro l t;by_cases e:l=q.1/\t=q.2
  ·rw [if_pos e,List.count_filter (by simp [e.1,e.2])]
  ·rw [if_neg e,List.count_eq_zero];intro c;have:=(List.mem_filter.1 c).2;simp at this;exact e ⟨this.1.symm,this.2.symm⟩
 have d:∀ l,((List.range 4).flatMap fun t=>a.filter fun k=>k.1==l && k.2==t).count q=if l=q.1 then (if q.2<4 then a.count q else 0) else 0:=by
  intro l;rw [mi q q.2 (fun t _=>by rw [f,f];by_cases b:l=q.1<;>by_cases i:t=q.2<;>simp [b,i]),f];by_cases b:l=q.1<;>simp [b]
 unfold goThrough;rw [mi q q.1 (fun l _=>by rw [d,d];by_cases b:l=q.1<;>simp [b]),d];simp only [if_true];by_cases c:q∈a
 ·have:=h q c;rw [if_pos this.1,if_pos this.2]
 ·have:a.count q=0:=List.count_eq_zero.2 c;rw [this];simp
theorem nh(n:Nat)(i:List (Nat × Nat)):(goThrough n i).Pairwise leP:=by
 have c:∀ l t x,x∈(i.filter fun k=>k.1==l && k.2==t)->x.1=l/\x.2=t:=fun l t x a=>by
  have:=(List.mem_filter.1 a).2;simpa using this
 refine kW (fun l _=>kW (fun t _=>?_) (fun t d h _ x a y b=>?_)) (fun l l' h _ x a y b=>?_)
 ·refine List.Pairwise.imp_of_mem (R:=fun _ _=>True) (fun {x y} a b _=>?_) (List.pairwise_of_forall (fun _ _=>trivial));have e:=c l t x a;have f:=c l t y b;unfold leP;omega
 ·have e:=c l t x a;have f:=c l d y b;unfold leP;omega
 ·obtain⟨t,_,a⟩:=List.mem_flatMap.1 a;obtain⟨d,_,b⟩:=List.mem_flatMap.1 b;have e:=c l t x a;have f:=c l' d y b;unfold leP;omega
theorem qO{p:List (List Ins)}{xs:List Ev}(h:∀ e∈xs,e.t<4):formE p xs=(goThrough xs.length (keysE p xs)).map fun x=>(x.2:Int):=by
 unfold formE;rw [qu (oI ?_).symm (nh _ _)];intro k b;unfold keysE at b;obtain⟨q,f,rfl⟩:=List.mem_map.1 b;obtain⟨j,a,rfl⟩:=List.getElem_of_mem f;have hj':j<xs.length:=by rwa [iX]at a
 have:=lC (depE p) xs [] 0 (by simp) j _ (List.getElem?_eq_getElem a);refine⟨by simp only [keyE];omega,?_⟩;have d:((tl (depE p) [] xs)[j]).1∈xs:=by
  have c:((tl (depE p) [] xs)[j]).1∈(tl (depE p) [] xs).map (·.1):=List.mem_map.2 ⟨_,List.getElem_mem a,rfl⟩;rwa [pm]at c
 exact h _ d
theorem nN(p:List (List Ins))(q:Ev × Nat)(u:Nat × Nat × Bool):∀ L,histOf p (L++[q]) u=if u∈usesE p q.1 then max (histOf p L u) (q.2+1) else histOf p L u
 | []=>by simp [histOf]
 | y::r=>by
  simp only [List.cons_append,histOf,nN p q u r];split<;>split<;>omega
theorem nM(q:Ev × Nat):∀ L,highOf (L++[q])=max (highOf L) (q.2+1)
 | []=>by simp [highOf]
 | y::r=>by
  simp only [List.cons_append,highOf,nM q r];omega
theorem vZ(p:List (List Ins))(xs:List Ev)(u:Nat × Nat × Bool):histOf p (tl (depE p) [] xs) u<=xs.length:=by
 rw [j3];intro q b _;obtain⟨j,a,rfl⟩:=List.getElem_of_mem b;have:=lC (depE p) xs [] 0 (by simp) j _ (List.getElem?_eq_getElem a);rw [iX]at a;omega
theorem vY(p:List (List Ins))(xs:List Ev):highOf (tl (depE p) [] xs)<=xs.length:=by
 have key:∀ (L:List (Ev × Nat)) (n:Nat),(∀ q∈L,q.2+1<=n)->highOf L<=n:=by
  intro L n;induction L with
  | nil=>simp [highOf]
  | cons y r ih=>
   intro h;unfold highOf;have h1:=h y (List.mem_cons_self ..);have h2:=ih (fun q a=>h q (List.mem_cons_of_mem _ a));omega
 apply key;intro q a;obtain⟨j,b,rfl⟩:=List.getElem_of_mem a;have:=lC (depE p) xs [] 0 (by simp) j _ (List.getElem?_eq_getElem b);rw [iX]at b;omega
theorem BK(p:List (List Ins))(xs:List Ev)(x:Ev):layIn (depE p) (tl (depE p) [] xs) x<=xs.length:=by
 apply mN;intro q b _;obtain⟨j,a,rfl⟩:=List.getElem_of_mem b;have:=lC (depE p) xs [] 0 (by simp) j _ (List.getElem?_eq_getElem a);rw [iX]at a;omega
structure Stood(p:List (List Ins))(o:Out)(xs:List Ev):Prop where
 ev:evsOf o=xs
 st:o.steps=xs.map Ev.pr
 th:∀ e∈xs,e.t<p.length/\0<=e.k/\e.k<(codeOf p e.t).length
 gd:∀ i (hi:i<xs.length),xs[i].bad=(decide (o.kind=1) && decide (i+1=xs.length))
theorem ph{p:List (List Ins)}(c:vProg p=true):∀ (xs:List Ev) (s a:St),Inv p s->RunE p s xs a->∀ e∈xs,e.t<p.length/\0<=e.k/\e.k<(codeOf p e.t).length
 | [],_,_,_,_,e,he=>by cases he
 | x::r,s,a,hI,⟨hx,hr⟩,e,he=>by
  obtain⟨h1,h2,h3,h4⟩:=hx;have hd:doneB p s x.t=false:=by
   cases hd:doneB p s x.t with
   | false=>rfl
   | true=>simp [readyB,hd]at h2
  rcases List.mem_cons.1 he with he | he
  ·subst he;have b:=hI e.t h1;have d:s.next e.t≠((codeOf p e.t).length:Int):=by simpa [doneB]using hd
   rw [h3]at b d;exact⟨h1,b.1,by omega⟩
  ·exact ph c r _ a (Inv.step c hI h1 hd) hr e he
theorem kZ{p:List (List Ins)}(h:vProg p=true)(s:List Int):∃ xs,Stood p (runS p s) xs:=by
 have hc:=kr p s 0 St.zero [];change ∃ xs a,RunE p St.zero xs a/\(runS p s).steps=[]++xs.map Ev.pr/\(runS p s).st=a/\((good xs/\xs.map Ev.tI=s/\(runS p s).kind=endingS p a/\(runS p s).thread=0/\(runS p s).at_=0)\/(good xs/\(∃ u r,s=xs.map Ev.tI++u::r/\okAt p a u=false)/\(runS p s).kind=2/\(runS p s).thread=0/\(runS p s).at_=0+xs.length)\/(∃ ys z r,xs=ys++[z]/\good ys/\z.bad=true/\s=xs.map Ev.tI++r/\(runS p s).kind=1/\(runS p s).thread=z.tI/\(runS p s).at_=z.k))at hc
 obtain⟨xs,a,j,b,hst,hc⟩:=hc;rw [List.nil_append]at b;have f:=ph h xs St.zero a (Inv.zero p) j;refine⟨xs,?_⟩;have c:good xs->(runS p s).kind≠1->Stood p (runS p s) xs:=fun g hk=>by
  refine⟨tM hk b g,b,f,fun i hi=>?_⟩;rw [g _ (List.getElem_mem hi)];simp [hk]
 rcases hc with ⟨g1,_,g3,_⟩ | ⟨g1,_,g3,_⟩ | ⟨us,z,r,g1,g2,g3,_,g5,_⟩
 ·exact c g1 (by have:=l9 p a;omega)
 ·exact c g1 (by omega)
 ·subst g1;refine⟨vP g5 b g2 g3,b,f,fun i hi=>?_⟩;by_cases e:i=us.length
  ·subst e;simp [g3,g5]
  ·have d:i<us.length:=by simp at hi;omega
   rw [List.getElem_append_left d,g2 _ (List.getElem_mem d)];simp;intro _;omega
theorem yA{p:List (List Ins)}{o:Out}{xs:List Ev}(h:Stood p o xs){i:Nat}(d:i<xs.length):
  layIn (depE p) (tl (depE p) [] (xs.take i)) xs[i]=if o.kind=1/\i+1=xs.length then highOf (tl (depE p) [] (xs.take i)) else aheadS (histOf p (tl (depE p) [] (xs.take i))) (usesE p xs[i]) 0:=by
 have a:=h.gd i d;by_cases e:o.kind=1/\i+1=xs.length
 ·rw [if_pos e,ye p (by rw [a];simp [e])]
 ·rw [if_neg e,vn p (by rw [a];simp;omega)];intro q n;have m:q.1∈xs.take i:=by
   have c:q.1∈(tl (depE p) [] (xs.take i)).map (·.1):=List.mem_map.2 ⟨q,n,rfl⟩;rwa [pm]at c
  obtain⟨j,f,k⟩:=List.getElem_of_mem m;have hj':j<i:=by simp at f;omega
  have l:j<xs.length:=by omega
  have b:q.1=xs[j]:=by rw [<-k];simp
  rw [b,h.gd j l];simp;intro _;omega
theorem qg{p:List (List Ins)}{xs:List Ev}{i:Nat}(a:i<xs.length):tl (depE p) [] (xs.take (i+1))=tl (depE p) [] (xs.take i)++[(xs[i],layIn (depE p) (tl (depE p) [] (xs.take i)) xs[i])]:=by
 rw [List.take_succ_eq_append_getElem a,Bg]
theorem wu(d:Ev->Ev->Bool)(L:List (Ev × Nat))(x:Ev)(k:Nat)(b:k<L.length):layIn d (L.take (k+1)) x=if d L[k].1 x=true then max (layIn d (L.take k) x) (L[k].2+1) else layIn d (L.take k) x:=by
 rw [List.take_succ_eq_append_getElem b,qV];have e:layIn d [L[k]] x=if d L[k].1 x=true then L[k].2+1 else 0:=by simp [layIn]
 rw [e];by_cases h:d L[k].1 x=true
 ·rw [if_pos h,if_pos h]
 ·rw [if_neg h,if_neg h];omega
theorem qW(p:List (List Ins))(xs:List Ev)(x:Ev)(k:Nat):layIn (depE p) ((tl (depE p) [] xs).take k) x<=xs.length:=by
 apply mN;intro q b _;have c:q∈tl (depE p) [] xs:=List.mem_of_mem_take b;obtain⟨j,a,rfl⟩:=List.getElem_of_mem c;have:=lC (depE p) xs [] 0 (by simp) j _ (List.getElem?_eq_getElem a);rw [iX]at a;omega
theorem vL{p:List (List Ins)}{o:Out}{xs:List Ev}(h:Stood p o xs){k i:Nat}(hki:k<i)(d:i<xs.length):
  depE p (xs[k]'(by omega)) xs[i]=((decide (o.kind=1) && decide (i+1=xs.length)) || ((xs[k]'(by omega)).t==xs[i].t || clash (tou (insAt p (xs[k]'(by omega)).t (xs[k]'(by omega)).k)) (tou (insAt p xs[i].t xs[i].k)))):=by
 have b:=h.gd k (by omega);have c:=h.gd i d;have a:(xs[k]'(by omega)).bad=false:=by rw [b];simp;intro _;omega
 unfold depE;rw [a,c];simp [Bool.or_assoc]
def pickT(ks:List (Nat × Nat))(l t:Nat):List (Nat × Nat):=ks.filter fun k=>k.1==l && k.2==t
def goAt(ks:List (Nat × Nat))(l t i:Nat):List (Nat × Nat):=goThrough l ks++((List.range t).flatMap (pickT ks l)++pickT (ks.take i) l t)
theorem vV(ks:List (Nat × Nat)):goAt ks 0 0 0=[]:=by simp [goAt,goThrough,pickT]
theorem vU(a:List (Nat × Nat))(l t i:Nat)(b:i<a.length):goAt a l t (i+1)=goAt a l t i++(if a[i].1==l && a[i].2==t then [a[i]] else []):=by
 unfold goAt pickT;rw [List.take_succ_eq_append_getElem b,List.filter_append];simp only [List.append_assoc,List.filter_cons,List.filter_nil]
theorem si(a:List (Nat × Nat))(l t i:Nat)(b:a.length<=i):goAt a l t i=goAt a l (t+1) 0:=by
 unfold goAt;rw [List.take_of_length_le b,List.range_succ,List.flatMap_append];simp [pickT]
theorem tT(a:List (Nat × Nat))(l:Nat):goAt a l 4 0=goAt a (l+1) 0 0:=by
 have e:goThrough (l+1) a=goThrough l a++(List.range 4).flatMap (pickT a l):=by
  unfold goThrough;rw [List.range_succ (n:=l),List.flatMap_append];congr 1
  rw [List.flatMap_cons,List.flatMap_nil,List.append_nil];rfl
 unfold goAt;rw [e];simp [pickT]
theorem x8(ks:List (Nat × Nat))(n:Nat):goAt ks n 0 0=goThrough n ks:=by simp [goAt,pickT]
theorem sI(ks:List (Nat × Nat))(l t:Nat):(pickT ks l t).length<=ks.length:=List.length_filter_le ..
theorem mH{f:Nat->List (Nat × Nat)}{m:Nat}(h:∀ l,(f l).length<=m):∀ n,((List.range n).flatMap f).length<=n*m
 | 0=>by simp
 | n+1=>by
  rw [List.range_succ,List.flatMap_append,List.length_append];have h1:=mH h n;have h2:=h n;have h3:(n+1)*m=n*m+m:=by rw [Nat.add_mul];omega
  simp only [List.flatMap_cons,List.flatMap_nil,List.append_nil];omega
theorem Ad(a:List (Nat × Nat))(l t i:Nat)(c:l<=500)(d:t<=4)(b:a.length<=500):(goAt a l t i).length<=2000000:=by
 unfold goAt;rw [List.length_append,List.length_append];have h1:(goThrough l a).length<=l*(4*a.length):=by
  unfold goThrough;exact mH (fun _=>mH (fun _=>List.length_filter_le ..) 4) l
 have h2:((List.range t).flatMap (pickT a l)).length<=t*a.length:=mH (fun _=>sI ..) t;have h3:(pickT (a.take i) l t).length<=a.length:=Nat.le_trans (sI ..) (by simp;omega);have h4:l*(4*a.length)<=500*(4*500):=Nat.mul_le_mul c (by omega);have h5:t*a.length<=4*500:=Nat.mul_le_mul d b;omega
def thrL(L:List (Nat × Nat)):List Int:=L.map fun x=>(x.2:Int)
theorem zq(a:List (Nat × Nat))(l t i:Nat)(b:i<a.length):thrL (goAt a l t (i+1))=if a[i].1==l && a[i].2==t then thrL (goAt a l t i)++[(t:Int)] else thrL (goAt a l t i):=by
 rw [vU a l t i b];unfold thrL;by_cases h:(a[i].1==l && a[i].2==t)=true
 ·rw [if_pos h,if_pos h,List.map_append];simp at h;simp [h.2]
 ·rw [if_neg h,if_neg h];simp
def labsE(p:List (List Ins))(xs:List Ev)(i:Nat):List Nat:=(tl (depE p) [] (xs.take i)).map (·.2)
theorem lR(p:List (List Ins))(xs:List Ev)(i:Nat)(h:i<=xs.length):(labsE p xs i).length=i:=by unfold labsE;rw [List.length_map,iX];simp;omega
theorem ua(p:List (List Ins))(xs:List Ev)(i:Nat)(h:i<xs.length):labsE p xs (i+1)=labsE p xs i++[layIn (depE p) ((tl (depE p) [] (xs.take i)).take i) xs[i]]:=by
 unfold labsE;have e:(tl (depE p) [] (xs.take i)).take i=tl (depE p) [] (xs.take i):=List.take_of_length_le (by rw [iX];simp;omega);rw [qg h,List.map_append,e];rfl
theorem np(p:List (List Ins))(xs:List Ev):(keysE p xs).length=xs.length:=by unfold keysE;rw [List.length_map,iX]
theorem Au(p:List (List Ins))(xs:List Ev)(i:Nat)(h:i<xs.length):(keysE p xs)[i]'(by rw [np];exact h)=((labsE p xs xs.length)[i]'(by rw [lR _ _ _ (Nat.le_refl _)];exact h),xs[i].t):=by
 have d:i<(tl (depE p) [] xs).length:=by rw [iX];exact h
 have a:((tl (depE p) [] xs)[i]'d).1=xs[i]:=by
  have b:=pm (depE p) [] xs;have c:((tl (depE p) [] xs).map (·.1))[i]'(by rw [b];exact h)=xs[i]:=by congr 1
  simpa using c
 simp [keysE,labsE,keyE,a]
theorem Aw(p:List (List Ins))(xs:List Ev)(i:Nat)(h:i<xs.length):(labsE p xs xs.length)[i]'(by rw [lR _ _ _ (Nat.le_refl _)];exact h)<=xs.length:=by
 have a:i<(tl (depE p) [] xs).length:=by rw [iX];exact h
 have:=lC (depE p) xs [] 0 (by simp) i _ (List.getElem?_eq_getElem a);simp [labsE];omega
def likeV(a b:Out):Bool:=if a.kind=2 then b.kind==2 else (a.kind==b.kind && a.thread==b.thread && a.at_==b.at_)
def leftOut(l:List Int)(i:Nat):List Int:=l.take i++l.drop (i+1)
def cameTo(o:Out):Nat:=if o.kind=2 then o.steps.length+1 else o.steps.length
def shr(p:List (List Ins))(V:Out):Nat->List Int->Nat->Nat->List Int × Nat
 | 0,l,_,u=>(l,u)
 | n+1,l,i,u=>if i<l.length then (if likeV (runS p (leftOut l i)) V=true then shr p V n (leftOut l i) 0 (u+1) else shr p V n l (i+1) (u+1)) else (l,u)
def shortS(p:List (List Ins))(s:List Int)(fuel:Nat):List Int × Nat:=shr p (runS p s) fuel (s.take (cameTo (runS p s))) 0 0
theorem lD{l:List Int}{i:Nat}(h:i<l.length):(leftOut l i).length+1=l.length:=by
 unfold leftOut;simp;omega
section
variable {p : List (List Ins)} {V : Out}
theorem rI:∀ (n:Nat) (l:List Int) (i u:Nat),(shr p V n l i u).1.length<=l.length
 | 0,l,i,u=>Nat.le_refl _
 | n+1,l,i,u=>by
  unfold shr;split
  ·rename_i hi
   have:=lD hi;split
   ·have:=rI n (leftOut l i) 0 (u+1);omega
   ·exact rI n l (i+1) (u+1)
  ·exact Nat.le_refl _
end
theorem vb(p:List (List Ins))(s:List Int):runS p (s.take (cameTo (runS p s)))=runS p s/\cameTo (runS p s)<=s.length:=by
 have hc:=kr p s 0 St.zero [];change ∃ xs a,RunE p St.zero xs a/\(runS p s).steps=[]++xs.map Ev.pr/\(runS p s).st=a/\((good xs/\xs.map Ev.tI=s/\(runS p s).kind=endingS p a/\(runS p s).thread=0/\(runS p s).at_=0)\/(good xs/\(∃ u r,s=xs.map Ev.tI++u::r/\okAt p a u=false)/\(runS p s).kind=2/\(runS p s).thread=0/\(runS p s).at_=0+xs.length)\/(∃ ys z r,xs=ys++[z]/\good ys/\z.bad=true/\s=xs.map Ev.tI++r/\(runS p s).kind=1/\(runS p s).thread=z.tI/\(runS p s).at_=z.k))at hc
 obtain⟨xs,a,h,c,i,hc⟩:=hc;rw [List.nil_append]at c;have e:(runS p s).steps.length=xs.length:=by rw [c];simp
 have eq_of:∀ o:Out,o.steps=(runS p s).steps->o.kind=(runS p s).kind->o.thread=(runS p s).thread->o.at_=(runS p s).at_->o.st=(runS p s).st->o=runS p s:=by
  intro o j l m n t;cases o
  generalize runS p s=q at*;cases q
  simp at*;exact⟨j,l,m,n,t⟩
 rcases hc with ⟨g1,g2,g3,g4,g5⟩ | ⟨g1,⟨u,r,g2,g2'⟩,g3,g4,g5⟩ | ⟨us,z,r,g1,g2,g3,g4,g5,g6,g7⟩
 ·have b:cameTo (runS p s)=s.length:=by
   unfold cameTo;rw [if_neg (by have:=l9 p a;omega),e,<-g2];simp
  rw [b,List.take_length];exact⟨rfl,Nat.le_refl _⟩
 ·have b:cameTo (runS p s)=xs.length+1:=by unfold cameTo;rw [if_pos g3,e]
  have f:s.take (xs.length+1)=xs.map Ev.tI++[u]:=by
   rw [g2,List.take_append,List.take_of_length_le (by simp)];simp
  rw [b,f];refine⟨?_,by rw [g2];simp⟩;have d:runS p (xs.map Ev.tI++[u])=⟨xs.map Ev.pr,2,0,0+xs.length,a⟩:=by
   unfold runS;rw [kF p xs [u] 0 St.zero a [] g1 h,jh p u [] _ _ _ g2'];simp
  rw [d];exact eq_of _ c.symm g3.symm g4.symm g5.symm i.symm
 ·have b:cameTo (runS p s)=xs.length:=by unfold cameTo;rw [if_neg (by omega),e]
  have f:s.take xs.length=xs.map Ev.tI:=by
   rw [g4,List.take_append,List.take_of_length_le (by simp)];simp
  rw [b,f];refine⟨?_,by rw [g4];simp⟩;subst g1;have d:runS p ((us++[z]).map Ev.tI)=⟨(us++[z]).map Ev.pr,1,z.tI,z.k,a⟩:=by
   unfold runS;rw [tQ g2 g3 h];simp
  rw [d];exact eq_of _ c.symm g5.symm g6.symm g7.symm i.symm
def isD(b:Nat):Bool:=decide (48<=b) && decide (b<=57)
def nxt(n:Int)(b:Nat):Int:=max n 0*10+((b:Int) - 48)
def beginsB(m:Int):Bool:=decide (0<m) && decide (10*m<63)
def growsB(n d last:Int):Bool:=
 !(n==0) && ((decide (max n 0*10+d<=63) && !(max n 0*10+d==last)) || beginsB (max n 0*10+d))
def thr(last:Int):Int->List Nat->Int × Nat
 | n,[]=>(n,0)
 | n,b::r=>if (isD b && growsB n ((b:Int) - 48) last)=true then ((thr last (nxt n b) r).1,(thr last (nxt n b) r).2+1) else (n,0)
def cnt:Int->List Nat->Int × Nat
 | n,[]=>(n,0)
 | n,b::r=>if (isD b && !(n==0 && b==48))=true then ((cnt (min (10*n+((b:Int) - 48)) 501) r).1,(cnt (min (10*n+((b:Int) - 48)) 501) r).2+1) else (n,0)
structure RunP where
 thread:Int
 count:Int
 ok:Bool
 len:Nat
def thrOk(last n:Int):Bool:=!(n== -1) && !(n==last)
def runP(last:Int)(l:List Nat):RunP:=
 if (thrOk last (thr last (-1) l).1 && (l[(thr last (-1) l).2]?==some 42))=true then
  ⟨(thr last (-1) l).1,(cnt 0 (l.drop ((thr last (-1) l).2+1))).1,decide (1<(cnt 0 (l.drop ((thr last (-1) l).2+1))).1),(thr last (-1) l).2+1+(cnt 0 (l.drop ((thr last (-1) l).2+1))).2⟩
 else ⟨(thr last (-1) l).1,1,thrOk last (thr last (-1) l).1,(thr last (-1) l).2⟩
structure ParP where
 out:List Int
 at_:Nat
 ok:Bool
def addRun(sch:List Int)(total' count thread:Int):List Int:=if total'<501 then sch++List.replicate count.toNat thread else sch
def loopP:Nat->List Int->Int->Int->Nat->List Nat->ParP
 | 0,_,_,_,_,_=>⟨[],0,false⟩
 | f+1,sch,last,total,at_,l=>
  if (runP last l).ok=true then
   match l.drop (runP last l).len with
   | []=>if min (total+(runP last l).count) 501=501 then ⟨[],0,false⟩ else ⟨addRun sch (min (total+(runP last l).count) 501) (runP last l).count (runP last l).thread,0,true⟩
   | b::rest=>if b=32 then loopP f (addRun sch (min (total+(runP last l).count) 501) (runP last l).count (runP last l).thread) (runP last l).thread (min (total+(runP last l).count) 501) (at_+(runP last l).len+1) rest
     else ⟨[],at_+(runP last l).len,false⟩
  else ⟨[],at_+(runP last l).len,false⟩
def parseP(l:List Nat):ParP:=if l=[] then ⟨[],0,true⟩ else loopP (l.length+1) [] (-1) 0 0 l
def partsR:List Nat->List (List Nat)
 | []=>[[]]
 | b::r=>if b=32 then []::partsR r else (b::(partsR r).headD [])::(partsR r).tail
def halfA(l:List Nat):List Nat:=l.takeWhile (· !=42)
def halfB(l:List Nat):List Nat:=(l.dropWhile (· !=42)).drop 1
def starR(l:List Nat):Bool:=l.any (·==42)
def plainR(l:List Nat):Bool:=l.all isD && ((l==[48]) || (!(l==[]) && !(l.head?==some 48)))
def valueR:Int->List Nat->Int
 | n,[]=>min n 1000
 | n,b::r=>if n<1000 then valueR (10*n+(((b+208) % 256:Nat):Int)) r else min n 1000
def runR(l:List Nat)(ahead:Int):Option (Int × Int):=
 if (!plainR (halfA l) || decide (63<valueR 0 (halfA l)) || (valueR 0 (halfA l)==ahead))=true then none
 else if (starR l && (!plainR (halfB l) || decide (valueR 0 (halfB l)<2)))=true then none
 else if starR l=true then some (valueR 0 (halfA l),valueR 0 (halfB l)) else some (valueR 0 (halfA l),1)
def beginsR(l:List Nat)(ahead:Int):Bool:=
 if l=[] then true
 else if (!plainR (halfA l) || decide (63<valueR 0 (halfA l)))=true then false
 else if starR l=true then !(valueR 0 (halfA l)==ahead) && ((halfB l==[]) || (plainR (halfB l) && !(halfB l==[48])))
 else !(valueR 0 (halfA l)==ahead) || (decide (1<=valueR 0 (halfA l)) && decide (valueR 0 (halfA l)<=6))
def fillR(out:List Int)(t n:Int):List Int:=out++List.replicate (min n.toNat (501 - out.length)) t
def wholeR:List (List Nat)->Int->List Int->Option (List Int × Int)
 | [],ahead,out=>some (out,ahead)
 | q::qs,ahead,out=>match runR q ahead with
  | none=>none
  | some (t,n)=>wholeR qs t (fillR out t n)
def viable(ahead:Int)(l:List Nat):Bool:=
 match wholeR (partsR l).dropLast ahead []with
 | none=>false
 | some (_,a)=>beginsR ((partsR l).getLastD []) a
def searchR(l:List Nat):Nat->Nat
 | 0=>0
 | k+1=>if viable (-1) (l.take (k+1))=true then k+1 else searchR l k
def parseR(l:List Nat):ParP:=
 if l=[] then ⟨[],0,true⟩
 else match wholeR (partsR l) (-1) []with
  | some (o,_)=>if 500<o.length then ⟨[],0,false⟩ else ⟨o,0,true⟩
  | none=>⟨[],searchR l l.length,false⟩
theorem zR(n:Int)(l:List Nat):(cnt n l).2<=l.length:=by
 induction l generalizing n with
 | nil=>simp [cnt]
 | cons b r ih=>
  unfold cnt;split
  ·simpa using ih _
  ·simp
theorem ow(n:Int)(hn:0<n)(l:List Nat)(k:Nat)(a:k<=l.length):(l.take k).all isD=decide (k<=(cnt n l).2):=by
 induction l generalizing n k with
 | nil=>simp at a;subst a;simp [cnt]
 | cons b r ih=>
  cases k with
  | zero=>simp
  | succ k=>
   unfold cnt;cases hd:isD b
   ·simp [hd]
   ·have c:(n==0)=false:=by simp;omega
    simp only [List.take_succ_cons,List.all_cons,hd,Bool.true_and,c,Bool.false_and,Bool.not_false,if_true];have hb:48<=b/\b<=57:=by simpa [isD]using hd
    rw [ih (min (10*n+((b:Int) - 48)) 501) (by omega) k (by simpa using a)];simp
theorem vA(n m:Int)(hn:0<n)(hm:n=min m 501)(l:List Nat)(h:l.all isD=true):(cnt n l).1=min (valueR m l) 501:=by
 induction l generalizing n m with
 | nil=>simp [cnt,valueR];omega
 | cons b r ih=>
  simp only [List.all_cons,Bool.and_eq_true]at h;have hb:48<=b/\b<=57:=by simpa [isD]using h.1
  unfold cnt valueR;have d:(n==0)=false:=by simp;omega
  simp only [h.1,d,Bool.true_and,Bool.false_and,Bool.not_false,if_true];have e:(((b+208) % 256:Nat):Int)=(b:Int) - 48:=by omega
  rw [e];split
  ·exact ih _ _ (by omega) (by omega) h.2
  ·have:∀ (x:Int) (l:List Nat),x=501->l.all isD=true->(cnt x l).1=501:=by
    intro x l f a;induction l generalizing x with
    | nil=>simp [cnt,f]
    | cons c s ih2=>
     simp only [List.all_cons,Bool.and_eq_true]at a;have hc:48<=c/\c<=57:=by simpa [isD]using a.1
     unfold cnt;have d:(x==0)=false:=by simp;omega
     simp only [a.1,d,Bool.true_and,Bool.false_and,Bool.not_false,if_true];exact ih2 _ (by omega) a.2
   rw [this _ r (by omega) h.2];omega
theorem mh(l:List Nat)(k:Nat)(d:k<=l.length):((l.take k==[]) || (plainR (l.take k) && !(l.take k==[48])))=decide (k<=(cnt 0 l).2):=by
 cases l with
 | nil=>simp at d;subst d;simp [cnt]
 | cons b r=>
  cases k with
  | zero=>simp
  | succ k=>
   unfold cnt plainR;cases hd:isD b
   ·simp [hd]
   ·have hb:48<=b/\b<=57:=by simpa [isD]using hd
    by_cases c:b=48
    ·subst c;simp [hd]
    ·have e:((b::r.take k)==[48])=false:=by
      cases r.take k<;>simp [c]
     have f:(b==48)=false:=by simpa using c
     simp only [List.take_succ_cons,List.all_cons,hd,Bool.true_and,e,Bool.false_or,List.head?_cons,f,Bool.and_false,Bool.not_false,if_true,Bool.and_true];rw [ow (min (10*0+((b:Int) - 48)) 501) (by omega) r k (by simpa using d)];have e3:(some b==some 48)=false:=by simpa using c
     simp [c]
theorem pQ(l:List Nat)(h:(cnt 0 l).2=l.length):(cnt 0 l).1=min (valueR 0 l) 501:=by
 cases l with
 | nil=>simp [cnt,valueR];omega
 | cons b r=>
  unfold cnt at h ⊢;split at h
  ·rename_i hc
   simp only [hc,if_true];simp only [Bool.and_eq_true,Bool.not_eq_true']at hc;have hb:48<=b/\b<=57:=by simpa [isD]using hc.1
   have h48:b≠48:=by
    intro e;have:=hc.2;simp [e]at this
   unfold valueR;simp only [show (0:Int)<1000 by decide,if_true];have e:(((b+208) % 256:Nat):Int)=(b:Int) - 48:=by omega
   rw [e];have a:(cnt (min (10*0+((b:Int) - 48)) 501) r).2=r.length:=by simpa using h
   refine vA _ _ (by omega) (by omega) r ?_;have:=ow (min (10*0+((b:Int) - 48)) 501) (by omega) r r.length (Nat.le_refl _);rw [List.take_length,a]at this;simpa using this
  ·simp at h
theorem uB(last:Int)(l:List Nat):thr last (-1) l=match l with
  | []=>(-1,0)
  | b::r=>if isD b=true/\(((b:Int) - 48≠last)\/(49<=b/\b<=54)) then
    (match r with
    | []=>((b:Int) - 48,1)
    | c::_=>if isD c=true/\b≠48/\((b:Int) - 48)*10+((c:Int) - 48)<=63/\((b:Int) - 48)*10+((c:Int) - 48)≠last then (((b:Int) - 48)*10+((c:Int) - 48),2) else ((b:Int) - 48,1))
   else (-1,0):=by
 have k:∀ (n:Int) (r:List Nat),10<=n->thr last n r=(n,0):=by
  intro n r hn;cases r with
  | nil=>rfl
  | cons c s=>
   unfold thr;rw [if_neg];simp only [isD,growsB,beginsB,Bool.and_eq_true,Bool.or_eq_true,decide_eq_true_eq,Bool.not_eq_true',beq_eq_false_iff_ne];omega
 have j:∀ (b:Nat) (r:List Nat),48<=b->b<=57->thr last ((b:Int) - 48) r=match r with
   | []=>((b:Int) - 48,0)
   | c::_=>if isD c=true/\b≠48/\((b:Int) - 48)*10+((c:Int) - 48)<=63/\((b:Int) - 48)*10+((c:Int) - 48)≠last then (((b:Int) - 48)*10+((c:Int) - 48),1) else ((b:Int) - 48,0):=by
  intro b r h1 h2;cases r with
  | nil=>rfl
  | cons c s=>
   unfold thr;simp only;by_cases hc:isD c=true/\b≠48/\((b:Int) - 48)*10+((c:Int) - 48)<=63/\((b:Int) - 48)*10+((c:Int) - 48)≠last
   ·have f:48<=c/\c<=57:=by simpa [isD]using hc.1
    rw [if_pos hc,if_pos]
    ·have e:nxt ((b:Int) - 48) c=((b:Int) - 48)*10+((c:Int) - 48):=by unfold nxt;rw [Int.max_eq_left (by omega)]
     rw [e,k _ s (by omega)]
    ·simp only [growsB,beginsB,hc.1,Bool.true_and,Bool.and_eq_true,Bool.or_eq_true,decide_eq_true_eq,Bool.not_eq_true',beq_eq_false_iff_ne];rw [Int.max_eq_left (by omega)];omega
   ·rw [if_neg hc,if_neg];intro h;apply hc;simp only [growsB,beginsB,Bool.and_eq_true,Bool.or_eq_true,decide_eq_true_eq,Bool.not_eq_true',beq_eq_false_iff_ne]at h;rw [Int.max_eq_left (by omega)]at h;obtain⟨d,a,i⟩:=h;have f:48<=c/\c<=57:=by simpa [isD]using d
    exact⟨d,by omega,by omega,by omega⟩
 cases l with
 | nil=>rfl
 | cons b r=>
  unfold thr;simp only;by_cases a:isD b=true/\(((b:Int) - 48≠last)\/(49<=b/\b<=54))
  ·have f:48<=b/\b<=57:=by simpa [isD]using a.1
   rw [if_pos a,if_pos]
   ·have e:nxt (-1) b=(b:Int) - 48:=by unfold nxt;rw [Int.max_eq_right (by omega)];omega
    rw [e,j b r f.1 f.2];cases r with
    | nil=>rfl
    | cons c s=>simp only;split<;>rfl
   ·simp only [growsB,beginsB,a.1,Bool.true_and,Bool.and_eq_true,Bool.or_eq_true,decide_eq_true_eq,Bool.not_eq_true',beq_eq_false_iff_ne];rw [Int.max_eq_right (by omega)];omega
  ·rw [if_neg a,if_neg];intro h;apply a;simp only [growsB,beginsB,Bool.and_eq_true,Bool.or_eq_true,decide_eq_true_eq,Bool.not_eq_true',beq_eq_false_iff_ne]at h;rw [Int.max_eq_right (by omega)]at h;obtain⟨d,hc,i⟩:=h;exact⟨d,by omega⟩
theorem lX{b:Nat}(h:isD b=true){n:Int}(c:n<1000)(r:List Nat):valueR n (b::r)=valueR (10*n+((b:Int) - 48)) r:=by
 have hb':48<=b/\b<=57:=by simpa [isD]using h
 have a:(((b+208) % 256:Nat):Int)=(b:Int) - 48:=by omega
 rw [valueR,if_pos c,a]
theorem qA(n:Int):valueR n []=min n 1000:=rfl
theorem lY{b:Nat}(h:isD b=true):valueR 0 [b]=(b:Int) - 48:=by
 have hb':48<=b/\b<=57:=by simpa [isD]using h
 rw [lX h (by omega),qA];omega
theorem k8{b c:Nat}(h:isD b=true)(a:isD c=true):valueR 0 [b,c]=((b:Int) - 48)*10+((c:Int) - 48):=by
 have hb':48<=b/\b<=57:=by simpa [isD]using h
 have hc':48<=c/\c<=57:=by simpa [isD]using a
 rw [lX h (by omega),lX a (by omega),qA];omega
theorem xh(n:Int)(hn:64<=n)(l:List Nat):63<valueR n l:=by
 induction l generalizing n with
 | nil=>unfold valueR;omega
 | cons b r ih=>
  unfold valueR;split
  ·exact ih _ (by omega)
  ·omega
theorem ki(a:List Nat):(plainR a=true/\valueR 0 a<=63)↔
  (∃ b,a=[b]/\isD b=true)\/(∃ b c,a=[b,c]/\isD b=true/\isD c=true/\b≠48/\((b:Int) - 48)*10+((c:Int) - 48)<=63):=by
 constructor
 ·rintro⟨f,j⟩;rcases a with _ | ⟨b,_ | ⟨c,_ | ⟨d,r⟩⟩⟩
  ·simp [plainR]at f
  ·left;exact⟨b,rfl,by simpa [plainR]using f⟩
  ·right
   simp [plainR]at f;obtain⟨⟨e,hc⟩,i⟩:=f;rw [k8 e hc]at j;exact⟨b,c,rfl,e,hc,i,j⟩
  ·exfalso
   simp [plainR]at f;obtain⟨⟨e,hc,k,_⟩,i⟩:=f;have m:48<=b/\b<=57:=by simpa [isD]using e
   have hc':48<=c/\c<=57:=by simpa [isD]using hc
   have hd':48<=d/\d<=57:=by simpa [isD]using k
   rw [lX e (by omega),lX hc (by omega),lX k (by omega)]at j;have:=xh (10*(10*(10*0+((b:Int) - 48))+((c:Int) - 48))+((d:Int) - 48)) (by omega) r;omega
 ·rintro(⟨b,rfl,e⟩ | ⟨b,c,rfl,e,hc,i,l⟩)
  ·have m:48<=b/\b<=57:=by simpa [isD]using e
   refine⟨?_,?_⟩
   ·by_cases h:b=48
    ·subst h;rfl
    ·simp [plainR,e]
   ·rw [lY e];omega
  ·exact⟨by simp [plainR,e,hc,i],by rw [k8 e hc];exact l⟩
theorem lP{a bb:List Nat}(b:∀ x∈a,x≠42):halfA (a++42::bb)=a/\halfB (a++42::bb)=bb/\starR (a++42::bb)=true:=by
 induction a with
 | nil=>simp [halfA,halfB,starR]
 | cons x a ih=>
  have c:x≠42:=b x (by simp);obtain⟨d,e,h3⟩:=ih (fun y hy=>b y (by simp [hy]));refine⟨?_,?_,?_⟩
  ·unfold halfA at*;rw [List.cons_append,List.takeWhile_cons,if_pos (by simpa using c),d]
  ·unfold halfB at*;rw [List.cons_append,List.dropWhile_cons,if_pos (by simpa using c),e]
  ·simp [starR]
theorem lO{a:List Nat}(c:∀ x∈a,x≠42):halfA a=a/\halfB a=[]/\starR a=false:=by
 induction a with
 | nil=>simp [halfA,halfB,starR]
 | cons x a ih=>
  have b:x≠42:=c x (by simp);obtain⟨d,e,f⟩:=ih (fun y hy=>c y (by simp [hy]));refine⟨?_,?_,?_⟩
  ·unfold halfA at*;rw [List.takeWhile_cons,if_pos (by simpa using b),d]
  ·unfold halfB at*;rw [List.dropWhile_cons,if_pos (by simpa using b),e]
  ·unfold starR at*;rw [List.any_cons,f];simpa using b
theorem kB{l:List Nat}(d:l≠[])(last:Int)(h:¬(plainR (halfA l)=true/\valueR 0 (halfA l)<=63)):beginsR l last=false/\runR l last=none:=by
 have b:(!plainR (halfA l) || decide (63<valueR 0 (halfA l)))=true:=by
  cases hp:plainR (halfA l)
  ·rfl
  ·simp only [Bool.not_true,Bool.false_or,decide_eq_true_eq];by_cases c:valueR 0 (halfA l)<=63
   ·exact absurd ⟨hp,c⟩ h
   ·omega
 unfold beginsR runR;rw [if_neg d,if_pos b,b,Bool.true_or,if_pos rfl];exact⟨rfl,rfl⟩
theorem nE{a bb:List Nat}(e:∀ x∈a,x≠42)(f:plainR a=true)(hv:valueR 0 a<=63)(last:Int):
  beginsR (a++42::bb) last=(!(valueR 0 a==last) && ((bb==[]) || (plainR bb && !(bb==[48])))):=by
 obtain⟨b,c,d⟩:=lP (bb:=bb) e;unfold beginsR;rw [if_neg (by simp),b,c,d,f,if_neg (by simp;omega),if_pos rfl]
theorem mz{a:List Nat}(e:∀ x∈a,x≠42)(b:a≠[])(f:plainR a=true)(hv:valueR 0 a<=63)(last:Int):
  beginsR a last=(!(valueR 0 a==last) || (decide (1<=valueR 0 a) && decide (valueR 0 a<=6))):=by
 obtain⟨c,h2,d⟩:=lO e;unfold beginsR;rw [if_neg b,c,d,f,if_neg (by simp;omega),if_neg (by simp)]
theorem s8{a bb:List Nat}(e:∀ x∈a,x≠42)(h:plainR a=true)(hv:valueR 0 a<=63)(last:Int)(f:valueR 0 a≠last):
  runR (a++42::bb) last=if (!plainR bb || decide (valueR 0 bb<2))=true then none else some (valueR 0 a,valueR 0 bb):=by
 obtain⟨b,c,d⟩:=lP (bb:=bb) e;unfold runR;rw [b,c,d,h,if_neg (by simp;exact⟨by omega,f⟩),Bool.true_and,if_pos rfl]
theorem mT{l:List Nat}{last:Int}(a:valueR 0 (halfA l)=last):runR l last=none:=by
 unfold runR;rw [if_pos];simp [a]
theorem lW{a:List Nat}(d:∀ x∈a,x≠42)(f:plainR a=true)(hv:valueR 0 a<=63)(last:Int)(e:valueR 0 a≠last):
  runR a last=some (valueR 0 a,1):=by
 obtain⟨b,h2,c⟩:=lO d;unfold runR;rw [b,c,f,if_neg (by simp;exact⟨by omega,e⟩),if_neg (by simp),if_neg (by simp)]
structure Auto(last:Int)(q:List Nat):Prop where
 len:(runP last q).len<=q.length
 pre:∀ k,k<=q.length->beginsR (q.take k) last=decide (k<=(runP last q).len)
 yes:∀ t n,runR q last=some (t,n)->(runP last q).ok=true/\(runP last q).len=q.length/\(runP last q).thread=t/\(runP last q).count=min n 501/\1<=n
 no:runR q last=none->(runP last q).ok=true->(runP last q).len≠q.length
theorem oq(last:Int):beginsR [] last=true:=rfl
theorem r9{b:Nat}(h:isD b=true):b≠42/\b≠32:=by
 have:48<=b/\b<=57:=by simpa [isD]using h
 omega
theorem pO(last:Int)(a bb:List Nat)(l:∀ x∈a,x≠42)(p:plainR a=true)(q:valueR 0 a<=63)(d:valueR 0 a≠last)(hn0:0<=valueR 0 a)
  (F:thr last (-1) (a++42::bb)=(valueR 0 a,a.length)) (E:∀ k,k<=a.length->beginsR (a.take k) last=true):Auto last (a++42::bb):=by
 have e:runP last (a++42::bb)=⟨valueR 0 a,(cnt 0 bb).1,decide (1<(cnt 0 bb).1),a.length+1+(cnt 0 bb).2⟩:=by
  unfold runP;rw [F];have u:(a++42::bb)[a.length]?=some 42:=by simp
  have v:(a++42::bb).drop (a.length+1)=bb:=by
   rw [List.drop_append];simp
  have w:thrOk last (valueR 0 a)=true:=by
   simp only [thrOk,Bool.and_eq_true,Bool.not_eq_true',beq_eq_false_iff_ne];exact⟨by omega,d⟩
  simp only [u,v,w,Bool.true_and,beq_self_eq_true,if_true]
 have hc:=zR 0 bb;have m:∀ k,k<=bb.length->beginsR (a++42::bb.take k) last=decide (k<=(cnt 0 bb).2):=by
  intro k m;rw [nE l p q,mh bb k m];have:(valueR 0 a==last)=false:=by simpa using d
  rw [this];simp
 refine⟨?_,?_,?_,?_⟩
 ·rw [e];simp;omega
 ·intro k D;rw [e];simp only;by_cases h:k<=a.length
  ·rw [List.take_append_of_le_length h,E k h];symm;simp;omega
  ·obtain⟨j,rfl⟩:∃ j,k=a.length+1+j:=⟨k - (a.length+1),by omega⟩;have y:(a++42::bb).take (a.length+1+j)=a++42::bb.take j:=by
    rw [List.take_append,List.take_of_length_le (by omega)];have:a.length+1+j - a.length=j+1:=by omega
    rw [this,List.take_succ_cons]
   have C:j<=bb.length:=by simp at D;omega
   rw [y,m j C];by_cases A:j<=(cnt 0 bb).2<;>simp [A]<;>omega
 ·intro t n h;rw [s8 l p q last d]at h;split at h
  ·cases h
  ·rename_i hb
   simp only [Option.some.injEq,Prod.mk.injEq]at h;obtain⟨rfl,rfl⟩:=h;simp only [Bool.or_eq_true,Bool.not_eq_true',decide_eq_true_eq,not_or,Bool.not_eq_false]at hb;have o:bb≠[]:=by intro c;rw [c]at hb;simp [plainR]at hb
   have z:bb≠[48]:=by intro c;rw [c]at hb;exact hb.2 (by rw [lY (by rfl)];omega)
   have b:=mh bb bb.length (Nat.le_refl _);rw [List.take_length,hb.1]at b;have i:(bb==[])=false:=by simpa using o
   have B:(bb==[48])=false:=by simpa using z
   rw [i,B]at b;have s:bb.length<=(cnt 0 bb).2:=by simpa using b.symm
   have r:=pQ bb (by omega);rw [e];refine⟨?_,?_,rfl,r,by omega⟩
   ·simp only [decide_eq_true_eq];omega
   ·simp;omega
 ·intro h f;rw [e]at f ⊢;simp only [decide_eq_true_eq]at f;rw [s8 l p q last d]at h;split at h
  ·rename_i hb
   simp only [List.length_append,List.length_cons];intro hl;have r:=pQ bb (by omega);have b:=mh bb bb.length (Nat.le_refl _);rw [List.take_length]at b;have s:decide (bb.length<=(cnt 0 bb).2)=true:=by simp;omega
   rw [s]at b;have o:bb≠[]:=by intro c;rw [c]at f;simp [cnt]at f
   have i:(bb==[])=false:=by simpa using o
   rw [i,Bool.false_or]at b;simp only [Bool.and_eq_true]at b;rw [b.1]at hb;simp only [Bool.not_true,Bool.false_or,decide_eq_true_eq]at hb;omega
  ·cases h
theorem kx(last:Int)(a r:List Nat)(n:Int)(p:thr last (-1) (a++r)=(n,a.length))(o:∀ k,k<=a.length->beginsR (a.take k) last=true)
  (j:(thrOk last n && (r.head?==some 42))=false)
  (l:∀ k,0<k->k<=r.length->beginsR (a++r.take k) last=false)
  (q:∀ t m,runR (a++r) last=some (t,m)->thrOk last n=true/\r=[]/\n=t/\m=1)
  (i:runR (a++r) last=none->thrOk last n=true->r≠[]):Auto last (a++r):=by
 have e:runP last (a++r)=⟨n,1,thrOk last n,a.length⟩:=by
  unfold runP;rw [p];have c:(a++r)[a.length]?=r.head?:=by rw [List.getElem?_append_right (Nat.le_refl _)];simp [List.head?_eq_getElem?]
  simp only [c,j];simp
 refine⟨?_,?_,?_,?_⟩
 ·rw [e];simp
 ·intro k f;rw [e];simp only;by_cases h:k<=a.length
  ·rw [List.take_append_of_le_length h,o k h];symm;simpa using h
  ·have d:(a++r).take k=a++r.take (k - a.length):=by rw [List.take_append,List.take_of_length_le (by omega)]
   rw [d,l _ (by omega) (by simp at f;omega)];symm;simpa using h
 ·intro t m h;obtain⟨b,rfl,rfl,rfl⟩:=q t m h;rw [e];simp [b];omega
 ·intro h b;rw [e]at b ⊢;have:=i h b;simp;exact this
theorem vr(last:Int)(q:List Nat):Auto last q:=by
 have T:=uB last q;rcases q with _ | ⟨b,r⟩
 ·refine kx last [] [] (-1) T (fun k C=>?_) rfl (fun k i f=>by simp at f;omega) ?_ ?_
  ·simp [oq]
  ·intro t m h;simp [runR,halfA,plainR]at h
  ·intro _ h;simp [thrOk]at h
 ·simp only at T;by_cases B:isD b=true/\(((b:Int) - 48≠last)\/(49<=b/\b<=54))
  ·rw [if_pos B]at T;obtain⟨v,hb2⟩:=B;have D:=r9 v;have N:48<=b/\b<=57:=by simpa [isD]using v
   have o:=(ki [b]).2 (Or.inl ⟨b,rfl,v⟩);have p:=lY v;have z:∀ x∈[b],x≠42:=by simp;exact D.1
   have K:beginsR [b] last=true:=by
    rw [mz z (by simp) o.1 o.2,p];simp;omega
   have I:∀ k,k<=[b].length->beginsR ([b].take k) last=true:=by
    intro k C;have:k=0\/k=1:=by simp at C;omega
    rcases this with rfl | rfl
    ·rfl
    ·exact K
   rcases r with _ | ⟨c,r⟩
   ·refine kx last [b] [] ((b:Int) - 48) T I (by simp) (fun k i f=>by simp at f;omega) ?_ ?_
    ·intro t m h;by_cases l:(b:Int) - 48=last
     ·rw [mT (by rw [(lO (by simpa using z)).1,List.append_nil,p];exact l)]at h;cases h
     ·rw [List.append_nil,lW z o.1 o.2 last (by rw [p];exact l),p]at h;simp only [Option.some.injEq,Prod.mk.injEq]at h;exact⟨by simp [thrOk,l];omega,rfl,h.1,h.2.symm⟩
    ·intro h f;by_cases l:(b:Int) - 48=last
     ·simp [thrOk,l]at f
     ·rw [List.append_nil,lW z o.1 o.2 last (by rw [p];exact l)]at h;cases h
   ·by_cases hc:isD c=true/\b≠48/\((b:Int) - 48)*10+((c:Int) - 48)<=63/\((b:Int) - 48)*10+((c:Int) - 48)≠last
    ·simp only [if_pos hc]at T;obtain⟨E,L,Z,F⟩:=hc;have O:=r9 E;have P:48<=c/\c<=57:=by simpa [isD]using E
     have w:=(ki [b,c]).2 (Or.inr ⟨b,c,rfl,v,E,L,Z⟩);have A:=k8 v E;have H:∀ x∈[b,c],x≠42:=by simp;exact⟨D.1,O.1⟩
     have Y:beginsR [b,c] last=true:=by
      rw [mz H (by simp) w.1 w.2,A];simp;omega
     have U:∀ k,k<=[b,c].length->beginsR ([b,c].take k) last=true:=by
      intro k C;have:k=0\/k=1\/k=2:=by simp at C;omega
      rcases this with rfl | rfl | rfl
      ·rfl
      ·exact K
      ·exact Y
     have S:thrOk last (((b:Int) - 48)*10+((c:Int) - 48))=true:=by
      simp only [thrOk,Bool.and_eq_true,Bool.not_eq_true',beq_eq_false_iff_ne];exact⟨by omega,F⟩
     by_cases n:r.head?=some 42
     ·obtain⟨bb,rfl⟩:∃ bb,r=42::bb:=by
       cases r with
       | nil=>simp at n
       | cons x bb=>simp at n;exact⟨bb,by rw [n]⟩
      exact pO last [b,c] bb H w.1 w.2 (by rw [A];exact F) (by rw [A];omega) (by rw [A];exact T) U
     ·have W:∀ d s,d≠42->¬(plainR (halfA (b::c::d::s))=true/\valueR 0 (halfA (b::c::d::s))<=63):=by
       intro d s aa;have e:halfA (b::c::d::s)=b::c::d::halfA s:=by
        unfold halfA;rw [List.takeWhile_cons,if_pos (by simpa using D.1),List.takeWhile_cons,if_pos (by simpa using O.1),List.takeWhile_cons,if_pos (by simpa using aa)]
       rw [e,ki];simp
      refine kx last [b,c] r _ T U (by rw [S];simpa using n) ?_ ?_ ?_
      ·intro k i f;rcases r with _ | ⟨d,s⟩
       ·simp at f;omega
       ·obtain⟨j,rfl⟩:∃ j,k=j+1:=⟨k - 1,by omega⟩;exact(kB (by simp) last (W d (s.take j) (by simpa using n))).1
      ·intro t m h;rcases r with _ | ⟨d,s⟩
       ·rw [List.append_nil,lW H w.1 w.2 last (by rw [A];exact F),A]at h;simp only [Option.some.injEq,Prod.mk.injEq]at h;exact⟨S,rfl,h.1,h.2.symm⟩
       ·rw [show [b,c]++d::s=b::c::d::s from rfl,(kB (by simp) last (W d s (by simpa using n))).2]at h;cases h
      ·intro h _;rcases r with _ | ⟨d,s⟩
       ·rw [List.append_nil,lW H w.1 w.2 last (by rw [A];exact F)]at h;cases h
       ·simp
    ·simp only [if_neg hc]at T;by_cases n:c=42
     ·subst n;by_cases l:(b:Int) - 48=last
      ·have same:∀ s,halfA (b::42::s)=[b]:=fun s=>(lP (a:=[b]) (bb:=s) z).1
       refine kx last [b] (42::r) _ T I (by simp [thrOk,l]) ?_ ?_ ?_
       ·intro k i f;obtain⟨j,rfl⟩:∃ j,k=j+1:=⟨k - 1,by omega⟩;rw [List.take_succ_cons,nE z o.1 o.2,p];simp [l]
       ·intro t m h;rw [mT (by rw [show [b]++42::r=b::42::r from rfl,same,p];exact l)]at h;cases h
       ·intro _ h;simp [thrOk,l]at h
      ·exact pO last [b] r z o.1 o.2 (by rw [p];exact l) (by rw [p];omega) (by rw [p];exact T) I
     ·have X:∀ s,(plainR (halfA (b::c::s))=true/\valueR 0 (halfA (b::c::s))<=63)->halfA (b::c::s)=[b,c]/\isD c=true/\b≠48/\((b:Int) - 48)*10+((c:Int) - 48)=last:=by
       intro s h;have e:halfA (b::c::s)=b::c::halfA s:=by
        unfold halfA;rw [List.takeWhile_cons,if_pos (by simpa using D.1),List.takeWhile_cons,if_pos (by simpa using n)]
       rw [e,ki]at h;rcases h with ⟨b',h,_⟩ | ⟨b',c',h,i,f,u,h4⟩
       ·simp at h
       ·simp only [List.cons.injEq]at h;obtain⟨rfl,rfl,M⟩:=h;refine⟨by rw [e,M],f,u,?_⟩;by_cases y:((b:Int) - 48)*10+((c:Int) - 48)=last
        ·exact y
        ·exact absurd ⟨f,u,h4,y⟩ hc
      have ac:∀ s,runR (b::c::s) last=none:=by
       intro s;by_cases h:plainR (halfA (b::c::s))=true/\valueR 0 (halfA (b::c::s))<=63
       ·obtain⟨i,f,_,u⟩:=X s h;exact mT (by rw [i,k8 v f];exact u)
       ·exact(kB (by simp) last h).2
      refine kx last [b] (c::r) _ T I (by simp [n]) ?_ ?_ ?_
      ·intro k i f;obtain⟨j,rfl⟩:∃ j,k=j+1:=⟨k - 1,by omega⟩;rw [List.take_succ_cons];by_cases h:plainR (halfA (b::c::r.take j))=true/\valueR 0 (halfA (b::c::r.take j))<=63
       ·obtain⟨i,f,L,u⟩:=X _ h;have P:48<=c/\c<=57:=by simpa [isD]using f
        have R:=k8 v f;show beginsR (b::c::r.take j) last=false
        unfold beginsR;rw [if_neg (by simp),i,R,u,if_neg (by rw [i]at h;simp [h.1];rw [R]at h;omega)];split
        ·simp
        ·simp;omega
       ·exact(kB (by simp) last h).1
      ·intro t m h;rw [show [b]++c::r=b::c::r from rfl,ac]at h;cases h
      ·intro _ _;simp
  ·rw [if_neg B]at T;have bad:∀ s,beginsR (b::s) last=false/\runR (b::s) last=none:=by
    intro s;by_cases h:plainR (halfA (b::s))=true/\valueR 0 (halfA (b::s))<=63
    ·have Q:=(ki _).1 h;have hh:∃ V,halfA (b::s)=b::V:=by
      unfold halfA;rw [List.takeWhile_cons];split
      ·exact⟨_,rfl⟩
      ·rename_i h42
       rw [halfA,List.takeWhile_cons,if_neg h42]at h;simp [plainR]at h
     obtain⟨V,G⟩:=hh;rw [G]at Q;rcases Q with ⟨b',i,f⟩ | ⟨b',c',i,f,u,h4,M⟩
     ·simp only [List.cons.injEq]at i;obtain⟨rfl,rfl⟩:=i;have l:(b:Int) - 48=last/\¬(49<=b/\b<=54):=by
       refine⟨?_,fun y=>B ⟨f,Or.inr y⟩⟩;by_cases y:(b:Int) - 48=last
       ·exact y
       ·exact absurd ⟨f,Or.inl y⟩ B
      have N:48<=b/\b<=57:=by simpa [isD]using f
      have J:=lY f;refine⟨?_,mT (by rw [G,J];exact l.1)⟩;unfold beginsR;rw [if_neg (by simp),G,J,l.1,if_neg (by rw [G]at h;simp [h.1];rw [J]at h;omega)];split
      ·simp
      ·simp;omega
     ·simp only [List.cons.injEq]at i;obtain⟨rfl,rfl⟩:=i;have N:48<=b/\b<=57:=by simpa [isD]using f
      have P:48<=c'/\c'<=57:=by simpa [isD]using u
      exact absurd ⟨f,Or.inr (by omega)⟩ B
    ·exact kB (by simp) last h
   refine kx last [] (b::r) (-1) T (fun k C=>by simp [oq]) (by simp [thrOk]) ?_ ?_ ?_
   ·intro k i f;obtain⟨j,rfl⟩:∃ j,k=j+1:=⟨k - 1,by omega⟩;exact(bad _).1
   ·intro t m h;rw [List.nil_append,(bad r).2]at h;cases h
   ·intro _ h;simp [thrOk]at h
theorem vf(last n:Int)(l:List Nat):(thr last n l).2<=l.length:=by
 induction l generalizing n with
 | nil=>simp [thr]
 | cons b r ih=>
  unfold thr;split
  ·simpa using ih _
  ·simp
theorem xd(last n:Int)(q u:List Nat):thr last n (q++32::u)=thr last n q:=by
 induction q generalizing n with
 | nil=>simp [thr,isD]
 | cons b r ih=>simp only [List.cons_append,thr,ih]
theorem vz(n:Int)(q u:List Nat):cnt n (q++32::u)=cnt n q:=by
 induction q generalizing n with
 | nil=>simp [cnt,isD]
 | cons b r ih=>simp only [List.cons_append,cnt,ih]
theorem uw(last:Int)(q u:List Nat):runP last (q++32::u)=runP last q:=by
 have hl:=vf last (-1) q;unfold runP;rw [xd];generalize (thr last (-1) q).2=j at*;by_cases h:j<q.length
 ·have a:(q++32::u)[j]?=q[j]?:=List.getElem?_append_left h;have b:(q++32::u).drop (j+1)=q.drop (j+1)++32::u:=by
   rw [List.drop_append];have:j+1 - q.length=0:=by omega
   rw [this,List.drop_zero]
  rw [a,b,vz]
 ·obtain rfl:j=q.length:=by omega
  have a:(q++32::u)[q.length]?=some 32:=by simp
  have b:q[q.length]?=none:=by simp
  rw [a,b];have c:((some 32:Option Nat)==some 42)=false:=by decide
  have d:((none:Option Nat)==some 42)=false:=by decide
  rw [c,d];simp
theorem nw(q:List Nat)(h:∀ x∈q,x≠32):partsR q=[q]:=by
 induction q with
 | nil=>rfl
 | cons b r ih=>
  have a:b≠32:=h b (by simp);rw [partsR,if_neg a,ih (fun x hx=>h x (by simp [hx]))];rfl
theorem nx(q u:List Nat)(h:∀ x∈q,x≠32):partsR (q++32::u)=q::partsR u:=by
 induction q with
 | nil=>simp [partsR]
 | cons b r ih=>
  have a:b≠32:=h b (by simp);rw [List.cons_append,partsR,if_neg a,ih (fun x hx=>h x (by simp [hx]))];rfl
theorem oS(l:List Nat):partsR l≠[]:=by
 cases l with
 | nil=>simp [partsR]
 | cons b r=>unfold partsR;split<;>simp
theorem tk(l:List Nat):(∀ x∈l,x≠32)\/∃ q u,l=q++32::u/\∀ x∈q,x≠32:=by
 induction l with
 | nil=>left;simp
 | cons b r ih=>
  by_cases c:b=32
  ·right;exact⟨[],r,by simp [c],by simp⟩
  ·rcases ih with h | ⟨q,u,rfl,h⟩
   ·left
    intro x a;rcases List.mem_cons.1 a with rfl | a
    ·exact c
    ·exact h x a
   ·right
    refine⟨b::q,u,rfl,?_⟩;intro x a;rcases List.mem_cons.1 a with rfl | a
    ·exact c
    ·exact h x a
theorem xp(b:List (List Nat))(a:Int)(o c:List Int):(wholeR b a o).map (·.2)=(wholeR b a c).map (·.2):=by
 induction b generalizing a o c with
 | nil=>rfl
 | cons q b ih=>
  unfold wholeR;cases runR q a with
  | none=>rfl
  | some x=>exact ih _ _ _
theorem qB(b:Int)(l:List Nat):viable b l=match (wholeR (partsR l).dropLast b []).map (·.2)with
  | none=>false
  | some a=>beginsR ((partsR l).getLastD []) a:=by
 unfold viable;cases wholeR (partsR l).dropLast b []<;>rfl
theorem lm(a:Int)(q:List Nat)(h:∀ x∈q,x≠32):viable a q=beginsR q a:=by
 unfold viable;rw [nw q h];rfl
theorem mx(c:Int)(q u:List Nat)(h:∀ x∈q,x≠32):viable c (q++32::u)=match runR q c with
  | none=>false
  | some x=>viable x.1 u:=by
 rw [qB,nx q u h];have d:(q::partsR u).dropLast=q::(partsR u).dropLast:=by rw [List.dropLast_cons_of_ne_nil (oS u)]
 have e:(q::partsR u).getLastD []=(partsR u).getLastD []:=by
  cases hp:partsR u with
  | nil=>exact absurd hp (oS u)
  | cons a b=>rfl
 rw [d,e,wholeR];cases runR q c with
 | none=>rfl
 | some x=>
  simp only;rw [qB,xp _ _ _ []]
structure IsLng(ahead:Int)(l:List Nat)(m:Nat):Prop where
 le:m<=l.length
 yes:viable ahead (l.take m)=true
 no:∀ k,m<k->k<=l.length->viable ahead (l.take k)=false
theorem uz{l:List Nat}{m:Nat}(h:IsLng (-1) l m)(n:Nat)(hm:m<=n)(a:n<=l.length):searchR l n=m:=by
 induction n with
 | zero=>simp [searchR];omega
 | succ n ih=>
  unfold searchR;by_cases e:m=n+1
  ·rw [if_pos]
   ·exact e.symm
   ·rw [<-e];exact h.yes
  ·rw [if_neg (by rw [h.no (n+1) (by omega) a];simp)];exact ih (by omega) (by omega)
theorem pk{q u:List Nat}{k:Nat}(h:k<=q.length):(q++32::u).take k=q.take k:=List.take_append_of_le_length h
theorem mW{q:List Nat}(h:∀ x∈q,x≠32)(k:Nat):∀ x∈q.take k,x≠32:=fun x hx=>h x (List.mem_of_mem_take hx)
theorem nC(q u:List Nat)(j:Nat):(q++32::u).take (q.length+1+j)=q++32::u.take j:=by
 rw [List.take_append,List.take_of_length_le (by omega)];have:q.length+1+j - q.length=j+1:=by omega
 rw [this,List.take_succ_cons]
theorem Ax{last:Int}{q:List Nat}(h:∀ x∈q,x≠32):IsLng last q (runP last q).len:=by
 have A:=vr last q;refine⟨A.len,?_,?_⟩
 ·rw [lm _ _ (mW h _),A.pre _ A.len];simp
 ·intro k h1 a;rw [lm _ _ (mW h _),A.pre _ a];simp;omega
theorem sD{last:Int}{q u:List Nat}(h:∀ x∈q,x≠32)(b:runR q last=none):IsLng last (q++32::u) (runP last q).len:=by
 have A:=vr last q;have hl:=A.len;refine⟨by simp;omega,?_,?_⟩
 ·rw [pk A.len,lm _ _ (mW h _),A.pre _ A.len];simp
 ·intro k h1 h2;by_cases a:k<=q.length
  ·rw [pk a,lm _ _ (mW h _),A.pre _ a];simp;omega
  ·obtain⟨j,rfl⟩:∃ j,k=q.length+1+j:=⟨k - (q.length+1),by omega⟩;rw [nC,mx _ _ _ h,b]
theorem Ay{last t n:Int}{q u:List Nat}{m:Nat}(h:∀ x∈q,x≠32)(b:runR q last=some (t,n))(a:IsLng t u m):IsLng last (q++32::u) (q.length+1+m):=by
 have hl:=a.le;refine⟨by simp;omega,?_,?_⟩
 ·rw [nC,mx _ _ _ h,b];exact a.yes
 ·intro k h1 c;obtain⟨j,rfl⟩:∃ j,k=q.length+1+j:=⟨k - (q.length+1),by omega⟩;rw [nC,mx _ _ _ h,b];exact a.no j (by omega) (by simp at c;omega)
theorem AA(f:Nat)(b out:List Int)(last a:Int)(at_:Nat)(l:List Nat)(C:l.length<f)(ht:a=out.length)(H:a<501->b=out)(h501:a<=501):
  match wholeR (partsR l) last out with
  | some (o,_)=>loopP f b last a at_ l=if 500<o.length then ⟨[],0,false⟩ else ⟨o,0,true⟩
  | none=>∃ m,IsLng last l m/\loopP f b last a at_ l=⟨[],at_+m,false⟩:=by
 induction f generalizing b out last a at_ l with
 | zero=>omega
 | succ f ih=>
  have next:∀ (q:List Nat) (t n:Int),runR q last=some (t,n)->min (a+(runP last q).count) 501=((fillR out t n).length:Int)/\
    (min (a+(runP last q).count) 501<501->addRun b (min (a+(runP last q).count) 501) (runP last q).count (runP last q).thread=fillR out t n):=by
   intro q t n h;obtain⟨i,j,k,p,s⟩:=(vr last q).yes t n h;have e:((fillR out t n).length:Int)=min (a+(runP last q).count) 501:=by
    unfold fillR;simp;omega
   refine⟨e.symm,fun c=>?_⟩;unfold addRun fillR;rw [if_pos c,k,p,H (by omega)];have:(min n 501).toNat=min n.toNat (501 - out.length):=by omega
   rw [this]
  rcases tk l with hb | ⟨q,u,rfl,hb⟩
  ·rw [nw l hb];simp only [wholeR];have A:=vr last l;cases hr:runR l last with
   | none=>
    simp only;refine⟨(runP last l).len,Ax hb,?_⟩;unfold loopP;by_cases d:(runP last l).ok=true
    ·have G:=A.no hr d;have c:(runP last l).len<l.length:=by have:=A.len;omega
     rw [if_pos d,List.drop_eq_getElem_cons c];simp only;rw [if_neg (hb _ (List.getElem_mem c))]
    ·rw [if_neg d]
   | some x=>
    obtain⟨t,n⟩:=x;simp only;obtain⟨i,j,k,p,s⟩:=A.yes t n hr;obtain⟨z,r⟩:=next l t n hr;unfold loopP;rw [if_pos i,j,List.drop_length];simp only;by_cases v:min (a+(runP last l).count) 501=501
    ·rw [if_pos v,if_pos (by omega)]
    ·rw [if_neg v,if_neg (by omega),r (by omega)]
  ·rw [nx q u hb];simp only [wholeR];have A:=vr last q;have w:=uw last q u;cases hr:runR q last with
   | none=>
    simp only;refine⟨(runP last q).len,sD hb hr,?_⟩;unfold loopP;rw [w];by_cases d:(runP last q).ok=true
    ·have G:=A.no hr d;have c:(runP last q).len<q.length:=by have:=A.len;omega
     have D:(runP last q).len<(q++32::u).length:=by simp;omega
     rw [if_pos d,List.drop_eq_getElem_cons D];simp only;rw [if_neg];rw [List.getElem_append_left c];exact hb _ (List.getElem_mem c)
    ·rw [if_neg d]
   | some x=>
    obtain⟨t,n⟩:=x;simp only;obtain⟨i,j,k,p,s⟩:=A.yes t n hr;obtain⟨z,r⟩:=next q t n hr;have e:loopP (f+1) b last a at_ (q++32::u)=loopP f (addRun b (min (a+(runP last q).count) 501) (runP last q).count (runP last q).thread) t (min (a+(runP last q).count) 501) (at_+q.length+1) u:=by
     conv=>lhs;unfold loopP
     rw [w,if_pos i,j];have B:(q++32::u).drop q.length=32::u:=by simp
     rw [B];simp only [if_true,k]
    rw [e];have:=ih (addRun b (min (a+(runP last q).count) 501) (runP last q).count (runP last q).thread) (fillR out t n) t (min (a+(runP last q).count) 501) (at_+q.length+1) u (by simp at C;omega) z r (by omega);cases hw:wholeR (partsR u) t (fillR out t n)with
    | none=>
     rw [hw]at this;simp only at this ⊢;obtain⟨m,E,F⟩:=this;exact⟨q.length+1+m,Ay hb hr E,by rw [F];congr 1;omega⟩
    | some y=>
     rw [hw]at this;exact this
theorem mO(l:List Nat):parseP l=parseR l:=by
 unfold parseP parseR;by_cases a:l=[]
 ·rw [if_pos a,if_pos a]
 ·rw [if_neg a,if_neg a];have:=AA (l.length+1) [] [] (-1) 0 0 l (by omega) rfl (fun _=>rfl) (by omega);cases hw:wholeR (partsR l) (-1) []with
  | none=>
   rw [hw]at this;obtain⟨m,b,c⟩:=this;simp only;rw [c,uz b l.length b.le (Nat.le_refl _)];simp
  | some y=>rw [hw]at this;exact this
def shN(c:Nat):Nat:=if c % 2=1 then (c / 2) ^^^ 3988292384 else c / 2
theorem zE(c d:Nat):(c ^^^ d) / 2=c / 2 ^^^ d / 2:=by
 apply Nat.eq_of_testBit_eq;intro i;simp [Nat.testBit_div_two,Nat.testBit_xor]
theorem Bn(c d:Nat):(c ^^^ d) % 2=(c+d) % 2:=by
 have h:=Nat.testBit_xor c d 0;simp only [Nat.testBit_zero]at h;have h1:(c ^^^ d) % 2<2:=Nat.mod_lt _ (by decide);have h2:c % 2<2:=Nat.mod_lt _ (by decide);have h3:d % 2<2:=Nat.mod_lt _ (by decide);have a:c % 2=0\/c % 2=1:=by omega
 have b:d % 2=0\/d % 2=1:=by omega
 have e:(c ^^^ d) % 2=0\/(c ^^^ d) % 2=1:=by omega
 rcases a with a | a<;>rcases b with b | b<;>rcases e with e | e<;>simp [a,b,e]at h<;>omega
theorem zi{c:Nat}(h:c<4294967296):shN c<4294967296:=by
 unfold shN;split
 ·exact Nat.xor_lt_two_pow (n:=32) (by omega) (by decide)
 ·omega
def shK:Nat->Nat->Nat
 | 0,c=>c
 | k+1,c=>shK k (shN c)
theorem BX(k:Nat){c:Nat}(h:c<4294967296):shK k c<4294967296:=by
 induction k generalizing c with
 | zero=>exact h
 | succ k ih=>exact ih (zi h)
theorem ve(j k c:Nat):shK (j+k) c=shK k (shK j c):=by
 induction j generalizing c with
 | zero=>rw [Nat.zero_add];rfl
 | succ j ih=>rw [Nat.succ_add,shK,ih];rfl
def crcF(c:Nat)(l:List Nat):Nat:=l.foldl (fun c b=>shK 8 (c ^^^ b)) c
def crcN(l:List Nat):Nat:=4294967295 ^^^ crcF 4294967295 l
theorem uL(c:Nat)(l:List Nat)(hc:c<4294967296)(a:∀ b∈l,b<256):crcF c l<4294967296:=by
 induction l generalizing c with
 | nil=>exact hc
 | cons b r ih=>
  have hb:=a b (by simp);exact ih _ (BX 8 (Nat.xor_lt_two_pow (n:=32) (by omega) (by omega))) (fun x hx=>a x (by simp [hx]))
theorem nH(c:Nat)(l m:List Nat):crcF c (l++m)=crcF (crcF c l) m:=by simp [crcF]
def leB:Nat->Nat->List Nat
 | 0,_=>[]
 | k+1,x=>x % 256::leB k (x / 256)
theorem lS(k x:Nat):(leB k x).length=k:=by
 induction k generalizing x with
 | zero=>rfl
 | succ k ih=>simp [leB,ih]
theorem BL(k x:Nat):∀ b∈leB k x,b<256:=by
 induction k generalizing x with
 | zero=>simp [leB]
 | succ k ih=>
  intro b a;rcases List.mem_cons.1 a with rfl | a
  ·exact Nat.mod_lt _ (by decide)
  ·exact ih _ b a
theorem uM(l:List Nat)(hl:∀ b∈l,b<256):crcN l<4294967296:=Nat.xor_lt_two_pow (n:=32) (by decide) (uL _ l (by decide) hl)
end
end Go.Proofs.YtklenjmfalljgabGreatDoor
