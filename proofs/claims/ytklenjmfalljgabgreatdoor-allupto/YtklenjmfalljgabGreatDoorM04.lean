/- The texts Frm Frn Fro Frr Fha Fhb Fhc Frs. -/
import Derived.Test.YtklenjmfalljgabGreatDoorM02
import Derived.RowKit
import Derived.Maps.Own
import Derived.Maps.OwnOps
import Derived.Maps.Views
import Derived.DeepKeys4
import Derived.Deep.DeepCutAuto
namespace Go.Proofs.YtklenjmfalljgabGreatDoor
set_option maxRecDepth 100000
set_option maxHeartbeats 8000000
section
section
variable {α : Type} (d : α -> α -> Bool) (th : α -> Nat)
def jj:List (α × Nat)->α->Nat
 | [],_=>0
 | y::r,x=>if d y.1 x=true then max (y.2+1) (jj r x) else jj r x
def tl:List (α × Nat)->List α->List (α × Nat)
 | _,[]=>[]
 | past,x::r=>(x,jj d past x)::tl ((x,jj d past x)::past) r
theorem uY(a b:List (α × Nat))(x:α):jj d (a++b) x=max (jj d a x) (jj d b x):=by
 induction a with
 | nil=>simp [jj]
 | cons y r ih=>
  simp only [List.cons_append,jj,ih];split<;>omega
theorem yy{a b:List (α × Nat)}(h:a.Perm b)(x:α):jj d a x=jj d b x:=by
 induction h with
 | nil=>rfl
 | cons y _ ih=>simp only [jj,ih]
 | swap y z l=>
  simp only [jj];split<;>split<;>omega
 | trans _ _ ih1 ih2=>rw [ih1,ih2]
theorem Es{a b:List (α × Nat)}(h:a.Perm b)(xs:List α):tl d a xs=tl d b xs:=by
 induction xs generalizing a b with
 | nil=>rfl
 | cons x r ih=>
  simp only [tl];rw [yy d h x,ih (h.cons _)]
theorem AY(past:List (α × Nat))(xs a:List α):tl d past (xs++a)=tl d past xs++tl d (tl d past xs++past) a:=by
 induction xs generalizing past with
 | nil=>simp [tl]
 | cons x r ih=>
  simp only [List.cons_append,tl];rw [ih];congr 2
  exact Es d (by simp) a
theorem sT(past:List (α × Nat))(xs:List α):(tl d past xs).map (·.1)=xs:=by
 induction xs generalizing past with
 | nil=>rfl
 | cons x r ih=>simp only [tl,List.map_cons,ih]
theorem jB(past:List (α × Nat))(xs:List α):(tl d past xs).length=xs.length:=by
 have:=congrArg List.length (sT d past xs);simpa using this
theorem Er(xs:List α)(x:α):tl d [] (xs++[x])=tl d [] xs++[(x,jj d (tl d [] xs) x)]:=by
 rw [AY];simp [tl]
theorem B7{past:List (α × Nat)}{y:α × Nat}{x:α}(h:y∈past)(a:d y.1 x=true):y.2+1<=jj d past x:=by
 induction past with
 | nil=>cases h
 | cons z r ih=>
  simp only [jj];rcases List.mem_cons.1 h with h | h
  ·subst h;rw [if_pos a];omega
  ·have:=ih h;split<;>omega
theorem ql{past:List (α × Nat)}{x:α}{n:Nat}(h:∀ y∈past,d y.1 x=true->y.2+1<=n):jj d past x<=n:=by
 induction past with
 | nil=>simp [jj]
 | cons z r ih=>
  simp only [jj];have a:=ih (fun y hy=>h y (List.mem_cons_of_mem _ hy));split
  ·have:=h z (List.mem_cons_self ..) ‹_›;omega
  ·exact a
def Eqv(xs ys:List α):Prop:=∀ R:List α->List α->Prop,(∀ a,R a a)->(∀ (a:List α) (x y:α) (b:List α),d x y=false->d y x=false->R (a++x::y::b) (a++y::x::b))->(∀ a b c,R a b->R b c->R a c)->R xs ys
variable {d}
theorem Eqv.refl(xs:List α):Eqv d xs xs:=fun _ h _ _=>h xs
theorem Eqv.swap(a:List α)(x y:α)(b:List α)(h1:d x y=false)(h2:d y x=false):Eqv d (a++x::y::b) (a++y::x::b):=fun _ _ h _=>h a x y b h1 h2
theorem Eqv.trans{xs ys zs:List α}(h:Eqv d xs ys)(h':Eqv d ys zs):Eqv d xs zs:=fun R h1 h2 h3=>h3 xs ys zs (h R h1 h2 h3) (h' R h1 h2 h3)
theorem Eqv.snoc{xs c:List α}(h:Eqv d xs c)(z:α):Eqv d (xs++[z]) (c++[z]):=by
 refine h (fun xs c=>Eqv d (xs++[z]) (c++[z])) (fun _=>Eqv.refl _) (fun a x y b h1 h2=>?_) (fun _ _ _ i1 i2=>i1.trans i2);simpa using Eqv.swap a x y (b++[z]) h1 h2
end
theorem tk:∀ {a b:List (Nat × Nat)},a.Perm b->a.Pairwise (fun x y=>x.1<y.1\/(x.1=y.1/\x.2<=y.2))->b.Pairwise (fun x y=>x.1<y.1\/(x.1=y.1/\x.2<=y.2))->a=b
 | [],b,h,_,_=>(List.nil_perm.1 h).symm
 | x::a,[],h,_,_=>absurd h.length_eq (by simp)
 | x::a,y::b,h,h1,h2=>by
  rw [List.pairwise_cons]at h1 h2;have e:x=y:=by
   have c:x∈y::b:=h.mem_iff.1 (List.mem_cons_self ..);have d:y∈x::a:=h.mem_iff.2 (List.mem_cons_self ..);rcases List.mem_cons.1 c with c | c
   ·exact c
   ·rcases List.mem_cons.1 d with d | d
    ·exact d.symm
    ·have k1:=h1.1 y d;have k2:=h2.1 x c;obtain⟨x1,x2⟩:=x;obtain⟨i,f⟩:=y;simp only at k1 k2;have k:x1=i:=by omega
     have j:x2=f:=by omega
     rw [k,j]
  subst e;rw [tk (List.perm_cons _ |>.1 h) h1.2 h2.2]
end
section
open Go.RowKit (wrap64)
def tou(i:Ins):Nat × Nat:=if i.op=9\/i.op=10 then (1,i.a.toNat) else if i.op=2 then (2,i.b.toNat) else if i.op=3 then (3,i.a.toNat) else (0,0)
def md(x y:Nat × Nat):Bool:=x.1 !=0 && y.1 !=0 && x.2==y.2 && ((x.1==1)==(y.1==1)) && !(x.1==2 && y.1==2)
structure Ev where
 t:Nat
 k:Int
 bad:Bool
def jb(p:List (List Ins))(x y:Ev):Bool:=x.bad || y.bad || x.t==y.t || md (tou (jw p x.t x.k)) (tou (jw p y.t y.k))
def FT(p:List (List Ins))(s:St)(x:Ev):Prop:=x.t<p.length/\jF p s x.t=true/\s.next x.t=x.k/\(jQ p s x.t).1= !x.bad
def RunE(p:List (List Ins)):St->List Ev->St->Prop
 | s,[],s'=>s'=s
 | s,x::r,s'=>FT p s x/\RunE p (jQ p s x.t).2 r s'
theorem St.eq_of{s a:St}(d:s.vars=a.vars)(f:s.held=a.held)(b:s.own=a.own)(c:s.regs=a.regs)(e:s.next=a.next):s=a:=by
 cases s;cases a;simp at*;exact⟨d,f,b,c,e⟩
theorem RunE.append{p:List (List Ins)}:∀ {a b:List Ev} {s s':St},RunE p s (a++b) s'↔∃ s1,RunE p s a s1/\RunE p s1 b s'
 | [],b,s,s'=>by simp [RunE]
 | x::a,b,s,s'=>by
  simp only [List.cons_append,RunE,RunE.append (a:=a)];constructor
  ·rintro⟨h1,s1,h2,h3⟩;exact⟨s1,⟨h1,h2⟩,h3⟩
  ·rintro⟨s1,⟨h1,h2⟩,h3⟩;exact⟨h1,s1,h2,h3⟩
end
section
def Ev.tI(e:Ev):Int:=(e.t:Int)
def Ev.pr(e:Ev):Int × Int:=((e.t:Int),e.k)
def evG(x:Int × Int):Ev:=⟨x.1.toNat,x.2,false⟩
def evB(x:Int × Int):Ev:=⟨x.1.toNat,x.2,true⟩
def good(xs:List Ev):Prop:=∀ e∈xs,e.bad=false
def uy(o:Out):List Ev:=if o.kind=1 then o.steps.dropLast.map evG++(o.steps.getLast?.map evB).toList else o.steps.map evG
theorem Fx{e:Ev}(h:e.bad=false):evG e.pr=e:=by cases e;simp [evG,Ev.pr]at*;exact h
theorem Fq{e:Ev}(h:e.bad=true):evB e.pr=e:=by cases e;simp [evB,Ev.pr]at*;exact h
theorem zO{xs:List Ev}(h:good xs):(xs.map Ev.pr).map evG=xs:=by
 induction xs with
 | nil=>rfl
 | cons x r ih=>
  simp only [List.map_cons];rw [Fx (h x (List.mem_cons_self ..)),ih (fun e he=>h e (List.mem_cons_of_mem _ he))]
theorem yN{o:Out}{xs:List Ev}(a:o.kind≠1)(b:o.steps=xs.map Ev.pr)(h:good xs):uy o=xs:=by
 unfold uy;rw [if_neg a,b,zO h]
theorem Ax{o:Out}{a:List Ev}{z:Ev}(c:o.kind=1)(d:o.steps=(a++[z]).map Ev.pr)(h:good a)(b:z.bad=true):uy o=a++[z]:=by
 unfold uy;rw [if_pos c,d];simp [zO h,Fq b]
theorem zM{p:List (List Ins)}{s:St}{x:Ev}(h:FT p s x):mZ p s x.tI=true:=by
 obtain⟨b,a,_⟩:=h;simp [mZ,jE,Ev.tI,b,a]
theorem nb(p:List (List Ins)):∀ (l:List Int) (i:Int) (s:St) (b:List (Int × Int)),∃ xs s',RunE p s xs s'/\(je p l i s b).steps=b++xs.map Ev.pr/\(je p l i s b).st=s'/\
  ((good xs/\xs.map Ev.tI=l/\(je p l i s b).kind=jR p s'/\(je p l i s b).thread=0/\(je p l i s b).at_=0)\/
   (good xs/\(∃ u r,l=xs.map Ev.tI++u::r/\mZ p s' u=false)/\(je p l i s b).kind=2/\(je p l i s b).thread=0/\(je p l i s b).at_=i+xs.length)\/
   (∃ ys z r,xs=ys++[z]/\good ys/\z.bad=true/\l=xs.map Ev.tI++r/\(je p l i s b).kind=1/\(je p l i s b).thread=z.tI/\(je p l i s b).at_=z.k))
 | [],i,s,b=>⟨[],s,rfl,by simp [je],rfl,Or.inl ⟨by simp [good],rfl,rfl,rfl,rfl⟩⟩
 | t::r,i,s,b=>by
  by_cases h1:mZ p s t=true
  ·have hb:0<=t/\t<p.length/\jF p s t.toNat=true:=by
    simp [mZ,jE]at h1;exact⟨h1.1.1,h1.1.2,h1.2⟩
   obtain⟨hb1,hb2,m⟩:=hb;have c:((t.toNat:Nat):Int)=t:=by omega
   by_cases f:(jQ p s t.toNat).1=true
   ·obtain⟨xs,s',o,q,v,hc⟩:=nb p r (i+1) (jQ p s t.toNat).2 (b++[(t,s.next t.toNat)]);rw [nU p t r i s b h1 f];have n:FT p s ⟨t.toNat,s.next t.toNat,false⟩:=⟨by simp only;omega,m,rfl,by simpa using f⟩;refine⟨⟨t.toNat,s.next t.toNat,false⟩::xs,s',⟨n,o⟩,?_,v,?_⟩
    ·rw [q];simp [Ev.pr,c]
    ·have j:∀ {zs:List Ev},good zs->good (⟨t.toNat,s.next t.toNat,false⟩::zs):=fun h e he=>by
      rcases List.mem_cons.1 he with he | he
      ·rw [he]
      ·exact h e he
     rcases hc with ⟨g1,g2,g3,g4,g5⟩ | ⟨g1,⟨u,r',g2,g2'⟩,g3,g4,g5⟩ | ⟨ys,z,r',g1,g2,g3,g4,g5,g6,g7⟩
     ·exact Or.inl ⟨j g1,by simp [Ev.tI,c];exact g2,g3,g4,g5⟩
     ·exact Or.inr (Or.inl ⟨j g1,⟨u,r',by simp [Ev.tI,c];exact g2,g2'⟩,g3,g4,by rw [g5];simp;omega⟩)
     ·exact Or.inr (Or.inr ⟨⟨t.toNat,s.next t.toNat,false⟩::ys,z,r',by rw [g1];rfl,j g2,g3,by simp [Ev.tI,c];exact g4,g5,g6,g7⟩)
   ·have d:(jQ p s t.toNat).1=false:=by simpa using f
    rw [mT p t r i s b h1 d];refine⟨[⟨t.toNat,s.next t.toNat,true⟩],_,⟨⟨by simp only;omega,m,rfl,by simpa using d⟩,rfl⟩,by simp [Ev.pr,c],rfl,Or.inr (Or.inr ⟨[],_,r,rfl,by simp [good],rfl,by simp [Ev.tI,c],rfl,by simp [Ev.tI,c],rfl⟩)⟩
  ·have d:mZ p s t=false:=by simpa using h1
   rw [kq p t r i s b d];exact⟨[],s,rfl,by simp,rfl,Or.inr (Or.inl ⟨by simp [good],⟨t,r,rfl,d⟩,rfl,rfl,by simp⟩)⟩
theorem np(p:List (List Ins)):∀ (xs:List Ev) (l:List Int) (i:Int) (s s':St) (acc:List (Int × Int)),good xs->RunE p s xs s'->je p (xs.map Ev.tI++l) i s acc=je p l (i+xs.length) s' (acc++xs.map Ev.pr)
 | [],l,i,s,s',acc,_,h=>by cases h;simp
 | x::r,l,i,s,s',acc,hg,⟨h1,h2⟩=>by
  have hb:=hg x (List.mem_cons_self ..);have hok:=zM h1;obtain⟨g1,g2,g3,g4⟩:=h1;have e1:x.tI.toNat=x.t:=by simp [Ev.tI]
  rw [List.map_cons,List.cons_append,nU p _ _ i s acc hok (by rw [e1,g4,hb];rfl),e1,np p r l (i+1) _ s' _ (fun e he=>hg e (List.mem_cons_of_mem _ he)) h2];congr 1
  ·simp;omega
  ·simp [Ev.pr,Ev.tI,g3]
theorem xL{p:List (List Ins)}{a:List Ev}{z:Ev}{i:Int}{s e:St}{b:List (Int × Int)}(n:good a)(l:z.bad=true)(h:RunE p s (a++[z]) e):je p ((a++[z]).map Ev.tI) i s b=⟨b++(a++[z]).map Ev.pr,1,z.tI,z.k,e⟩:=by
 rw [RunE.append]at h;obtain⟨c,q,d,j⟩:=h;have o:=zM d;obtain⟨g1,g2,r,m⟩:=d;have f:z.tI.toNat=z.t:=by simp [Ev.tI]
 rw [List.map_append,np p a _ i s c b n q,List.map_cons,List.map_nil,mT p _ _ _ c _ o (by rw [f,m,l];rfl),f,r];cases j
 simp [Ev.pr,Ev.tI]
def ze(x:Nat × Nat):List (Nat × Nat)->List (Nat × Nat)
 | []=>[x]
 | y::r=>if x.1<y.1\/(x.1=y.1/\x.2<=y.2) then x::y::r else y::ze x r
def nu:List (Nat × Nat)->List (Nat × Nat)
 | []=>[]
 | x::r=>ze x (nu r)
def leP(x y:Nat × Nat):Prop:=x.1<y.1\/(x.1=y.1/\x.2<=y.2)
theorem rh(x:Nat × Nat):∀ l,(ze x l).Perm (x::l)
 | []=>List.Perm.refl _
 | y::r=>by
  unfold ze;split
  ·exact List.Perm.refl _
  ·exact((rh x r).cons y).trans (List.Perm.swap _ _ _)
theorem mG:∀ l,(nu l).Perm l
 | []=>List.Perm.refl _
 | x::r=>(rh x (nu r)).trans ((mG r).cons x)
theorem rG(x:Nat × Nat):∀ l,l.Pairwise leP->(ze x l).Pairwise leP
 | [],_=>by simp [ze]
 | y::r,h=>by
  have h0:=h;rw [List.pairwise_cons]at h;unfold ze;split
  ·rename_i hxy
   rw [List.pairwise_cons];refine⟨fun z hz=>?_,h0⟩;rcases List.mem_cons.1 hz with hz | hz
   ·subst hz;exact hxy
   ·have:=h.1 z hz;unfold leP at*;omega
  ·rename_i hxy
   rw [List.pairwise_cons];refine⟨fun z hz=>?_,rG x r h.2⟩;have hz':=(rh x r).mem_iff.1 hz;rcases List.mem_cons.1 hz' with hz' | hz'
   ·subst hz';unfold leP;omega
   ·exact h.1 z hz'
theorem qo:∀ l,(nu l).Pairwise leP
 | []=>List.Pairwise.nil
 | x::r=>rG x _ (qo r)
theorem ud{a b:List (Nat × Nat)}(h:a.Perm b)(hb:b.Pairwise leP):nu a=b:=tk ((mG a).trans h) (qo a) hb
def yr(x:Ev × Nat):Nat × Nat:=(x.2,x.1.t)
def jy(p:List (List Ins))(xs:List Ev):List (Nat × Nat):=(tl (jb p) [] xs).map yr
def lI(p:List (List Ins))(xs:List Ev):List Int:=(nu (jy p xs)).map fun x=>(x.2:Int)
def kx(p:List (List Ins))(o:Out):List Int:=lI p (uy o)
theorem m9(p:List (List Ins))(xs:List Ev):(lI p xs).length=xs.length:=by
 unfold lI jy;rw [List.length_map,(mG _).length_eq,List.length_map,jB]
def mW(t:Nat)(i:Ins):List (Nat × Nat × Bool):=(0,t,true)::(if i.op=9\/i.op=10 then [(2,i.a.toNat,true)] else if i.op=2 then [(1,i.b.toNat,false)] else if i.op=3 then [(1,i.a.toNat,true)] else [])
def nF(p:List (List Ins))(e:Ev):List (Nat × Nat × Bool):=mW e.t (jw p e.t e.k)
def jY(p:List (List Ins)):List (Ev × Nat)->Nat × Nat × Bool->Nat
 | [],_=>0
 | q::r,u=>if u∈nF p q.1 then max (q.2+1) (jY p r u) else jY p r u
def kK(H:Nat × Nat × Bool->Nat):List (Nat × Nat × Bool)->Nat->Nat
 | [],n=>n
 | u::r,n=>kK H r (if u.2.2=true then max (max n (H (u.1,u.2.1,true))) (H (u.1,u.2.1,false)) else max n (H (u.1,u.2.1,true)))
theorem Al{α:Type}(d:α->α->Bool)(past:List (α × Nat))(x:α)(n:Nat):jj d past x<=n↔∀ q∈past,d q.1 x=true->q.2+1<=n:=by
 constructor
 ·intro h q a b;exact Nat.le_trans (B7 d a b) h
 ·exact ql d
theorem mB(p:List (List Ins))(u:Nat × Nat × Bool)(n:Nat):∀ past,jY p past u<=n↔∀ q∈past,u∈nF p q.1->q.2+1<=n
 | []=>by simp [jY]
 | q::r=>by
  have ih:=mB p u n r;unfold jY;by_cases h:u∈nF p q.1
  ·rw [if_pos h,Nat.max_le,ih];simp [h]
  ·rw [if_neg h,ih];simp [h]
theorem sF(H:Nat × Nat × Bool->Nat)(n:Nat):∀ (us:List (Nat × Nat × Bool)) (m:Nat),kK H us m<=n↔m<=n/\∀ u∈us,H (u.1,u.2.1,true)<=n/\(u.2.2=true->H (u.1,u.2.1,false)<=n)
 | [],m=>by simp [kK]
 | u::r,m=>by
  unfold kK;rw [sF H n r];by_cases h:u.2.2=true
  ·rw [if_pos h,Nat.max_le,Nat.max_le];simp [h,and_assoc]
  ·rw [if_neg h,Nat.max_le];simp [h,and_assoc]
theorem sJ(p:List (List Ins)){x y:Ev}(a:x.bad=false)(b:y.bad=false):jb p y x=true↔∃ u∈nF p x,(u.1,u.2.1,true)∈nF p y\/(u.2.2=true/\(u.1,u.2.1,false)∈nF p y):=by
 unfold jb nF mW;generalize jw p x.t x.k=i;generalize jw p y.t y.k=j;by_cases f:i.op=9\/i.op=10
 ·by_cases c:j.op=9\/j.op=10
  ·simp [md,tou,a,b,f,c];omega
  ·by_cases e:j.op=2
   ·have:¬(j.op=9\/j.op=10):=by omega
    simp [md,tou,a,b,f,e];omega
   ·by_cases d:j.op=3
    ·simp [md,tou,a,b,f,d];omega
    ·simp [md,tou,a,b,f,c,e,d];omega
 ·by_cases l:i.op=2
  ·by_cases c:j.op=9\/j.op=10
   ·simp [md,tou,a,b,l,c];omega
   ·by_cases e:j.op=2
    ·simp [md,tou,a,b,l,e];omega
    ·by_cases d:j.op=3
     ·simp [md,tou,a,b,l,d];omega
     ·simp [md,tou,a,b,l,c,e,d];omega
  ·by_cases h:i.op=3
   ·by_cases c:j.op=9\/j.op=10
    ·simp [md,tou,a,b,h,c];omega
    ·by_cases e:j.op=2
     ·simp [md,tou,a,b,h,e];omega
     ·by_cases d:j.op=3
      ·simp [md,tou,a,b,h,d];omega
      ·simp [md,tou,a,b,h,c,e,d];omega
   ·by_cases c:j.op=9\/j.op=10
    ·simp [md,tou,a,b,f,l,h,c];omega
    ·by_cases e:j.op=2
     ·simp [md,tou,a,b,f,l,h,e];omega
     ·by_cases d:j.op=3
      ·simp [md,tou,a,b,f,l,h,d];omega
      ·simp [md,tou,a,b,f,l,h,c,e,d];omega
theorem A2(p:List (List Ins)){past:List (Ev × Nat)}{x:Ev}(f:x.bad=false)(e:∀ q∈past,q.1.bad=false):kK (jY p past) (nF p x) 0=jj (jb p) past x:=by
 have key:∀ n,kK (jY p past) (nF p x) 0<=n↔jj (jb p) past x<=n:=by
  intro n;rw [sF,Al];constructor
  ·rintro⟨_,h⟩ q b i;obtain⟨u,c,a⟩:=(sJ p f (e q b)).1 i;have d:=h u c;rcases a with a | ⟨a,h3⟩
   ·exact(mB p _ n past).1 d.1 q b a
   ·exact(mB p _ n past).1 (d.2 a) q b h3
  ·intro h;refine⟨Nat.zero_le _,fun u c=>⟨(mB p _ n past).2 fun q b a=>?_,fun hw=>(mB p _ n past).2 fun q b a=>?_⟩⟩
   ·exact h q b ((sJ p f (e q b)).2 ⟨u,c,Or.inl a⟩)
   ·exact h q b ((sJ p f (e q b)).2 ⟨u,c,Or.inr ⟨hw,a⟩⟩)
 have a:=(key (jj (jb p) past x)).2 (Nat.le_refl _);have d:=(key (kK (jY p past) (nF p x) 0)).1 (Nat.le_refl _);omega
def mC:List (Ev × Nat)->Nat
 | []=>0
 | q::r=>max (q.2+1) (mC r)
theorem Ch(p:List (List Ins)){past:List (Ev × Nat)}{x:Ev}(a:x.bad=true):jj (jb p) past x=mC past:=by
 induction past with
 | nil=>rfl
 | cons q r ih=>
  unfold jj mC;rw [if_pos (by simp [jb,a]),ih]
theorem oN{α:Type}(d:α->α->Bool):∀ (xs:List α) (past:List (α × Nat)) (m:Nat),(∀ q∈past,q.2<m)->∀ k q,(tl d past xs)[k]?=some q->q.2<=m+k
 | [],past,m,_,k,q,h=>by simp [tl]at h
 | x::r,past,m,hm,k,q,h=>by
  have hx:jj d past x<=m:=ql d (fun y hy _=>hm y hy);cases k with
  | zero=>simp [tl]at h;subst h;exact hx
  | succ k=>
   simp only [tl,List.getElem?_cons_succ]at h;have:=oN d r _ (m+1) (fun y hy=>by
    rcases List.mem_cons.1 hy with hy | hy
    ·subst hy;simp only;omega
    ·have:=hm y hy;omega) k q h
   omega
def jT(n:Nat)(ks:List (Nat × Nat)):List (Nat × Nat):=(List.range n).flatMap fun l=>(List.range 4).flatMap fun t=>ks.filter fun k=>k.1==l && k.2==t
theorem nZ{β:Type}{R:β->β->Prop}{f:Nat->List β}{n:Nat}(b:∀ l,l<n->(f l).Pairwise R)(c:∀ l l',l<l'->l'<n->∀ x∈f l,∀ y∈f l',R x y):((List.range n).flatMap f).Pairwise R:=by
 induction n with
 | zero=>simp
 | succ n ih=>
  rw [List.range_succ,List.flatMap_append,List.pairwise_append];refine⟨ih (fun l h=>b l (by omega)) (fun l l' h h'=>c l l' h (by omega)),by simpa using b n (by omega),fun x a y hy=>?_⟩;obtain⟨l,d,a⟩:=List.mem_flatMap.1 a;simp at hy d;exact c l n d (by omega) x a y hy
theorem pC{f:Nat->List (Nat × Nat)}(q:Nat × Nat)(c:Nat):∀ {n:Nat} (_:∀ l,l<n->(f l).count q=if l=c then (f c).count q else 0),((List.range n).flatMap f).count q=if c<n then (f c).count q else 0
 | 0,_=>by simp
 | n+1,h=>by
  rw [List.range_succ,List.flatMap_append,List.count_append,pC q c (fun l hl=>h l (by omega))];have:=h n (by omega);simp only [List.flatMap_cons,List.flatMap_nil,List.append_nil,this];by_cases e:n=c
  ·subst e;simp
  ·rw [if_neg e];by_cases e2:c<n
   ·rw [if_pos e2,if_pos (by omega)];rfl
   ·rw [if_neg e2,if_neg (by omega)]
theorem s8{n:Nat}{a:List (Nat × Nat)}(h:∀ k∈a,k.1<n/\k.2<4):(jT n a).Perm a:=by
 rw [List.perm_iff_count];intro q;have f:∀ l t,(a.filter fun k=>k.1==l && k.2==t).count q=if l=q.1/\t=q.2 then a.count q else 0:=by
  intro l t;by_cases e:l=q.1/\t=q.2
  ·rw [if_pos e,List.count_filter (by simp [e.1,e.2])]
  ·rw [if_neg e,List.count_eq_zero];intro c;have:=(List.mem_filter.1 c).2;simp at this;exact e ⟨this.1.symm,this.2.symm⟩
 have d:∀ l,((List.range 4).flatMap fun t=>a.filter fun k=>k.1==l && k.2==t).count q=if l=q.1 then (if q.2<4 then a.count q else 0) else 0:=by
  intro l;rw [pC q q.2 (fun t _=>by rw [f,f];by_cases b:l=q.1<;>by_cases i:t=q.2<;>simp [b,i]),f];by_cases b:l=q.1<;>simp [b]
 unfold jT;rw [pC q q.1 (fun l _=>by rw [d,d];by_cases b:l=q.1<;>simp [b]),d];simp only [if_true];by_cases c:q∈a
 ·have:=h q c;rw [if_pos this.1,if_pos this.2]
 ·have:a.count q=0:=List.count_eq_zero.2 c;rw [this];simp
theorem qN(n:Nat)(e:List (Nat × Nat)):(jT n e).Pairwise leP:=by
 have c:∀ l t x,x∈(e.filter fun k=>k.1==l && k.2==t)->x.1=l/\x.2=t:=fun l t x a=>by
  have:=(List.mem_filter.1 a).2;simpa using this
 refine nZ (fun l _=>nZ (fun t _=>?_) (fun t d h _ x a y b=>?_)) (fun l l' h _ x a y b=>?_)
 ·refine List.Pairwise.imp_of_mem (R:=fun _ _=>True) (fun {x y} a b _=>?_) (List.pairwise_of_forall (fun _ _=>trivial));have f:=c l t x a;have i:=c l t y b;unfold leP;omega
 ·have f:=c l t x a;have i:=c l d y b;unfold leP;omega
 ·obtain⟨t,_,a⟩:=List.mem_flatMap.1 a;obtain⟨d,_,b⟩:=List.mem_flatMap.1 b;have f:=c l t x a;have i:=c l' d y b;unfold leP;omega
theorem uL{p:List (List Ins)}{xs:List Ev}(h:∀ e∈xs,e.t<4):lI p xs=(jT xs.length (jy p xs)).map fun x=>(x.2:Int):=by
 unfold lI;rw [ud (s8 ?_).symm (qN _ _)];intro k b;unfold jy at b;obtain⟨q,c,rfl⟩:=List.mem_map.1 b;obtain⟨j,a,rfl⟩:=List.getElem_of_mem c;have hj':j<xs.length:=by rwa [jB]at a
 have:=oN (jb p) xs [] 0 (by simp) j _ (List.getElem?_eq_getElem a);refine⟨by simp only [yr];omega,?_⟩;have f:((tl (jb p) [] xs)[j]).1∈xs:=by
  have d:((tl (jb p) [] xs)[j]).1∈(tl (jb p) [] xs).map (·.1):=List.mem_map.2 ⟨_,List.getElem_mem a,rfl⟩;rwa [sT]at d
 exact h _ f
end
section
open Go.RowKit Go.Maps
abbrev Use:=Nat × Nat × Bool
def uX(u:Use):Value:= .agg #[.int .i64 u.1,.int .i64 u.2.1,.bool u.2.2]
def EN(u:Use):Lit:= .string (keyBytes [.int .i64 u.1,.int .i64 u.2.1,.bool u.2.2])
def nL(u:Use):Prop:=u.1<=1000/\u.2.1<=1000
theorem vf:Keyed Tryz.prog 240:=Keyed.of_law (deep_law_laid (by kernel_rfl) (m:=Tryz.prog.types.size+1) (of_decide_eq_true (by kernel_rfl)) (of_decide_eq_true (by kernel_rfl)) (by kernel_rfl) (by kernel_rfl))
theorem B0(w:World):(zeroValue 3).run Tryz.prog w= .ok (.int .i64 0) w:=by kernel_rfl
theorem sW{n:Nat}(h:n<=1000000):(Lit.int .i64 (n:Int)).wf=true:=WalkArith.wf_i64 (by omega)
theorem rY{u:Use}(h:nL u):keyOf Tryz.prog 240 (uX u)=some (EN u):=by
 have k1:Tryz.prog.keyType 240=true:=by kernel_rfl
 have c:=sW (n:=u.1) (by have:=h.1;omega);have b:=sW (n:=u.2.1) (by have:=h.2;omega);obtain⟨m,l⟩:∃ m,Tryz.prog.types.size+1=m+2:=⟨Tryz.prog.types.size - 1,by have:2<=Tryz.prog.types.size:=of_decide_eq_true (by kernel_rfl);omega⟩;have c1:Tryz.prog.cellsOf 240=3:=by kernel_rfl
 have d:Tryz.prog.cellsOf 238=1:=by kernel_rfl
 have i:Tryz.prog.cellsOf 3=1:=by kernel_rfl
 have j:Tryz.prog.cellsOf 4=1:=by kernel_rfl
 have f:Tryz.prog.keyLits (m+1) 238 [.int .i64 (u.1:Int)]=some [.int .i64 (u.1:Int)]:=by
  unfold Program.keyLits;rw [Tryz.underlying238];simp only [c,and_self,if_true]
 have e:Tryz.prog.keyLits (m+1) 3 [.int .i64 (u.2.1:Int)]=some [.int .i64 (u.2.1:Int)]:=by
  unfold Program.keyLits;rw [Tryz.underlying3];simp only [b,and_self,if_true]
 have o:Tryz.prog.keyLits (m+1) 4 [.bool u.2.2]=some [.bool u.2.2]:=by
  unfold Program.keyLits;rw [Tryz.underlying4]
 have a:Tryz.prog.keyLits (m+2) 240 [.int .i64 (u.1:Int),.int .i64 (u.2.1:Int),.bool u.2.2]=some [.int .i64 (u.1:Int),.int .i64 (u.2.1:Int),.bool u.2.2]:=by
  unfold Program.keyLits;rw [Tryz.underlying240]
  simp only;rw [if_pos ⟨by rw [c1];rfl,by simp⟩];simp only [List.mapM_cons,List.mapM_nil,d,i,j,List.drop_zero,List.drop_succ_cons,List.take_succ_cons,List.take_zero,f,e,o];rfl
 have k:(uX u).formed Tryz.prog 240=true:=by
  unfold Value.formed uX;rw [Tryz.underlying240];simp only [c1];rfl
 unfold keyOf;rw [Tryz.underlying240];simp only [k1,k,Bool.and_self,if_true,l];have hc:(uX u).cells.toList=[.int .i64 (u.1:Int),.int .i64 (u.2.1:Int),.bool u.2.2]:=rfl;rw [hc,a];rfl
theorem CZ{u v:Use}(d:nL u)(b:nL v)(h:EN u=EN v):u=v:=by
 have c:=rY d;have a:=rY b;rw [<-h]at a;have:=vf.inj c a;unfold uX at this;simp at this;obtain⟨u1,u2,u3⟩:=u;obtain⟨v1,v2,v3⟩:=v;simp at this ⊢;exact⟨by omega,by omega,this.2.2⟩
def HistAt(w:World)(b n:Nat)(F:Use->Nat):Prop:=
 ∃ D:DataW Unit,w.ownsMap Tryz.prog 240 (plainElem Tryz.prog 3) b n D/\∀ u,nL u->D.atKey (EN u) (.lit (.int .i64 0))= .lit (.int .i64 (F u))
theorem HistAt.made(w:World):HistAt (w.alloc (.map #[] 0)) w.heap.size 0 (fun _=>0):=⟨.map [],World.ownsMap_made _ _ _ _,fun _ _=>rfl⟩
theorem HistAt.kept{w w':World}{b n:Nat}{F:Use->Nat}(h:HistAt w b n F)(c:w.grownBy w' none):HistAt w' b n F:=by
 obtain⟨D,a,d⟩:=h;exact⟨D,a.kept c (by simp),d⟩
theorem HistAt.lt{w:World}{b n:Nat}{F:Use->Nat}(h:HistAt w b n F):b<w.heap.size:=by
 obtain⟨D,a,h2⟩:=h;exact a.lt
theorem HistAt.look{w:World}{b n:Nat}{F:Use->Nat}(h:HistAt w b n F){u:Use}(d:nL u):
  (Instr.lookup 205 (.map (some b)) (uX u) false).run Tryz.prog w= .ok (.int .i64 (F u)) w:=by
 obtain⟨D,i,f⟩:=h;obtain⟨c,e,a,_⟩:=i.lookup_int vf Tryz.underlying205 Tryz.underlying3 (B0 w) (rY d);rw [f u d]at a;simp at a;rw [e,<-a]
def A6(F:Use->Nat)(u:Use)(x:Nat):Use->Nat:=fun v=>if v=u then x else F v
theorem HistAt.put{w:World}{b n:Nat}{F:Use->Nat}(h:HistAt w b n F){u:Use}(c:nL u){x:Nat}(k:x<=1000000)(hn:n<=1000000):
  ∃ w',(Instr.mapUpdate 205 (.map (some b)) (uX u) (.int .i64 (x:Int))).run Tryz.prog w= .ok () w'/\HistAt w' b (n+1) (A6 F u x)/\w.grownBy w' (some b):=by
 obtain⟨D,a,f⟩:=h;obtain⟨w',i,j,d⟩:=a.update vf Tryz.underlying205 (by unfold maxLen;omega) (rY c) (plainElem_int Tryz.underlying3 (sW k));refine⟨w',i,⟨_,j,fun v hv=>?_⟩,d⟩;unfold A6;by_cases e:v=u
 ·subst e;rw [if_pos rfl];refine atKey_put_same ?_ ?_ _ _
  ·obtain⟨es,_,_,_,_,rfl⟩:=a;exact⟨_,rfl⟩
  ·exact trivial
 ·rw [if_neg e,atKey_put_other (fun e2=>e (CZ hv c e2))];exact f v hv
end
section
open Go.RowKit Go.Maps
attribute [local go_sem] Go.World.cell?_alloc_some
def UsesAt(w:World)(v:Value)(us:List Use):Prop:=
 ∃ g cap,v= .slice (some ⟨g,0,none⟩) us.length cap/\g<w.heap.size/\∀ k (hk:k<us.length),w.cell? ⟨g,k*3,none⟩=some (.int .i64 (us[k].1:Int))/\w.cell? ⟨g,k*3+1,none⟩=some (.int .i64 (us[k].2.1:Int))/\w.cell? ⟨g,k*3+2,none⟩=some (.bool us[k].2.2)
theorem UsesAt.grown{w w':World}{v:Value}{f:List Use}(h:UsesAt w v f)(d:w.grownBy w' none):UsesAt w' v f:=by
 obtain⟨g,l,e,j,i⟩:=h;refine⟨g,l,e,Nat.lt_of_lt_of_le j d.size,fun k hk=>?_⟩;obtain⟨a,b,c⟩:=i k hk;exact⟨iq d _ _ a,iq d _ _ b,iq d _ _ c⟩
theorem Ck{W:World}{t:TypeId}{g:Nat}{u:Use}(b:W.heap.size=g):UsesAt (W.alloc (.cells #[.int .i64 (u.1:Int),.int .i64 (u.2.1:Int),.bool u.2.2] t)) (.slice (some ⟨g,0,none⟩) 1 1) [u]:=by
 subst b;have h:=heap_alloc_new W (.cells #[.int .i64 (u.1:Int),.int .i64 (u.2.1:Int),.bool u.2.2] t);refine⟨W.heap.size,1,rfl,by simp,fun k hk=>?_⟩;have a:k=0:=by simp at hk;omega
 subst a;simp only [World.cell?,h];exact⟨rfl,rfl,rfl⟩
theorem pP{W:World}{t:TypeId}{g:Nat}{u v:Use}(b:W.heap.size=g):UsesAt (W.alloc (.cells #[.int .i64 (u.1:Int),.int .i64 (u.2.1:Int),.bool u.2.2,.int .i64 (v.1:Int),.int .i64 (v.2.1:Int),.bool v.2.2] t)) (.slice (some ⟨g,0,none⟩) 2 2) [u,v]:=by
 subst b;have h:=heap_alloc_new W (.cells #[.int .i64 (u.1:Int),.int .i64 (u.2.1:Int),.bool u.2.2,.int .i64 (v.1:Int),.int .i64 (v.2.1:Int),.bool v.2.2] t);refine⟨W.heap.size,2,rfl,by simp,fun k hk=>?_⟩;have a:k=0\/k=1:=by simp at hk;omega
 rcases a with rfl | rfl
 ·simp only [World.cell?,h];exact⟨rfl,rfl,rfl⟩
 ·simp only [World.cell?,h];exact⟨rfl,rfl,rfl⟩
theorem BE(t:Nat)(i:Ins)(w:World)(k:0<=i.a)(l:0<=i.b):
  Calls Tryz.prog 124 #[.int .i64 (t:Int),.agg #[.int .i64 i.op,.int .i64 i.a,.int .i64 i.b,.int .i64 i.n]] w fun e w'=>∃ v,e= .returned v/\UsesAt w' v (mW t i)/\w.grownBy w' none:=by
 obtain⟨op,a,b,n⟩:=i;obtain⟨a,rfl⟩:=Int.eq_ofNat_of_zero_le k;obtain⟨b,rfl⟩:=Int.eq_ofNat_of_zero_le l;simp only;have h:Hid (∀ x y z,w.grownBy (((w.alloc x).alloc y).alloc z) none):=fun x y z=>ir (ir (ir (iu _ _)))
 by_cases j:op=9\/op=10
 ·have c:Hid (mW t ⟨op,a,b,n⟩=[(0,t,true),(2,a,true)]):=by unfold Hid mW;simp [j]
  rcases j with rfl | rfl
  ·go_enter Tryz.func124,Tryz.ntmps124
   go_wp2_with fail
   go_ret;exact⟨_,rfl,by rw [c.out];exact pP (u:=(0,t,true)) (v:=(2,a,true)) (by simp),h.out _ _ _⟩
  ·go_enter Tryz.func124,Tryz.ntmps124
   go_wp2_with fail
   go_ret;exact⟨_,rfl,by rw [c.out];exact pP (u:=(0,t,true)) (v:=(2,a,true)) (by simp),h.out _ _ _⟩
 ·by_cases f:op=2
  ·have c:Hid (mW t ⟨op,a,b,n⟩=[(0,t,true),(1,b,false)]):=by unfold Hid mW;simp [f]
   subst f;go_enter Tryz.func124,Tryz.ntmps124
   go_wp2_with fail
   go_ret;exact⟨_,rfl,by rw [c.out];exact pP (u:=(0,t,true)) (v:=(1,b,false)) (by simp),h.out _ _ _⟩
  ·by_cases d:op=3
   ·have c:Hid (mW t ⟨op,a,b,n⟩=[(0,t,true),(1,a,true)]):=by unfold Hid mW;simp [d]
    subst d;go_enter Tryz.func124,Tryz.ntmps124
    go_wp2_with fail
    go_ret;exact⟨_,rfl,by rw [c.out];exact pP (u:=(0,t,true)) (v:=(1,a,true)) (by simp),h.out _ _ _⟩
   ·have c:Hid (mW t ⟨op,a,b,n⟩=[(0,t,true)]):=by unfold Hid mW;simp [j,f,d]
    have e2:(op==2)=false:=by simpa using f
    have e3:(op==3)=false:=by simpa using d
    have e9:(op==9)=false:=by simp;omega
    have e10:(op==10)=false:=by simp;omega
    clear j f d;go_enter Tryz.func124,Tryz.ntmps124
    go_wp2_with fail
    go_ret;exact⟨_,rfl,by rw [c.out];exact Ck (u:=(0,t,true)) (by simp),h.out _ _ _⟩
theorem qg(F:Use->Nat)(hF:∀ u,F u<=1000):∀ (us:List Use) (n:Nat),n<=1000->kK F us n<=1000
 | [],n,h=>h
 | u::r,n,h=>by
  unfold kK;have h1:=hF (u.1,u.2.1,true);have h2:=hF (u.1,u.2.1,false);exact qg F hF r _ (by split<;>omega)
theorem EA{w:World}{b n:Nat}{F:Use->Nat}(z:HistAt w b n F)(C:∀ u,F u<=1000)(a:List Use)(y:∀ u∈a,nL u)(v:Value)(I:UsesAt w v a)(hl:a.length<=10):
  Calls Tryz.prog 125 #[.map (some b),v] w fun e w'=>e= .returned (.int .i64 (kK F a 0:Nat))/\w.grownBy w' none:=by
 obtain⟨g,cap,rfl,hg,hc⟩:=I;have s:=il z;have D:=il C;have G:=il y;have H:=il hc;have hl':(a.length:Int)<=10:=by omega
 clear z C y hc;go_enter Tryz.func125,Tryz.ntmps125
 go_wp2_with fail
 go_loopw [5,10] (fun x i w'=>∃ k m:Nat,k<=a.length/\i= .int .i64 k/\x= .int .i64 m/\m<=1000/\Hid (w.grownBy w' none)/\Hid (kK F a 0=kK F (a.drop k) m)) (fun _ i _=>a.length - (intOf i).toNat)
 case atStart=>exact⟨0,0,Nat.zero_le _,rfl,rfl,by omega,iu _ _,rfl⟩
 case round=>
  obtain⟨k,m,hk,rfl,rfl,hm,c,q⟩:=hrel;obtain⟨d,t⟩:∃ d,d=wr:=⟨_,rfl⟩;rw [<-t]at c ⊢;clear t;by_cases p:k<a.length
  ·obtain⟨c0,c1,B⟩:=H.out k p;have d0:=iq c.out _ _ c0;have d1:=iq c.out _ _ c1;have d2:=iq c.out _ _ B;have j:Hid (kK F a 0=kK F (a.drop (k+1)) (if a[k].2.2=true then max (max m (F (a[k].1,a[k].2.1,true))) (F (a[k].1,a[k].2.1,false)) else max m (F (a[k].1,a[k].2.1,true)))):=by
    unfold Hid;rw [q.out,List.drop_eq_getElem_cons p,kK]
   have o:=G.out _ (List.getElem_mem p);have r:Hid (∀ u,d.grownBy u none->(Instr.lookup 205 (.map (some b)) (.agg #[.int .i64 (a[k].1:Int),.int .i64 (a[k].2.1:Int),.bool true]) false).run Tryz.prog u= .ok (.int .i64 (F (a[k].1,a[k].2.1,true))) u):=fun u hu=>((s.out.kept c.out).kept hu).look (u:=(a[k].1,a[k].2.1,true)) o
   have A:Hid (∀ u,d.grownBy u none->(Instr.lookup 205 (.map (some b)) (.agg #[.int .i64 (a[k].1:Int),.int .i64 (a[k].2.1:Int),.bool false]) false).run Tryz.prog u= .ok (.int .i64 (F (a[k].1,a[k].2.1,false))) u):=fun u hu=>((s.out.kept c.out).kept hu).look (u:=(a[k].1,a[k].2.1,false)) o
   have hft:=D.out (a[k].1,a[k].2.1,true);have hff:=D.out (a[k].1,a[k].2.1,false);clear c0 c1 B o q;generalize a[k]=u at*;obtain⟨h,f,l⟩:=u;simp only at*;generalize F (h,f,true)=ft at*;generalize F (h,f,false)=ff at*;have k0:(0:Int)<=(k:Int):=by omega
   have k1:(k:Int)<a.length:=by omega
   have rt:=r.out (d.alloc (.cells #[.int .i64 (h:Int),.int .i64 (f:Int),.bool l] 240)) (ir (iu _ _));have rf:=A.out (d.alloc (.cells #[.int .i64 (h:Int),.int .i64 (f:Int),.bool l] 240)) (ir (iu _ _));clear r A;cases l
   ·simp only [Bool.false_eq_true,if_false]at j;go_wp2_with fail
    go_roundw
    case rel=>exact⟨k+1,max m ft,by omega,by go_num,by congr 1;(repeat' split)<;>omega,by omega,ir c.out,j⟩
    case measure=>simp [intOf];omega
   ·simp only [if_true]at j;go_wp2_with fail
    go_roundw
    case rel=>exact⟨k+1,max (max m ft) ff,by omega,by go_num,by congr 1;(repeat' split)<;>omega,by omega,ir c.out,j⟩
    case measure=>simp [intOf];omega
  ·have k1:(a.length:Int)<=(k:Int):=by omega
   have E:Hid (kK F a 0=m):=by
    unfold Hid;rw [q.out,List.drop_of_length_le (by omega)];rfl
   go_wp2_with fail
   go_ret;exact⟨by rw [E.out];rfl,c.out⟩
theorem HistAt.nocell{w:World}{b n:Nat}{F:Use->Nat}(h:HistAt w b n F)(o:Nat):w.cell? ⟨b,o,none⟩=none:=by
 obtain⟨D,⟨es,cl,a,_⟩,_⟩:=h;simp [World.cell?,a]
def kZ(x:Nat):List Use->(Use->Nat)->Use->Nat
 | [],F=>F
 | u::r,F=>kZ x r (A6 F u (max (F u) x))
theorem qR(x:Nat):∀ (us:List Use) (F:Use->Nat) (v:Use),kZ x us F v=if v∈us then max (F v) x else F v
 | [],F,v=>by simp [kZ]
 | u::r,F,v=>by
  unfold kZ;rw [qR x r];unfold A6;by_cases e:v=u
  ·subst e;simp
  ·simp [e]
theorem wn(x:Nat)(b:List Use)(u:Use)(F:Use->Nat):kZ x (b++[u]) F=A6 (kZ x b F) u (max (kZ x b F u) x):=by
 induction b generalizing F with
 | nil=>rfl
 | cons a r ih=>simp only [List.cons_append,kZ];exact ih _
theorem EX{w:World}{b n:Nat}{F:Use->Nat}(A:HistAt w b n F)(T:∀ u,F u<=1000)(hn:n<=100000)(a:List Use)(M:∀ u∈a,nL u)(v:Value)(hU:UsesAt w v a)(hl:a.length<=10)(c:Nat)(hla:c<=900):
  Calls Tryz.prog 126 #[.map (some b),v,.int .i64 (c:Int)] w fun e w'=>(∃ v,e= .returned v)/\HistAt w' b (n+a.length) (kZ (c+1) a F)/\w.grownBy w' (some b):=by
 obtain⟨g,cap,rfl,hg,hc⟩:=hU;have J:=il A;have HF:=il T;have W:=il M;have HC:=il hc;have hl':(a.length:Int)<=10:=by omega
 have hla':(c:Int)<=900:=by omega
 have hla0:(0:Int)<=(c:Int):=by omega
 have hbw:=A.lt;clear A T M hc;go_enter Tryz.func126,Tryz.ntmps126
 go_wp2_with fail
 go_loopw [10] (fun i w'=>∃ k:Nat,k<=a.length/\i= .int .i64 k/\Hid (HistAt w' b (n+k) (kZ (c+1) (a.take k) F))/\Hid (w.grownBy w' (some b))) (fun i _=>a.length - (intOf i).toNat)
 case atStart=>exact⟨0,Nat.zero_le _,rfl,J,iu _ _⟩
 case round=>
  obtain⟨k,hk,rfl,t,z⟩:=hrel;obtain⟨d,K⟩:∃ d,d=wr:=⟨_,rfl⟩;rw [<-K]at t z ⊢;clear K;by_cases B:k<a.length
  ·obtain⟨c0,c1,Q⟩:=HC.out k B;have Y:g≠b:=fun e=>by
    have:=J.out.nocell (k*3);rw [<-e,c0]at this;cases this
   have s:=z.out.block g hg (by simpa using Y);have X:d.cell? ⟨g,k*3,none⟩=some (.int .i64 (a[k].1:Int)):=by rw [World.cell?_of_block s];exact c0
   have d1:d.cell? ⟨g,k*3+1,none⟩=some (.int .i64 (a[k].2.1:Int)):=by rw [World.cell?_of_block s];exact c1
   have d2:d.cell? ⟨g,k*3+2,none⟩=some (.bool a[k].2.2):=by rw [World.cell?_of_block s];exact Q
   have L:=W.out _ (List.getElem_mem B);have S:Hid (kZ (c+1) (a.take (k+1)) F=A6 (kZ (c+1) (a.take k) F) a[k] (max (kZ (c+1) (a.take k) F a[k]) (c+1))):=by
    unfold Hid;rw [List.take_succ_eq_append_getElem B,wn]
   have hfx:kZ (c+1) (a.take k) F a[k]<=1000:=by
    rw [qR];have:=HF.out a[k];split<;>omega
   have hbw5:=t.out.lt;clear c0 c1 Q s;generalize a[k]=u at*;obtain⟨q,m,o⟩:=u;simp only at X d1 d2;generalize kZ (c+1) (a.take k) F=G at*;generalize N:G (q,m,o)=fv at*;have V:=il N;clear N;have k0:(0:Int)<=(k:Int):=by omega
   have k1:(k:Int)<a.length:=by omega
   have C:Hid (HistAt (d.alloc (.cells #[.int .i64 (q:Int),.int .i64 (m:Int),.bool o] 240)).drew b (n+k) G):=t.out.kept (iz (ir (iu _ _)));obtain⟨D,O,R,H⟩:=C.out.put (u:=(q,m,o)) L (x:=max fv (c+1)) (by omega) (by omega);have Z:Hid (HistAt D b (n+(k+1)) (kZ (c+1) (a.take (k+1)) F)):=by
    unfold Hid;rw [S.out];exact R
   have ag:Hid (w.grownBy D (some b)):=ip z.out (ip (iz (ir (iu _ _))) H);have P:(if (fv:Int)<(c:Int)+1 then ((c:Int)+1) else (fv:Int))=((max fv (c+1):Nat):Int):=by split<;>omega
   clear R H S;have y:(d.alloc (.cells #[.int .i64 (q:Int),.int .i64 (m:Int),.bool o] 240)).drew.heap[d.heap.size]?=some (.cells #[.int .i64 (q:Int),.int .i64 (m:Int),.bool o] 240):=heap_alloc_new d _;go_upto_region 3 with fail
   refine iA (fun u=>(u.cell? ⟨d.heap.size,0,none⟩=some (.int .i64 (q:Int))/\u.cell? ⟨d.heap.size,1,none⟩=some (.int .i64 (m:Int))/\u.cell? ⟨d.heap.size,2,none⟩=some (.bool o))/\HistAt u b (n+k) G) 8 (by kernel_rfl) (by kernel_rfl) ⟨⟨by simp only [World.cell?,y];rfl,by simp only [World.cell?,y];rfl,by simp only [World.cell?,y];rfl⟩,C.out⟩ ?_;intro j;have I:IntKind.i64.wrap ((c:Int)+1)=(c:Int)+1:=by rw [IntKind.wrap_i64];omega
   refine ij 0 ?va0 rfl (by kernel_rfl) (fun _ _ _ h=>h) (by rfl) ?ya0 j ?_
   case ya0=>(rintro u ⟨⟨l,p,r⟩,f⟩;go_simp;try rfl)
   simp only [Act.put,List.setIfInBounds_toArray];refine ij 1 ?va1 rfl (by kernel_rfl) (fun _ _ _ h=>h) (by rfl) ?ya1 j ?_
   case ya1=>(rintro u ⟨⟨l,p,r⟩,f⟩;go_simp;try rfl)
   simp only [Act.put];refine ij 2 ?va2 rfl (by kernel_rfl) (fun _ _ _ h=>h) (by rfl) ?ya2 j ?_
   case ya2=>(rintro u ⟨⟨l,p,r⟩,f⟩;go_simp;try rfl)
   simp only [Act.put];refine ij 3 ?va3 rfl (by kernel_rfl) (fun _ _ _ h=>h) (by rfl) ?ya3 j ?_
   case ya3=>(rintro u ⟨⟨l,p,r⟩,f⟩;go_simp;try rfl)
   simp only [Act.put];refine kG (i:=4) (v:= .int .i64 (fv:Int)) rfl (by kernel_rfl) (fun _ _ _ h=>h) (Or.inl ⟨by rfl,?ya4⟩) j ?resta4
   case ya4=>(rintro u ⟨⟨l,p,r⟩,f⟩;have E:=f.look (u:=(q,m,o)) L;rw [V.out]at E;unfold uX at E;clear f;go_simp)
   simp only [Act.put];refine ij 5 ?va5 rfl (by kernel_rfl) (fun _ _ _ h=>h) (by rfl) ?ya5 j ?_
   case ya5=>(rintro u ⟨⟨l,p,r⟩,f⟩;go_simp;try rfl)
   simp only [Act.put];refine kG (i:=6) (v:= .int .i64 ((c:Int)+1)) rfl (by kernel_rfl) (fun _ _ _ h=>h) (Or.inl ⟨by rfl,?ya6⟩) j ?resta6
   case ya6=>(rintro u ⟨⟨l,p,r⟩,f⟩;go_simp;try rw [I])
   simp only [Act.put];refine kG (i:=7) (v:= .int .i64 ((max fv (c+1):Nat):Int)) rfl (by kernel_rfl) (fun _ _ _ h=>h) (Or.inl ⟨by rfl,?ya7⟩) j ?resta7
   case ya7=>(rintro u ⟨⟨l,p,r⟩,f⟩;clear f;go_simp;try rw [P])
   simp only [Act.put];refine iI rfl (by kernel_rfl) (by kernel_rfl) (by rfl) ?_;unfold uX at O;go_simp;clear j O C I P y;go_wp2_with fail
   go_roundw
   case rel=>exact⟨k+1,by omega,by go_num,Z,ag⟩
   case measure=>simp [intOf];omega
  ·have k1:(a.length:Int)<=(k:Int):=by omega
   have ek:k=a.length:=by omega
   have U:Hid (HistAt d b (n+a.length) (kZ (c+1) a F)):=by
    have:=t.out;rwa [List.take_of_length_le (by omega),ek]at this
   go_wp2_with fail
   go_end0
   exact⟨⟨_,rfl⟩,U.out,z.out⟩
end
section
theorem rP(p:List (List Ins))(q:Ev × Nat)(u:Nat × Nat × Bool):∀ L,jY p (L++[q]) u=if u∈nF p q.1 then max (jY p L u) (q.2+1) else jY p L u
 | []=>by simp [jY]
 | y::r=>by
  simp only [List.cons_append,jY,rP p q u r];split<;>split<;>omega
theorem rN(q:Ev × Nat):∀ L,mC (L++[q])=max (mC L) (q.2+1)
 | []=>by simp [mC]
 | y::r=>by
  simp only [List.cons_append,mC,rN q r];omega
theorem Au(p:List (List Ins))(xs:List Ev)(u:Nat × Nat × Bool):jY p (tl (jb p) [] xs) u<=xs.length:=by
 rw [mB];intro q b _;obtain⟨j,a,rfl⟩:=List.getElem_of_mem b;have:=oN (jb p) xs [] 0 (by simp) j _ (List.getElem?_eq_getElem a);rw [jB]at a;omega
theorem AB(p:List (List Ins))(xs:List Ev):mC (tl (jb p) [] xs)<=xs.length:=by
 have key:∀ (L:List (Ev × Nat)) (n:Nat),(∀ q∈L,q.2+1<=n)->mC L<=n:=by
  intro L n;induction L with
  | nil=>simp [mC]
  | cons y r ih=>
   intro h;unfold mC;have h1:=h y (List.mem_cons_self ..);have h2:=ih (fun q a=>h q (List.mem_cons_of_mem _ a));omega
 apply key;intro q a;obtain⟨j,b,rfl⟩:=List.getElem_of_mem a;have:=oN (jb p) xs [] 0 (by simp) j _ (List.getElem?_eq_getElem b);rw [jB]at b;omega
theorem FE(p:List (List Ins))(xs:List Ev)(x:Ev):jj (jb p) (tl (jb p) [] xs) x<=xs.length:=by
 apply ql;intro q b _;obtain⟨j,a,rfl⟩:=List.getElem_of_mem b;have:=oN (jb p) xs [] 0 (by simp) j _ (List.getElem?_eq_getElem a);rw [jB]at a;omega
structure rx(p:List (List Ins))(o:Out)(xs:List Ev):Prop where
 ev:uy o=xs
 st:o.steps=xs.map Ev.pr
 th:∀ e∈xs,e.t<p.length/\0<=e.k/\e.k<(iP p e.t).length
 gd:∀ i (hi:i<xs.length),xs[i].bad=(decide (o.kind=1) && decide (i+1=xs.length))
theorem sA{p:List (List Ins)}(c:iV p=true):∀ (xs:List Ev) (s a:St),Inv p s->RunE p s xs a->∀ e∈xs,e.t<p.length/\0<=e.k/\e.k<(iP p e.t).length
 | [],_,_,_,_,e,he=>by cases he
 | x::r,s,a,hI,⟨hx,hr⟩,e,he=>by
  obtain⟨h1,h2,h3,h4⟩:=hx;have hd:jS p s x.t=false:=by
   cases hd:jS p s x.t with
   | false=>rfl
   | true=>simp [jF,hd]at h2
  rcases List.mem_cons.1 he with he | he
  ·subst he;have b:=hI e.t h1;have d:s.next e.t≠((iP p e.t).length:Int):=by simpa [jS]using hd
   rw [h3]at b d;exact⟨h1,b.1,by omega⟩
  ·exact sA c r _ a (Inv.step c hI h1 hd) hr e he
theorem nS{p:List (List Ins)}(j:iV p=true)(s:List Int):∃ xs,rx p (iJ p s) xs:=by
 have hc:=nb p s 0 St.zero [];change ∃ xs a,RunE p St.zero xs a/\(iJ p s).steps=[]++xs.map Ev.pr/\(iJ p s).st=a/\((good xs/\xs.map Ev.tI=s/\(iJ p s).kind=jR p a/\(iJ p s).thread=0/\(iJ p s).at_=0)\/(good xs/\(∃ u r,s=xs.map Ev.tI++u::r/\mZ p a u=false)/\(iJ p s).kind=2/\(iJ p s).thread=0/\(iJ p s).at_=0+xs.length)\/(∃ ys z r,xs=ys++[z]/\good ys/\z.bad=true/\s=xs.map Ev.tI++r/\(iJ p s).kind=1/\(iJ p s).thread=z.tI/\(iJ p s).at_=z.k))at hc
 obtain⟨xs,a,h,b,hst,hc⟩:=hc;rw [List.nil_append]at b;have c:=sA j xs St.zero a (Inv.zero p) h;refine⟨xs,?_⟩;have f:good xs->(iJ p s).kind≠1->rx p (iJ p s) xs:=fun g hk=>by
  refine⟨yN hk b g,b,c,fun i hi=>?_⟩;rw [g _ (List.getElem_mem hi)];simp [hk]
 rcases hc with ⟨g1,_,g3,_⟩ | ⟨g1,_,g3,_⟩ | ⟨us,z,r,g1,g2,g3,_,g5,_⟩
 ·exact f g1 (by have:=py p a;omega)
 ·exact f g1 (by omega)
 ·subst g1;refine⟨Ax g5 b g2 g3,b,c,fun i hi=>?_⟩;by_cases e:i=us.length
  ·subst e;simp [g3,g5]
  ·have d:i<us.length:=by simp at hi;omega
   rw [List.getElem_append_left d,g2 _ (List.getElem_mem d)];simp;intro _;omega
theorem Bz{p:List (List Ins)}{o:Out}{xs:List Ev}(h:rx p o xs){i:Nat}(k:i<xs.length):
  jj (jb p) (tl (jb p) [] (xs.take i)) xs[i]=if o.kind=1/\i+1=xs.length then mC (tl (jb p) [] (xs.take i)) else kK (jY p (tl (jb p) [] (xs.take i))) (nF p xs[i]) 0:=by
 have a:=h.gd i k;by_cases e:o.kind=1/\i+1=xs.length
 ·rw [if_pos e,Ch p (by rw [a];simp [e])]
 ·rw [if_neg e,A2 p (by rw [a];simp;omega)];intro q d;have m:q.1∈xs.take i:=by
   have l:q.1∈(tl (jb p) [] (xs.take i)).map (·.1):=List.mem_map.2 ⟨q,d,rfl⟩;rwa [sT]at l
  obtain⟨j,b,c⟩:=List.getElem_of_mem m;have hj':j<i:=by simp at b;omega
  have f:j<xs.length:=by omega
  have n:q.1=xs[j]:=by rw [<-c];simp
  rw [n,h.gd j f];simp;intro _;omega
theorem ui{p:List (List Ins)}{xs:List Ev}{i:Nat}(a:i<xs.length):tl (jb p) [] (xs.take (i+1))=tl (jb p) [] (xs.take i)++[(xs[i],jj (jb p) (tl (jb p) [] (xs.take i)) xs[i])]:=by
 rw [List.take_succ_eq_append_getElem a,Er]
end
end Go.Proofs.YtklenjmfalljgabGreatDoor
