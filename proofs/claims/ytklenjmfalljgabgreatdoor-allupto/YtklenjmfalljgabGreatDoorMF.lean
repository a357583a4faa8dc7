/- The texts Frr Fha Fhb Fhc Frs Fhd Rdp Rfm Frt Fhe Fhf Fhg Rfo. -/
import Derived.Test.YtklenjmfalljgabGreatDoorME
import Derived.Maps.Own
import Derived.Maps.OwnOps
import Derived.Maps.Views
import Derived.DeepKeys4
import Derived.Deep.DeepCutAuto
import Derived.Sort.Grow
import Derived.Deep.Draws
import Derived.Test.YtklenjmfalljgabGreatDoorSrt
namespace Go.Proofs.YtklenjmfalljgabGreatDoor
set_option maxRecDepth 100000
set_option maxHeartbeats 8000000
section
def mX(t:Nat)(i:Ins):List (Nat × Nat × Bool):=(0,t,true)::(if i.op=9\/i.op=10 then [(2,i.a.toNat,true)] else if i.op=2 then [(1,i.b.toNat,false)] else if i.op=3 then [(1,i.a.toNat,true)] else [])
def nz(p:List (List Ins))(e:Ev):List (Nat × Nat × Bool):=mX e.t (ju p e.t e.k)
def jX(p:List (List Ins)):List (Ev × Nat)->Nat × Nat × Bool->Nat
 | [],_=>0
 | q::r,u=>if u∈nz p q.1 then max (q.2+1) (jX p r u) else jX p r u
def kL(H:Nat × Nat × Bool->Nat):List (Nat × Nat × Bool)->Nat->Nat
 | [],n=>n
 | u::r,n=>kL H r (if u.2.2=true then max (max n (H (u.1,u.2.1,true))) (H (u.1,u.2.1,false)) else max n (H (u.1,u.2.1,true)))
theorem Ah{α:Type}(d:α->α->Bool)(past:List (α × Nat))(x:α)(n:Nat):ji d past x<=n↔∀ q∈past,d q.1 x=true->q.2+1<=n:=by
 constructor
 ·intro h q a b;exact Nat.le_trans (Db d a b) h
 ·exact pZ d
theorem mE(p:List (List Ins))(u:Nat × Nat × Bool)(n:Nat):∀ past,jX p past u<=n↔∀ q∈past,u∈nz p q.1->q.2+1<=n
 | []=>by simp [jX]
 | q::r=>by
  have ih:=mE p u n r;unfold jX;by_cases h:u∈nz p q.1
  ·rw [if_pos h,Nat.max_le,ih];simp [h]
  ·rw [if_neg h,ih];simp [h]
theorem tB(H:Nat × Nat × Bool->Nat)(n:Nat):∀ (us:List (Nat × Nat × Bool)) (m:Nat),kL H us m<=n↔m<=n/\∀ u∈us,H (u.1,u.2.1,true)<=n/\(u.2.2=true->H (u.1,u.2.1,false)<=n)
 | [],m=>by simp [kL]
 | u::r,m=>by
  unfold kL;rw [tB H n r];by_cases h:u.2.2=true
  ·rw [if_pos h,Nat.max_le,Nat.max_le];simp [h,and_assoc]
  ·rw [if_neg h,Nat.max_le];simp [h,and_assoc]
theorem sO(p:List (List Ins)){x y:Ev}(a:x.bad=false)(b:y.bad=false):ja p y x=true↔∃ u∈nz p x,(u.1,u.2.1,true)∈nz p y\/(u.2.2=true/\(u.1,u.2.1,false)∈nz p y):=by
 unfold ja nz mX;generalize ju p x.t x.k=i;generalize ju p y.t y.k=j;by_cases f:i.op=9\/i.op=10
 ·by_cases c:j.op=9\/j.op=10
  ·simp [ma,tou,a,b,f,c];omega
  ·by_cases e:j.op=2
   ·have:¬(j.op=9\/j.op=10):=by omega
    simp [ma,tou,a,b,f,e];omega
   ·by_cases d:j.op=3
    ·simp [ma,tou,a,b,f,d];omega
    ·simp [ma,tou,a,b,f,c,e,d];omega
 ·by_cases h:i.op=2
  ·by_cases c:j.op=9\/j.op=10
   ·simp [ma,tou,a,b,h,c];omega
   ·by_cases e:j.op=2
    ·simp [ma,tou,a,b,h,e];omega
    ·by_cases d:j.op=3
     ·simp [ma,tou,a,b,h,d];omega
     ·simp [ma,tou,a,b,h,c,e,d];omega
  ·by_cases l:i.op=3
   ·by_cases c:j.op=9\/j.op=10
    ·simp [ma,tou,a,b,l,c];omega
    ·by_cases e:j.op=2
     ·simp [ma,tou,a,b,l,e];omega
     ·by_cases d:j.op=3
      ·simp [ma,tou,a,b,l,d];omega
      ·simp [ma,tou,a,b,l,c,e,d];omega
   ·by_cases c:j.op=9\/j.op=10
    ·simp [ma,tou,a,b,f,h,l,c];omega
    ·by_cases e:j.op=2
     ·simp [ma,tou,a,b,f,h,l,e];omega
     ·by_cases d:j.op=3
      ·simp [ma,tou,a,b,f,h,l,d];omega
      ·simp [ma,tou,a,b,f,h,l,c,e,d];omega
theorem AB(p:List (List Ins)){past:List (Ev × Nat)}{x:Ev}(e:x.bad=false)(f:∀ q∈past,q.1.bad=false):kL (jX p past) (nz p x) 0=ji (ja p) past x:=by
 have key:∀ n,kL (jX p past) (nz p x) 0<=n↔ji (ja p) past x<=n:=by
  intro n;rw [tB,Ah];constructor
  ·rintro⟨_,h⟩ q b i;obtain⟨u,c,a⟩:=(sO p e (f q b)).1 i;have d:=h u c;rcases a with a | ⟨a,h3⟩
   ·exact(mE p _ n past).1 d.1 q b a
   ·exact(mE p _ n past).1 (d.2 a) q b h3
  ·intro h;refine⟨Nat.zero_le _,fun u c=>⟨(mE p _ n past).2 fun q b a=>?_,fun hw=>(mE p _ n past).2 fun q b a=>?_⟩⟩
   ·exact h q b ((sO p e (f q b)).2 ⟨u,c,Or.inl a⟩)
   ·exact h q b ((sO p e (f q b)).2 ⟨u,c,Or.inr ⟨hw,a⟩⟩)
 have a:=(key (ji (ja p) past x)).2 (Nat.le_refl _);have d:=(key (kL (jX p past) (nz p x) 0)).1 (Nat.le_refl _);omega
def mA:List (Ev × Nat)->Nat
 | []=>0
 | q::r=>max (q.2+1) (mA r)
theorem Dc(p:List (List Ins)){past:List (Ev × Nat)}{x:Ev}(a:x.bad=true):ji (ja p) past x=mA past:=by
 induction past with
 | nil=>rfl
 | cons q r ih=>
  unfold ji mA;rw [if_pos (by simp [ja,a]),ih]
theorem oS{α:Type}(d:α->α->Bool):∀ (xs:List α) (past:List (α × Nat)) (m:Nat),(∀ q∈past,q.2<m)->∀ k q,(tl d past xs)[k]?=some q->q.2<=m+k
 | [],past,m,_,k,q,h=>by simp [tl]at h
 | x::r,past,m,hm,k,q,h=>by
  have hx:ji d past x<=m:=pZ d (fun y hy _=>hm y hy);cases k with
  | zero=>simp [tl]at h;subst h;exact hx
  | succ k=>
   simp only [tl,List.getElem?_cons_succ]at h;have:=oS d r _ (m+1) (fun y hy=>by
    rcases List.mem_cons.1 hy with hy | hy
    ·subst hy;simp only;omega
    ·have:=hm y hy;omega) k q h
   omega
def jT(n:Nat)(ks:List (Nat × Nat)):List (Nat × Nat):=(List.range n).flatMap fun l=>(List.range 4).flatMap fun t=>ks.filter fun k=>k.1==l && k.2==t
theorem nT{β:Type}{R:β->β->Prop}{f:Nat->List β}{n:Nat}(b:∀ l,l<n->(f l).Pairwise R)(d:∀ l l',l<l'->l'<n->∀ x∈f l,∀ y∈f l',R x y):((List.range n).flatMap f).Pairwise R:=by
 induction n with
 | zero=>simp
 | succ n ih=>
  rw [List.range_succ,List.flatMap_append,List.pairwise_append];refine⟨ih (fun l h=>b l (by omega)) (fun l l' h h'=>d l l' h (by omega)),by simpa using b n (by omega),fun x a y hy=>?_⟩;obtain⟨l,c,a⟩:=List.mem_flatMap.1 a;simp at hy c;exact d l n c (by omega) x a y hy
theorem pH{f:Nat->List (Nat × Nat)}(q:Nat × Nat)(c:Nat):∀ {n:Nat} (_:∀ l,l<n->(f l).count q=if l=c then (f c).count q else 0),((List.range n).flatMap f).count q=if c<n then (f c).count q else 0
 | 0,_=>by simp
 | n+1,h=>by
  rw [List.range_succ,List.flatMap_append,List.count_append,pH q c (fun l hl=>h l (by omega))];have:=h n (by omega);simp only [List.flatMap_cons,List.flatMap_nil,List.append_nil,this];by_cases e:n=c
  ·subst e;simp
  ·rw [if_neg e];by_cases e2:c<n
   ·rw [if_pos e2,if_pos (by omega)];rfl
   ·rw [if_neg e2,if_neg (by omega)]
theorem sY{n:Nat}{a:List (Nat × Nat)}(h:∀ k∈a,k.1<n/\k.2<4):(jT n a).Perm a:=by
 rw [List.perm_iff_count];intro q;have f:∀ l t,(a.filter fun k=>k.1==l && k.2==t).count q=if l=q.1/\t=q.2 then a.count q else 0:=by
  intro l t;by_cases e:l=q.1/\t=q.2
  ·rw [if_pos e,List.count_filter (by simp [e.1,e.2])]
  ·rw [if_neg e,List.count_eq_zero];intro c;have:=(List.mem_filter.1 c).2;simp at this;exact e ⟨this.1.symm,this.2.symm⟩
 have d:∀ l,((List.range 4).flatMap fun t=>a.filter fun k=>k.1==l && k.2==t).count q=if l=q.1 then (if q.2<4 then a.count q else 0) else 0:=by
  intro l;rw [pH q q.2 (fun t _=>by rw [f,f];by_cases b:l=q.1<;>by_cases i:t=q.2<;>simp [b,i]),f];by_cases b:l=q.1<;>simp [b]
 unfold jT;rw [pH q q.1 (fun l _=>by rw [d,d];by_cases b:l=q.1<;>simp [b]),d];simp only [if_true];by_cases c:q∈a
 ·have:=h q c;rw [if_pos this.1,if_pos this.2]
 ·have:a.count q=0:=List.count_eq_zero.2 c;rw [this];simp
theorem qM(n:Nat)(i:List (Nat × Nat)):(jT n i).Pairwise leP:=by
 have c:∀ l t x,x∈(i.filter fun k=>k.1==l && k.2==t)->x.1=l/\x.2=t:=fun l t x a=>by
  have:=(List.mem_filter.1 a).2;simpa using this
 refine nT (fun l _=>nT (fun t _=>?_) (fun t d h _ x a y b=>?_)) (fun l l' h _ x a y b=>?_)
 ·refine List.Pairwise.imp_of_mem (R:=fun _ _=>True) (fun {x y} a b _=>?_) (List.pairwise_of_forall (fun _ _=>trivial));have f:=c l t x a;have e:=c l t y b;unfold leP;omega
 ·have f:=c l t x a;have e:=c l d y b;unfold leP;omega
 ·obtain⟨t,_,a⟩:=List.mem_flatMap.1 a;obtain⟨d,_,b⟩:=List.mem_flatMap.1 b;have f:=c l t x a;have e:=c l' d y b;unfold leP;omega
theorem vh{p:List (List Ins)}{xs:List Ev}(d:∀ e∈xs,e.t<4):lH p xs=(jT xs.length (jx p xs)).map fun x=>(x.2:Int):=by
 unfold lH;rw [ui (sY ?_).symm (qM _ _)];intro k b;unfold jx at b;obtain⟨q,f,rfl⟩:=List.mem_map.1 b;obtain⟨j,a,rfl⟩:=List.getElem_of_mem f;have hj':j<xs.length:=by rwa [jB]at a
 have:=oS (ja p) xs [] 0 (by simp) j _ (List.getElem?_eq_getElem a);refine⟨by simp only [yK];omega,?_⟩;have h:((tl (ja p) [] xs)[j]).1∈xs:=by
  have c:((tl (ja p) [] xs)[j]).1∈(tl (ja p) [] xs).map (·.1):=List.mem_map.2 ⟨_,List.getElem_mem a,rfl⟩;rwa [tw]at c
 exact d _ h
end
section
open Go.RowKit Go.Maps
abbrev Use:=Nat × Nat × Bool
def uW(u:Use):Value:= .agg #[.int .i64 u.1,.int .i64 u.2.1,.bool u.2.2]
def EI(u:Use):Lit:= .string (keyBytes [.int .i64 u.1,.int .i64 u.2.1,.bool u.2.2])
def nJ(u:Use):Prop:=u.1<=1000/\u.2.1<=1000
theorem vE:Keyed Tryz.prog 240:=Keyed.of_law (deep_law_laid (by kernel_rfl) (m:=Tryz.prog.types.size+1) (of_decide_eq_true (by kernel_rfl)) (of_decide_eq_true (by kernel_rfl)) (by kernel_rfl) (by kernel_rfl))
theorem B7(w:World):(zeroValue 3).run Tryz.prog w= .ok (.int .i64 0) w:=by kernel_rfl
theorem sK{n:Nat}(h:n<=1000000):(Lit.int .i64 (n:Int)).wf=true:=WalkArith.wf_i64 (by omega)
theorem r9{u:Use}(h:nJ u):keyOf Tryz.prog 240 (uW u)=some (EI u):=by
 have k1:Tryz.prog.keyType 240=true:=by kernel_rfl
 have f:=sK (n:=u.1) (by have:=h.1;omega);have a:=sK (n:=u.2.1) (by have:=h.2;omega);obtain⟨m,j⟩:∃ m,Tryz.prog.types.size+1=m+2:=⟨Tryz.prog.types.size - 1,by have:2<=Tryz.prog.types.size:=of_decide_eq_true (by kernel_rfl);omega⟩;have c1:Tryz.prog.cellsOf 240=3:=by kernel_rfl
 have b:Tryz.prog.cellsOf 238=1:=by kernel_rfl
 have c:Tryz.prog.cellsOf 3=1:=by kernel_rfl
 have e:Tryz.prog.cellsOf 4=1:=by kernel_rfl
 have l:Tryz.prog.keyLits (m+1) 238 [.int .i64 (u.1:Int)]=some [.int .i64 (u.1:Int)]:=by
  unfold Program.keyLits;rw [Tryz.underlying238];simp only [f,and_self,if_true]
 have k:Tryz.prog.keyLits (m+1) 3 [.int .i64 (u.2.1:Int)]=some [.int .i64 (u.2.1:Int)]:=by
  unfold Program.keyLits;rw [Tryz.underlying3];simp only [a,and_self,if_true]
 have d:Tryz.prog.keyLits (m+1) 4 [.bool u.2.2]=some [.bool u.2.2]:=by
  unfold Program.keyLits;rw [Tryz.underlying4]
 have o:Tryz.prog.keyLits (m+2) 240 [.int .i64 (u.1:Int),.int .i64 (u.2.1:Int),.bool u.2.2]=some [.int .i64 (u.1:Int),.int .i64 (u.2.1:Int),.bool u.2.2]:=by
  unfold Program.keyLits;rw [Tryz.underlying240]
  simp only;rw [if_pos ⟨by rw [c1];rfl,by simp⟩];simp only [List.mapM_cons,List.mapM_nil,b,c,e,List.drop_zero,List.drop_succ_cons,List.take_succ_cons,List.take_zero,l,k,d];rfl
 have i:(uW u).formed Tryz.prog 240=true:=by
  unfold Value.formed uW;rw [Tryz.underlying240];simp only [c1];rfl
 unfold keyOf;rw [Tryz.underlying240];simp only [k1,i,Bool.and_self,if_true,j];have hc:(uW u).cells.toList=[.int .i64 (u.1:Int),.int .i64 (u.2.1:Int),.bool u.2.2]:=rfl;rw [hc,o];rfl
theorem BQ{u v:Use}(d:nJ u)(b:nJ v)(h:EI u=EI v):u=v:=by
 have c:=r9 d;have a:=r9 b;rw [<-h]at a;have:=vE.inj c a;unfold uW at this;simp at this;obtain⟨u1,u2,u3⟩:=u;obtain⟨v1,v2,v3⟩:=v;simp at this ⊢;exact⟨by omega,by omega,this.2.2⟩
def HistAt(w:World)(b n:Nat)(F:Use->Nat):Prop:=
 ∃ D:DataW Unit,w.ownsMap Tryz.prog 240 (plainElem Tryz.prog 3) b n D/\∀ u,nJ u->D.atKey (EI u) (.lit (.int .i64 0))= .lit (.int .i64 (F u))
theorem HistAt.made(w:World):HistAt (w.alloc (.map #[] 0)) w.heap.size 0 (fun _=>0):=⟨.map [],World.ownsMap_made _ _ _ _,fun _ _=>rfl⟩
theorem HistAt.kept{w w':World}{b n:Nat}{F:Use->Nat}(h:HistAt w b n F)(d:w.grownBy w' none):HistAt w' b n F:=by
 obtain⟨D,a,c⟩:=h;exact⟨D,a.kept d (by simp),c⟩
theorem HistAt.lt{w:World}{b n:Nat}{F:Use->Nat}(h:HistAt w b n F):b<w.heap.size:=by
 obtain⟨D,a,h2⟩:=h;exact a.lt
theorem HistAt.look{w:World}{b n:Nat}{F:Use->Nat}(h:HistAt w b n F){u:Use}(d:nJ u):
  (Instr.lookup 205 (.map (some b)) (uW u) false).run Tryz.prog w= .ok (.int .i64 (F u)) w:=by
 obtain⟨D,e,f⟩:=h;obtain⟨c,i,a,_⟩:=e.lookup_int vE Tryz.underlying205 Tryz.underlying3 (B7 w) (r9 d);rw [f u d]at a;simp at a;rw [i,<-a]
def zZ(F:Use->Nat)(u:Use)(x:Nat):Use->Nat:=fun v=>if v=u then x else F v
theorem HistAt.put{w:World}{b n:Nat}{F:Use->Nat}(h:HistAt w b n F){u:Use}(c:nJ u){x:Nat}(f:x<=1000000)(hn:n<=1000000):
  ∃ w',(Instr.mapUpdate 205 (.map (some b)) (uW u) (.int .i64 (x:Int))).run Tryz.prog w= .ok () w'/\HistAt w' b (n+1) (zZ F u x)/\w.grownBy w' (some b):=by
 obtain⟨D,a,d⟩:=h;obtain⟨w',k,j,i⟩:=a.update vE Tryz.underlying205 (by unfold maxLen;omega) (r9 c) (plainElem_int Tryz.underlying3 (sK f));refine⟨w',k,⟨_,j,fun v hv=>?_⟩,i⟩;unfold zZ;by_cases e:v=u
 ·subst e;rw [if_pos rfl];refine atKey_put_same ?_ ?_ _ _
  ·obtain⟨es,_,_,_,_,rfl⟩:=a;exact⟨_,rfl⟩
  ·exact trivial
 ·rw [if_neg e,atKey_put_other (fun e2=>e (BQ hv c e2))];exact d v hv
end
section
open Go.RowKit Go.Maps
attribute [local go_sem] Go.World.cell?_alloc_some
def UsesAt(w:World)(v:Value)(us:List Use):Prop:=
 ∃ g cap,v= .slice (some ⟨g,0,none⟩) us.length cap/\g<w.heap.size/\∀ k (hk:k<us.length),w.cell? ⟨g,k*3,none⟩=some (.int .i64 (us[k].1:Int))/\w.cell? ⟨g,k*3+1,none⟩=some (.int .i64 (us[k].2.1:Int))/\w.cell? ⟨g,k*3+2,none⟩=some (.bool us[k].2.2)
theorem UsesAt.grown{w w':World}{v:Value}{f:List Use}(h:UsesAt w v f)(d:w.grownBy w' none):UsesAt w' v f:=by
 obtain⟨g,j,e,l,i⟩:=h;refine⟨g,j,e,Nat.lt_of_lt_of_le l d.size,fun k hk=>?_⟩;obtain⟨a,b,c⟩:=i k hk;exact⟨ip d _ _ a,ip d _ _ b,ip d _ _ c⟩
theorem De{W:World}{t:TypeId}{g:Nat}{u:Use}(a:W.heap.size=g):UsesAt (W.alloc (.cells #[.int .i64 (u.1:Int),.int .i64 (u.2.1:Int),.bool u.2.2] t)) (.slice (some ⟨g,0,none⟩) 1 1) [u]:=by
 subst a;have h:=heap_alloc_new W (.cells #[.int .i64 (u.1:Int),.int .i64 (u.2.1:Int),.bool u.2.2] t);refine⟨W.heap.size,1,rfl,by simp,fun k hk=>?_⟩;have b:k=0:=by simp at hk;omega
 subst b;simp only [World.cell?,h];exact⟨rfl,rfl,rfl⟩
theorem qo{W:World}{t:TypeId}{g:Nat}{u v:Use}(a:W.heap.size=g):UsesAt (W.alloc (.cells #[.int .i64 (u.1:Int),.int .i64 (u.2.1:Int),.bool u.2.2,.int .i64 (v.1:Int),.int .i64 (v.2.1:Int),.bool v.2.2] t)) (.slice (some ⟨g,0,none⟩) 2 2) [u,v]:=by
 subst a;have h:=heap_alloc_new W (.cells #[.int .i64 (u.1:Int),.int .i64 (u.2.1:Int),.bool u.2.2,.int .i64 (v.1:Int),.int .i64 (v.2.1:Int),.bool v.2.2] t);refine⟨W.heap.size,2,rfl,by simp,fun k hk=>?_⟩;have b:k=0\/k=1:=by simp at hk;omega
 rcases b with rfl | rfl
 ·simp only [World.cell?,h];exact⟨rfl,rfl,rfl⟩
 ·simp only [World.cell?,h];exact⟨rfl,rfl,rfl⟩
theorem Bp(t:Nat)(i:Ins)(w:World)(k:0<=i.a)(l:0<=i.b):
  Calls Tryz.prog 124 #[.int .i64 (t:Int),.agg #[.int .i64 i.op,.int .i64 i.a,.int .i64 i.b,.int .i64 i.n]] w fun e w'=>∃ v,e= .returned v/\UsesAt w' v (mX t i)/\w.grownBy w' none:=by
 obtain⟨op,a,b,n⟩:=i;obtain⟨a,rfl⟩:=Int.eq_ofNat_of_zero_le k;obtain⟨b,rfl⟩:=Int.eq_ofNat_of_zero_le l;simp only;have h:Hid (∀ x y z,w.grownBy (((w.alloc x).alloc y).alloc z) none):=fun x y z=>iq (iq (iq (ir _ _)))
 by_cases j:op=9\/op=10
 ·have c:Hid (mX t ⟨op,a,b,n⟩=[(0,t,true),(2,a,true)]):=by unfold Hid mX;simp [j]
  rcases j with rfl | rfl
  ·go_enter Tryz.func124,Tryz.ntmps124
   go_wp2_with fail
   go_ret;exact⟨_,rfl,by rw [c.out];exact qo (u:=(0,t,true)) (v:=(2,a,true)) (by simp),h.out _ _ _⟩
  ·go_enter Tryz.func124,Tryz.ntmps124
   go_wp2_with fail
   go_ret;exact⟨_,rfl,by rw [c.out];exact qo (u:=(0,t,true)) (v:=(2,a,true)) (by simp),h.out _ _ _⟩
 ·by_cases d:op=2
  ·have c:Hid (mX t ⟨op,a,b,n⟩=[(0,t,true),(1,b,false)]):=by unfold Hid mX;simp [d]
   subst d;go_enter Tryz.func124,Tryz.ntmps124
   go_wp2_with fail
   go_ret;exact⟨_,rfl,by rw [c.out];exact qo (u:=(0,t,true)) (v:=(1,b,false)) (by simp),h.out _ _ _⟩
  ·by_cases f:op=3
   ·have c:Hid (mX t ⟨op,a,b,n⟩=[(0,t,true),(1,a,true)]):=by unfold Hid mX;simp [f]
    subst f;go_enter Tryz.func124,Tryz.ntmps124
    go_wp2_with fail
    go_ret;exact⟨_,rfl,by rw [c.out];exact qo (u:=(0,t,true)) (v:=(1,a,true)) (by simp),h.out _ _ _⟩
   ·have c:Hid (mX t ⟨op,a,b,n⟩=[(0,t,true)]):=by unfold Hid mX;simp [j,d,f]
    have e2:(op==2)=false:=by simpa using d
    have e3:(op==3)=false:=by simpa using f
    have e9:(op==9)=false:=by simp;omega
    have e10:(op==10)=false:=by simp;omega
    clear j d f;go_enter Tryz.func124,Tryz.ntmps124
    go_wp2_with fail
    go_ret;exact⟨_,rfl,by rw [c.out];exact De (u:=(0,t,true)) (by simp),h.out _ _ _⟩
theorem pY(F:Use->Nat)(hF:∀ u,F u<=1000):∀ (us:List Use) (n:Nat),n<=1000->kL F us n<=1000
 | [],n,h=>h
 | u::r,n,h=>by
  unfold kL;have h1:=hF (u.1,u.2.1,true);have h2:=hF (u.1,u.2.1,false);exact pY F hF r _ (by split<;>omega)
theorem E4{w:World}{b n:Nat}{F:Use->Nat}(z:HistAt w b n F)(B:∀ u,F u<=1000)(a:List Use)(t:∀ u∈a,nJ u)(v:Value)(G:UsesAt w v a)(hl:a.length<=10):
  Calls Tryz.prog 125 #[.map (some b),v] w fun e w'=>e= .returned (.int .i64 (kL F a 0:Nat))/\w.grownBy w' none:=by
 obtain⟨g,cap,rfl,hg,hc⟩:=G;have C:=ij z;have D:=ij B;have H:=ij t;have E:=ij hc;have hl':(a.length:Int)<=10:=by omega
 clear z B t hc;go_enter Tryz.func125,Tryz.ntmps125
 go_wp2_with fail
 go_loopw [5,10] (fun x i w'=>∃ k m:Nat,k<=a.length/\i= .int .i64 k/\x= .int .i64 m/\m<=1000/\Hid (w.grownBy w' none)/\Hid (kL F a 0=kL F (a.drop k) m)) (fun _ i _=>a.length - (intOf i).toNat)
 case atStart=>exact⟨0,0,Nat.zero_le _,rfl,rfl,by omega,ir _ _,rfl⟩
 case round=>
  obtain⟨k,m,hk,rfl,rfl,hm,c,l⟩:=hrel;obtain⟨d,A⟩:∃ d,d=wr:=⟨_,rfl⟩;rw [<-A]at c ⊢;clear A;by_cases o:k<a.length
  ·obtain⟨c0,c1,r⟩:=E.out k o;have d0:=ip c.out _ _ c0;have d1:=ip c.out _ _ c1;have d2:=ip c.out _ _ r;have h:Hid (kL F a 0=kL F (a.drop (k+1)) (if a[k].2.2=true then max (max m (F (a[k].1,a[k].2.1,true))) (F (a[k].1,a[k].2.1,false)) else max m (F (a[k].1,a[k].2.1,true)))):=by
    unfold Hid;rw [l.out,List.drop_eq_getElem_cons o,kL]
   have q:=H.out _ (List.getElem_mem o);have s:Hid (∀ u,d.grownBy u none->(Instr.lookup 205 (.map (some b)) (.agg #[.int .i64 (a[k].1:Int),.int .i64 (a[k].2.1:Int),.bool true]) false).run Tryz.prog u= .ok (.int .i64 (F (a[k].1,a[k].2.1,true))) u):=fun u hu=>((C.out.kept c.out).kept hu).look (u:=(a[k].1,a[k].2.1,true)) q
   have y:Hid (∀ u,d.grownBy u none->(Instr.lookup 205 (.map (some b)) (.agg #[.int .i64 (a[k].1:Int),.int .i64 (a[k].2.1:Int),.bool false]) false).run Tryz.prog u= .ok (.int .i64 (F (a[k].1,a[k].2.1,false))) u):=fun u hu=>((C.out.kept c.out).kept hu).look (u:=(a[k].1,a[k].2.1,false)) q
   have hft:=D.out (a[k].1,a[k].2.1,true);have hff:=D.out (a[k].1,a[k].2.1,false);clear c0 c1 r q l;generalize a[k]=u at*;obtain⟨f,j,p⟩:=u;simp only at*;generalize F (f,j,true)=ft at*;generalize F (f,j,false)=ff at*;have k0:(0:Int)<=(k:Int):=by omega
   have k1:(k:Int)<a.length:=by omega
   have rt:=s.out (d.alloc (.cells #[.int .i64 (f:Int),.int .i64 (j:Int),.bool p] 240)) (iq (ir _ _));have rf:=y.out (d.alloc (.cells #[.int .i64 (f:Int),.int .i64 (j:Int),.bool p] 240)) (iq (ir _ _));clear s y;cases p
   ·simp only [Bool.false_eq_true,if_false]at h;go_wp2_with fail
    go_roundw
    case rel=>exact⟨k+1,max m ft,by omega,by go_num,by congr 1;(repeat' split)<;>omega,by omega,iq c.out,h⟩
    case measure=>simp [intOf];omega
   ·simp only [if_true]at h;go_wp2_with fail
    go_roundw
    case rel=>exact⟨k+1,max (max m ft) ff,by omega,by go_num,by congr 1;(repeat' split)<;>omega,by omega,iq c.out,h⟩
    case measure=>simp [intOf];omega
  ·have k1:(a.length:Int)<=(k:Int):=by omega
   have I:Hid (kL F a 0=m):=by
    unfold Hid;rw [l.out,List.drop_of_length_le (by omega)];rfl
   go_wp2_with fail
   go_ret;exact⟨by rw [I.out];rfl,c.out⟩
theorem HistAt.nocell{w:World}{b n:Nat}{F:Use->Nat}(h:HistAt w b n F)(o:Nat):w.cell? ⟨b,o,none⟩=none:=by
 obtain⟨D,⟨es,cl,a,_⟩,_⟩:=h;simp [World.cell?,a]
def kZ(x:Nat):List Use->(Use->Nat)->Use->Nat
 | [],F=>F
 | u::r,F=>kZ x r (zZ F u (max (F u) x))
theorem qQ(x:Nat):∀ (us:List Use) (F:Use->Nat) (v:Use),kZ x us F v=if v∈us then max (F v) x else F v
 | [],F,v=>by simp [kZ]
 | u::r,F,v=>by
  unfold kZ;rw [qQ x r];unfold zZ;by_cases e:v=u
  ·subst e;simp
  ·simp [e]
theorem xz(x:Nat)(b:List Use)(u:Use)(F:Use->Nat):kZ x (b++[u]) F=zZ (kZ x b F) u (max (kZ x b F u) x):=by
 induction b generalizing F with
 | nil=>rfl
 | cons a r ih=>simp only [List.cons_append,kZ];exact ih _
theorem EM{w:World}{b n:Nat}{F:Use->Nat}(A:HistAt w b n F)(Q:∀ u,F u<=1000)(hn:n<=100000)(a:List Use)(J:∀ u∈a,nJ u)(v:Value)(W:UsesAt w v a)(hl:a.length<=10)(c:Nat)(hla:c<=900):
  Calls Tryz.prog 126 #[.map (some b),v,.int .i64 (c:Int)] w fun e w'=>(∃ v,e= .returned v)/\HistAt w' b (n+a.length) (kZ (c+1) a F)/\w.grownBy w' (some b):=by
 obtain⟨g,cap,rfl,hg,hc⟩:=W;have S:=ij A;have HF:=ij Q;have HS:=ij J;have V:=ij hc;have hl':(a.length:Int)<=10:=by omega
 have hla':(c:Int)<=900:=by omega
 have hla0:(0:Int)<=(c:Int):=by omega
 have hbw:=A.lt;clear A Q J hc;go_enter Tryz.func126,Tryz.ntmps126
 go_wp2_with fail
 go_loopw [10] (fun i w'=>∃ k:Nat,k<=a.length/\i= .int .i64 k/\Hid (HistAt w' b (n+k) (kZ (c+1) (a.take k) F))/\Hid (w.grownBy w' (some b))) (fun i _=>a.length - (intOf i).toNat)
 case atStart=>exact⟨0,Nat.zero_le _,rfl,S,ir _ _⟩
 case round=>
  obtain⟨k,hk,rfl,t,s⟩:=hrel;obtain⟨d,N⟩:∃ d,d=wr:=⟨_,rfl⟩;rw [<-N]at t s ⊢;clear N;by_cases B:k<a.length
  ·obtain⟨c0,c1,D⟩:=V.out k B;have aa:g≠b:=fun e=>by
    have:=S.out.nocell (k*3);rw [<-e,c0]at this;cases this
   have z:=s.out.block g hg (by simpa using aa);have d0:d.cell? ⟨g,k*3,none⟩=some (.int .i64 (a[k].1:Int)):=by rw [World.cell?_of_block z];exact c0
   have U:d.cell? ⟨g,k*3+1,none⟩=some (.int .i64 (a[k].2.1:Int)):=by rw [World.cell?_of_block z];exact c1
   have d2:d.cell? ⟨g,k*3+2,none⟩=some (.bool a[k].2.2):=by rw [World.cell?_of_block z];exact D
   have T:=HS.out _ (List.getElem_mem B);have M:Hid (kZ (c+1) (a.take (k+1)) F=zZ (kZ (c+1) (a.take k) F) a[k] (max (kZ (c+1) (a.take k) F a[k]) (c+1))):=by
    unfold Hid;rw [List.take_succ_eq_append_getElem B,xz]
   have hfx:kZ (c+1) (a.take k) F a[k]<=1000:=by
    rw [qQ];have:=HF.out a[k];split<;>omega
   have hbw5:=t.out.lt;clear c0 c1 D z;generalize a[k]=u at*;obtain⟨l,r,p⟩:=u;simp only at d0 U d2;generalize kZ (c+1) (a.take k) F=G at*;generalize E:G (l,r,p)=fv at*;have Z:=ij E;clear E;have k0:(0:Int)<=(k:Int):=by omega
   have k1:(k:Int)<a.length:=by omega
   have C:Hid (HistAt (d.alloc (.cells #[.int .i64 (l:Int),.int .i64 (r:Int),.bool p] 240)).drew b (n+k) G):=t.out.kept (iy (iq (ir _ _)));obtain⟨I,L,K,H⟩:=C.out.put (u:=(l,r,p)) T (x:=max fv (c+1)) (by omega) (by omega);have ae:Hid (HistAt I b (n+(k+1)) (kZ (c+1) (a.take (k+1)) F)):=by
    unfold Hid;rw [M.out];exact K
   have Y:Hid (w.grownBy I (some b)):=il s.out (il (iy (iq (ir _ _))) H);have R:(if (fv:Int)<(c:Int)+1 then ((c:Int)+1) else (fv:Int))=((max fv (c+1):Nat):Int):=by split<;>omega
   clear K H M;have y:(d.alloc (.cells #[.int .i64 (l:Int),.int .i64 (r:Int),.bool p] 240)).drew.heap[d.heap.size]?=some (.cells #[.int .i64 (l:Int),.int .i64 (r:Int),.bool p] 240):=heap_alloc_new d _;go_upto_region 3 with fail
   refine iz (fun u=>(u.cell? ⟨d.heap.size,0,none⟩=some (.int .i64 (l:Int))/\u.cell? ⟨d.heap.size,1,none⟩=some (.int .i64 (r:Int))/\u.cell? ⟨d.heap.size,2,none⟩=some (.bool p))/\HistAt u b (n+k) G) 8 (by kernel_rfl) (by kernel_rfl) ⟨⟨by simp only [World.cell?,y];rfl,by simp only [World.cell?,y];rfl,by simp only [World.cell?,y];rfl⟩,C.out⟩ ?_;intro j;have O:IntKind.i64.wrap ((c:Int)+1)=(c:Int)+1:=by rw [IntKind.wrap_i64];omega
   refine gJ 0 ?va0 rfl (by kernel_rfl) (fun _ _ _ h=>h) (by rfl) ?ya0 j ?_
   case ya0=>(rintro u ⟨⟨m,q,o⟩,f⟩;go_simp;try rfl)
   simp only [Act.put,List.setIfInBounds_toArray];refine gJ 1 ?va1 rfl (by kernel_rfl) (fun _ _ _ h=>h) (by rfl) ?ya1 j ?_
   case ya1=>(rintro u ⟨⟨m,q,o⟩,f⟩;go_simp;try rfl)
   simp only [Act.put];refine gJ 2 ?va2 rfl (by kernel_rfl) (fun _ _ _ h=>h) (by rfl) ?ya2 j ?_
   case ya2=>(rintro u ⟨⟨m,q,o⟩,f⟩;go_simp;try rfl)
   simp only [Act.put];refine gJ 3 ?va3 rfl (by kernel_rfl) (fun _ _ _ h=>h) (by rfl) ?ya3 j ?_
   case ya3=>(rintro u ⟨⟨m,q,o⟩,f⟩;go_simp;try rfl)
   simp only [Act.put];refine kJ (i:=4) (v:= .int .i64 (fv:Int)) rfl (by kernel_rfl) (fun _ _ _ h=>h) (Or.inl ⟨by rfl,?ya4⟩) j ?resta4
   case ya4=>(rintro u ⟨⟨m,q,o⟩,f⟩;have P:=f.look (u:=(l,r,p)) T;rw [Z.out]at P;unfold uW at P;clear f;go_simp)
   simp only [Act.put];refine gJ 5 ?va5 rfl (by kernel_rfl) (fun _ _ _ h=>h) (by rfl) ?ya5 j ?_
   case ya5=>(rintro u ⟨⟨m,q,o⟩,f⟩;go_simp;try rfl)
   simp only [Act.put];refine kJ (i:=6) (v:= .int .i64 ((c:Int)+1)) rfl (by kernel_rfl) (fun _ _ _ h=>h) (Or.inl ⟨by rfl,?ya6⟩) j ?resta6
   case ya6=>(rintro u ⟨⟨m,q,o⟩,f⟩;go_simp;try rw [O])
   simp only [Act.put];refine kJ (i:=7) (v:= .int .i64 ((max fv (c+1):Nat):Int)) rfl (by kernel_rfl) (fun _ _ _ h=>h) (Or.inl ⟨by rfl,?ya7⟩) j ?resta7
   case ya7=>(rintro u ⟨⟨m,q,o⟩,f⟩;clear f;go_simp;try rw [R])
   simp only [Act.put];refine iH rfl (by kernel_rfl) (by kernel_rfl) (by rfl) ?_;unfold uW at L;go_simp;clear j L C O R y;go_wp2_with fail
   go_roundw
   case rel=>exact⟨k+1,by omega,by go_num,ae,Y⟩
   case measure=>simp [intOf];omega
  ·have k1:(a.length:Int)<=(k:Int):=by omega
   have X:k=a.length:=by omega
   have HE:Hid (HistAt d b (n+a.length) (kZ (c+1) a F)):=by
    have:=t.out;rwa [List.take_of_length_le (by omega),X]at this
   go_wp2_with fail
   go_end0
   exact⟨⟨_,rfl⟩,HE.out,s.out⟩
end
section
theorem rI(p:List (List Ins))(q:Ev × Nat)(u:Nat × Nat × Bool):∀ L,jX p (L++[q]) u=if u∈nz p q.1 then max (jX p L u) (q.2+1) else jX p L u
 | []=>by simp [jX]
 | y::r=>by
  simp only [List.cons_append,jX,rI p q u r];split<;>split<;>omega
theorem rD(q:Ev × Nat):∀ L,mA (L++[q])=max (mA L) (q.2+1)
 | []=>by simp [mA]
 | y::r=>by
  simp only [List.cons_append,mA,rD q r];omega
theorem Ad(p:List (List Ins))(xs:List Ev)(u:Nat × Nat × Bool):jX p (tl (ja p) [] xs) u<=xs.length:=by
 rw [mE];intro q b _;obtain⟨j,a,rfl⟩:=List.getElem_of_mem b;have:=oS (ja p) xs [] 0 (by simp) j _ (List.getElem?_eq_getElem a);rw [jB]at a;omega
theorem Ay(p:List (List Ins))(xs:List Ev):mA (tl (ja p) [] xs)<=xs.length:=by
 have key:∀ (L:List (Ev × Nat)) (n:Nat),(∀ q∈L,q.2+1<=n)->mA L<=n:=by
  intro L n;induction L with
  | nil=>simp [mA]
  | cons y r ih=>
   intro h;unfold mA;have h1:=h y (List.mem_cons_self ..);have h2:=ih (fun q a=>h q (List.mem_cons_of_mem _ a));omega
 apply key;intro q a;obtain⟨j,b,rfl⟩:=List.getElem_of_mem a;have:=oS (ja p) xs [] 0 (by simp) j _ (List.getElem?_eq_getElem b);rw [jB]at b;omega
theorem Ft(p:List (List Ins))(xs:List Ev)(x:Ev):ji (ja p) (tl (ja p) [] xs) x<=xs.length:=by
 apply pZ;intro q b _;obtain⟨j,a,rfl⟩:=List.getElem_of_mem b;have:=oS (ja p) xs [] 0 (by simp) j _ (List.getElem?_eq_getElem a);rw [jB]at a;omega
structure rF(p:List (List Ins))(o:Out)(xs:List Ev):Prop where
 ev:uC o=xs
 st:o.steps=xs.map Ev.pr
 th:∀ e∈xs,e.t<p.length/\0<=e.k/\e.k<(iO p e.t).length
 gd:∀ i (hi:i<xs.length),xs[i].bad=(decide (o.kind=1) && decide (i+1=xs.length))
theorem tu{p:List (List Ins)}(c:iU p=true):∀ (xs:List Ev) (s a:St),Inv p s->RunE p s xs a->∀ e∈xs,e.t<p.length/\0<=e.k/\e.k<(iO p e.t).length
 | [],_,_,_,_,e,he=>by cases he
 | x::r,s,a,hI,⟨hx,hr⟩,e,he=>by
  obtain⟨h1,h2,h3,h4⟩:=hx;have hd:jR p s x.t=false:=by
   cases hd:jR p s x.t with
   | false=>rfl
   | true=>simp [jE,hd]at h2
  rcases List.mem_cons.1 he with he | he
  ·subst he;have b:=hI e.t h1;have d:s.next e.t≠((iO p e.t).length:Int):=by simpa [jR]using hd
   rw [h3]at b d;exact⟨h1,b.1,by omega⟩
  ·exact tu c r _ a (Inv.step c hI h1 hd) hr e he
theorem nN{p:List (List Ins)}(h:iU p=true)(s:List Int):∃ xs,rF p (iI p s) xs:=by
 have hc:=na p s 0 St.zero [];change ∃ xs a,RunE p St.zero xs a/\(iI p s).steps=[]++xs.map Ev.pr/\(iI p s).st=a/\((good xs/\xs.map Ev.tI=s/\(iI p s).kind=jQ p a/\(iI p s).thread=0/\(iI p s).at_=0)\/(good xs/\(∃ u r,s=xs.map Ev.tI++u::r/\m8 p a u=false)/\(iI p s).kind=2/\(iI p s).thread=0/\(iI p s).at_=0+xs.length)\/(∃ ys z r,xs=ys++[z]/\good ys/\z.bad=true/\s=xs.map Ev.tI++r/\(iI p s).kind=1/\(iI p s).thread=z.tI/\(iI p s).at_=z.k))at hc
 obtain⟨xs,a,j,b,hst,hc⟩:=hc;rw [List.nil_append]at b;have f:=tu h xs St.zero a (Inv.zero p) j;refine⟨xs,?_⟩;have d:good xs->(iI p s).kind≠1->rF p (iI p s) xs:=fun g hk=>by
  refine⟨yy hk b g,b,f,fun i hi=>?_⟩;rw [g _ (List.getElem_mem hi)];simp [hk]
 rcases hc with ⟨g1,_,g3,_⟩ | ⟨g1,_,g3,_⟩ | ⟨us,z,r,g1,g2,g3,_,g5,_⟩
 ·exact d g1 (by have:=pu p a;omega)
 ·exact d g1 (by omega)
 ·subst g1;refine⟨AM g5 b g2 g3,b,f,fun i hi=>?_⟩;by_cases e:i=us.length
  ·subst e;simp [g3,g5]
  ·have c:i<us.length:=by simp at hi;omega
   rw [List.getElem_append_left c,g2 _ (List.getElem_mem c)];simp;intro _;omega
theorem Ch{p:List (List Ins)}{o:Out}{xs:List Ev}(h:rF p o xs){i:Nat}(f:i<xs.length):
  ji (ja p) (tl (ja p) [] (xs.take i)) xs[i]=if o.kind=1/\i+1=xs.length then mA (tl (ja p) [] (xs.take i)) else kL (jX p (tl (ja p) [] (xs.take i))) (nz p xs[i]) 0:=by
 have a:=h.gd i f;by_cases e:o.kind=1/\i+1=xs.length
 ·rw [if_pos e,Dc p (by rw [a];simp [e])]
 ·rw [if_neg e,AB p (by rw [a];simp;omega)];intro q l;have m:q.1∈xs.take i:=by
   have b:q.1∈(tl (ja p) [] (xs.take i)).map (·.1):=List.mem_map.2 ⟨q,l,rfl⟩;rwa [tw]at b
  obtain⟨j,k,n⟩:=List.getElem_of_mem m;have hj':j<i:=by simp at k;omega
  have c:j<xs.length:=by omega
  have d:q.1=xs[j]:=by rw [<-n];simp
  rw [d,h.gd j c];simp;intro _;omega
theorem uF{p:List (List Ins)}{xs:List Ev}{i:Nat}(a:i<xs.length):tl (ja p) [] (xs.take (i+1))=tl (ja p) [] (xs.take i)++[(xs[i],ji (ja p) (tl (ja p) [] (xs.take i)) xs[i])]:=by
 rw [List.take_succ_eq_append_getElem a,Ey]
end
section
open Go.RowKit Go.Maps
attribute [local go_sem] Go.World.cell?_alloc_some
theorem vm{i:Ins}{len:Int}(h:lG i len=true):0<=i.a/\i.a<4/\0<=i.b/\i.b<4:=by
 obtain⟨h1,h2⟩:=vM h;obtain⟨d,c,f⟩:=sV h;have hc:i.op=1\/i.op=2\/i.op=3\/i.op=4\/i.op=5\/i.op=6\/i.op=7\/i.op=8\/i.op=9\/i.op=10\/i.op=11:=by omega
 rcases hc with e | e | e | e | e | e | e | e | e | e | e<;>rw [e]at d c f<;>simp [shp,mi,jD]at d c f<;>omega
theorem yz{t:Nat}{i:Ins}(ht:t<4)(ha:i.a<4)(hb:i.b<4):(∀ u∈mX t i,nJ u)/\(mX t i).length<=10:=by
 unfold mX nJ;by_cases c:i.op=9\/i.op=10
 ·simp [c];omega
 ·by_cases d:i.op=2
  ·simp [d];omega
  ·by_cases e:i.op=3
   ·simp [e];omega
   ·simp [c,d,e];omega
def kI(q:Nat × Nat):Int × Int:=((q.1:Int),(q.2:Int))
def nE(ks:List (Nat × Nat)):List Value:=iR (ks.map kI)
theorem Aw(a:List (Nat × Nat)):(nE a).length=a.length*2:=by
 induction a with
 | nil=>rfl
 | cons x r ih=>simp only [nE,iR,List.map_cons,List.flatMap_cons,List.length_append]at*;simp at*;omega
theorem ye(a:List (Nat × Nat))(q:Nat × Nat):nE (a++[q])=nE a++[.int .i64 (q.1:Int),.int .i64 (q.2:Int)]:=by
 unfold nE;rw [List.map_append,List.map_cons,List.map_nil,nj];rfl
theorem B5(L:List Value)(x y:Value)(i n:Nat)(b:L.length=i*2)(hi:i<n):((L++List.replicate ((n - i)*2) (Value.int .i64 0)).set (i*2) x).set (i*2+1) y=(L++[x,y])++List.replicate ((n - (i+1))*2) (Value.int .i64 0):=by
 obtain⟨k,a⟩:∃ k,(n - i)*2=k+2/\(n - (i+1))*2=k:=⟨(n - (i+1))*2,by omega,rfl⟩;rw [a.1,a.2,List.set_append,if_neg (by omega),b,Nat.sub_self,List.replicate_succ,List.set_cons_zero,List.set_append,if_neg (by omega),b];have e:i*2+1 - i*2=1:=by omega
 rw [e,List.replicate_succ];simp
theorem wH:((Tryz.prog.info? 165).map fun i=>(i.zero,i.size,i.bytes))=some (some (.agg #[.int .i64 0,.int .i64 0]),2,16):=by kernel_rfl
theorem Bo(n:Nat):(madeCells #[Value.int .i64 0,.int .i64 0] n).toList=List.replicate n (.int .i64 0):=by
 apply List.ext_getElem (by simp [madeCells]);intro i h1 a;simp only [madeCells,Array.toList_map,List.getElem_map,List.getElem_replicate];have:i<n:=by simpa using a
 simp only [Array.toList_range,List.getElem_range];rcases(by omega:i % 2=0\/i % 2=1)with h | h<;>simp [h]
theorem sj:∀ (l:List (Int × Int)) (j:Nat) (hj:j<l.length),(iR l)[j*2]?=some (.int .i64 l[j].1)/\(iR l)[j*2+1]?=some (.int .i64 l[j].2)
 | [],j,hj=>by simp at hj
 | x::l,0,hj=>by simp [iR]
 | x::l,j+1,hj=>by
  have h:=sj l j (by simpa using hj);have e:iR (x::l)=[.int .i64 x.1,.int .i64 x.2]++iR l:=by simp [iR]
  have e2:∀ q,(iR (x::l))[(j+1)*2+q]?=(iR l)[j*2+q]?:=fun q=>by
   rw [e,List.getElem?_append_right (by simp;omega)];congr 1
   simp;omega
  refine⟨?_,?_⟩
  ·have:=e2 0;simp only [Nat.add_zero]at this;rw [this];simpa using h.1
  ·rw [e2 1];simpa using h.2
theorem qr{w:World}{base:Nat}{a:Option Addr}{c:Nat}{xs:List Ev}{o:Out}(h:w.ownsRow base 76 2 (.slice a xs.length c) xs.length (iR o.steps))(b:o.steps=xs.map Ev.pr){j:Nat}(i:j<xs.length):
  ∃ g,a=some ⟨g,0,none⟩/\w.cell? ⟨g,j*2,none⟩=some (.int .i64 (xs[j].t:Int))/\w.cell? ⟨g,j*2+1,none⟩=some (.int .i64 xs[j].k):=by
 rcases h.2 with ⟨_,e⟩ | ⟨g,cap,_,e,_⟩
 ·omega
 ·simp only [Value.slice.injEq,true_and]at e;obtain⟨rfl,rfl⟩:=e;have d:j<o.steps.length:=by rw [b];simpa using i
  have q:=sj o.steps j d;have f:o.steps[j]=xs[j].pr:=by simp [b]
  rw [f]at q;exact⟨g,rfl,by rw [h.cellAt _ (by omega)];exact q.1,by rw [h.cellAt _ (by omega)];exact q.2⟩
theorem yt{w:World}{f:Option Addr}{m:Nat}{p:List (List Ins)}(v:ProgAt w (.agg #[.slice f p.length m]) p){t:Nat}(j:t<p.length){k:Nat}(c:k<(iO p t).length):
  ∃ g o ca cc cg co,f=some ⟨g,o,none⟩/\ca=some ⟨cg,co,none⟩/\w.cell? ⟨g,o+t,none⟩=some (.slice ca (iO p t).length cc)/\w.cell? ⟨cg,co+k*4,none⟩=some (.int .i64 (ju p t k).op)/\w.cell? ⟨cg,co+k*4+1,none⟩=some (.int .i64 (ju p t k).a)/\w.cell? ⟨cg,co+k*4+2,none⟩=some (.int .i64 (ju p t k).b)/\w.cell? ⟨cg,co+k*4+3,none⟩=some (.int .i64 (ju p t k).n):=by
 obtain⟨ao',cap',e,h⟩:=v;simp at e;obtain⟨rfl,rfl⟩:=e;obtain⟨g,o,l,rv,c0,ca,cc,i,d⟩:=h t j;have s:=nw j;rw [<-s]at d i;obtain⟨cg,co,u,k0,k1,k2,r⟩:=d k c;have q:ju p t (k:Int)=(iO p t)[k]:=by rw [mz (by simpa using c)];simp
 rw [q];exact⟨g,o,ca,cc,cg,co,l,u,by rw [c0,i],k0,k1,k2,r⟩
theorem HistAt.keptRow{w w':World}{b n r:Nat}{F:Use->Nat}(h:HistAt w b n F)(e:w.grownBy w' (some r))(d:r≠b):HistAt w' b n F:=by
 obtain⟨D,a,c⟩:=h;exact⟨D,a.kept e (by simpa using Ne.symm d),c⟩
theorem HistAt.mono{w:World}{b n n':Nat}{F:Use->Nat}(h:HistAt w b n F)(d:n<=n'):HistAt w b n' F:=by
 obtain⟨D,a,c⟩:=h;exact⟨D,a.mono d,c⟩
theorem pA{w:World}{g o:Nat}{v:Value}:w.grownBy (w.setCell ⟨g,o,none⟩ v) (some g):=⟨rfl,rfl,rfl,by simp,fun k _ hk=>Below.heap_setCell _ _ _ _ (by simp at hk ⊢;omega)⟩
structure FB(p:List (List Ins))(xs:List Ev)(W w':World)(gl gm i h:Nat):Prop where
 row:w'.heap[gl]?=some (.cells (nE ((tl (ja p) [] (xs.take i)).map yK)++List.replicate ((xs.length - i)*2) (Value.int .i64 0)).toArray 165 (0,0))
 his:HistAt w' gm (i*10) (jX p (tl (ja p) [] (xs.take i)))
 hgh:h=mA (tl (ja p) [] (xs.take i))
 gr:∀ k,k<W.heap.size->w'.heap[k]?=W.heap[k]?
 sz:W.heap.size<=w'.heap.size
 os:w'.os=W.os/\w'.tape=W.tape/\w'.output=W.output
theorem D8{p:List (List Ins)}{o:Out}{xs:List Ev}(hp:iU p=true)(bb:rF p o xs)(h500:xs.length<=500)(w:World)(pv:Value)(hP:ProgAt w pv p)(base:Nat)(C:Option Addr)(y:Nat)
  (hs:w.ownsRow base 76 2 (.slice C xs.length y) xs.length (iR o.steps)) (X V Y U:Int) (S:Option Addr) (O T:Nat):
  Calls Tryz.prog 85 #[pv,.agg #[.int .i64 o.kind,.int .i64 o.thread,.int .i64 o.at_,.slice C xs.length y,.int .i64 X,.int .i64 V,.int .i64 Y,.int .i64 U,.slice S O T]] w fun e w'=>∃ g,e= .returned (.slice (some ⟨g,0,none⟩) xs.length xs.length)/\w.heap.size<=g/\w'.heap[g]?=some (.cells (nE (jx p xs)).toArray 165 (0,0))/\w.grownBy w' none:=by
 obtain⟨i0,cC,cA,cm,ct⟩:=info_parts wH;obtain⟨ao,L,rfl⟩:=hP.form;have HP:=ij hP;have HV:=ij hp;have aX:=ij bb;have HR:=ij hs;have hlen:=jz hp;have q0:(xs.length:Int)<=500:=by omega
 have q1:(0:Int)<=(xs.length:Int):=by omega
 clear hP hp bb hs;go_enter Tryz.func85,Tryz.ntmps85
 go_upto_region 1 with fail
 have bT:w.grownBy ((w.alloc (.cells #[.slice ao p.length L] 37)).alloc (.cells #[.int .i64 o.kind,.int .i64 o.thread,.int .i64 o.at_,.slice C xs.length y,.int .i64 X,.int .i64 V,.int .i64 Y,.int .i64 U,.slice S O T] 31)) none:=iq (iq (ir _ _));have bk:((w.alloc (.cells #[.slice ao p.length L] 37)).alloc (.cells #[.int .i64 o.kind,.int .i64 o.thread,.int .i64 o.at_,.slice C xs.length y,.int .i64 X,.int .i64 V,.int .i64 Y,.int .i64 U,.slice S O T] 31)).heap[w.heap.size]?=some (.cells #[.slice ao p.length L] 37 (0,0)):=by
  rw [Below.heap_alloc _ _ _ (by simp)];exact heap_alloc_new _ _
 have aS:((w.alloc (.cells #[.slice ao p.length L] 37)).alloc (.cells #[.int .i64 o.kind,.int .i64 o.thread,.int .i64 o.at_,.slice C xs.length y,.int .i64 X,.int .i64 V,.int .i64 Y,.int .i64 U,.slice S O T] 31)).heap[w.heap.size+1]?=some (.cells #[.int .i64 o.kind,.int .i64 o.thread,.int .i64 o.at_,.slice C xs.length y,.int .i64 X,.int .i64 V,.int .i64 Y,.int .i64 U,.slice S O T] 31 (0,0)):=by
  have:=heap_alloc_new (w.alloc (.cells #[.slice ao p.length L] 37)) (.cells #[.int .i64 o.kind,.int .i64 o.thread,.int .i64 o.at_,.slice C xs.length y,.int .i64 X,.int .i64 V,.int .i64 Y,.int .i64 U,.slice S O T] 31);simpa using this
 have aR:((w.alloc (.cells #[.slice ao p.length L] 37)).alloc (.cells #[.int .i64 o.kind,.int .i64 o.thread,.int .i64 o.at_,.slice C xs.length y,.int .i64 X,.int .i64 V,.int .i64 Y,.int .i64 U,.slice S O T] 31)).heap.size=w.heap.size+2:=by simp
 generalize (w.alloc (.cells #[.slice ao p.length L] 37)).alloc (.cells #[.int .i64 o.kind,.int .i64 o.thread,.int .i64 o.at_,.slice C xs.length y,.int .i64 X,.int .i64 V,.int .i64 Y,.int .i64 U,.slice S O T] 31)=w1 at*;have ck:=ij bk;have cK:=ij aS;have ac:=ij bT;have r3:w1.cell? ⟨w.heap.size+1,3,none⟩=some (.slice C xs.length y):=by simp [World.cell?,aS]
 clear bk aS bT;go_upto_region 2 with (at_make;refine wpList_make_full _ rfl _ _ _ rfl w1.heap.size 165 i0 _ 2 Tryz.underlying161 cC cA cm .i64 .i64 _ _ xs.length rfl rfl rfl rfl (by rw [ct];omega) (by unfold maxLen;omega) (by simp) ?_;intro P bo bd)
 have aV:P.heap[w1.heap.size]?=some (.cells (List.replicate (xs.length*2) (Value.int .i64 0)).toArray 165 (0,0)):=by
  rcases bo.2 with ⟨e,_⟩ | ⟨g',cap',cur,hv,_,hh,_,_,hcs,htk⟩
  ·cases e
  ·simp only [Value.slice.injEq,Option.some.injEq,Addr.mk.injEq,true_and,and_true]at hv;obtain⟨rfl,rfl⟩:=hv;rw [hh];have e1:cur.toList=List.replicate (xs.length*2) (Value.int .i64 0):=by
    rw [<-Bo];simp only [Value.cells]at htk;rw [<-htk,List.take_of_length_le (by simp;omega)]
   rw [<-e1]
 have aW:w1.heap.size<P.heap.size:=(Array.getElem?_eq_some_iff.1 aV).1;have ae:Hid (w1.grownBy P none):=bd;have aT:=ij aV;rw [aR]at aW aT;clear bo bd aV;have cq:= @run_makeMap Tryz.prog;have r4:P.cell? ⟨w.heap.size+1,3,none⟩=some (.slice C xs.length y):=ip ae.out _ _ r3;go_upto_region 4 with fail
 have H0:Hid (FB p xs w1 (P.alloc (.map #[] 0)) (w.heap.size+2) P.heap.size 0 0):=by
  refine⟨?_,?_,rfl,fun k hk=>?_,?_,ae.out.os,ae.out.tape,ae.out.output⟩
  ·rw [Below.heap_alloc _ _ _ aW];simpa [tl,nE,iR]using aT.out
  ·have e:jX p (tl (ja p) [] (xs.take 0))=fun _=>0:=by funext u;simp [tl,jX]
   rw [e];have:=HistAt.made P;simpa using this
  ·rw [Below.heap_alloc _ _ _ (by have:=ae.out.size;omega)];exact ae.out.block k hk (by simp)
  ·have:=ae.out.size;simp;omega
 obtain⟨Q,bQ⟩:∃ Q,Q=P.heap.size:=⟨_,rfl⟩;obtain⟨d,bn⟩:∃ d,d=w.heap.size+2:=⟨_,rfl⟩;have aC:Hid (d=w1.heap.size/\w1.heap.size=w.heap.size+2/\d<Q):=⟨by omega,aR,by omega⟩;rw [<-bQ,<-bn]at H0 ⊢;clear bQ bn cq aW aT aR;go_wp2_with fail
 go_loopw [7,20] (fun hv iv w'=>∃ (i h:Nat),i<=xs.length/\iv= .int .i64 i/\hv= .int .i64 h/\Hid (FB p xs w1 w' d Q i h)) (fun _ iv _=>xs.length - (intOf iv).toNat)
 case atStart=>exact⟨0,0,Nat.zero_le _,rfl,rfl,H0⟩
 case round=>
  clear H0 r3 r4;obtain⟨i,h,hi,rfl,rfl,l⟩:=hrel;obtain⟨c,bC⟩:∃ c,c=wr:=⟨_,rfl⟩;rw [<-bC]at l ⊢;clear bC;have aw:Hid (∀ a v,w1.cell? a=some v->c.cell? a=some v):=fun a v hc=>by
   rw [World.cell?_of_block (l.out.gr a.block (World.block_lt_of_cell? w1 _ hc))];exact hc
  by_cases al:i<xs.length
  ·have bz:=List.getElem_mem al;obtain⟨ht,bu,cb⟩:=aX.out.th _ bz;obtain⟨g,rfl,s0,s1⟩:=qr HR.out aX.out.st al;obtain⟨f,bI⟩:=Int.eq_ofNat_of_zero_le bu;have bc:f<(iO p xs[i].t).length:=by omega
   obtain⟨pg,po,ca,cc,J,K,rfl,rfl,m0,m1,m2,m3,m4⟩:=yt HP.out ht bc;have b3:=l8 HV.out ht (k:=(f:Int)) (by simpa using bc);obtain⟨bB,bp,bR,a8⟩:=vm b3;obtain⟨bL,bZ⟩:=yz (t:=xs[i].t) (i:=ju p xs[i].t f) (by omega) bp a8;have bP:Hid (nz p xs[i]=mX xs[i].t (ju p xs[i].t f)):=by unfold Hid nz;rw [bI]
   have aj:=ij (Ch aX.out al);rw [bP.out]at aj;have cM:=ij (uF (p:=p) al);have bg:=ck.out;have aF:=cK.out;have W:∀ a v,w.cell? a=some v->c.cell? a=some v:=fun a v hc=>aw.out _ _ (ip ac.out _ _ hc)
   have cJ:=W _ _ s0;have bf:=W _ _ s1;have a2:=W _ _ m0;have be:=W _ _ m1;have bw:=W _ _ m2;have a4:=W _ _ m3;have bE:=W _ _ m4;rw [bI]at bf;have n0:c.cell? ⟨w.heap.size,0,none⟩=some (.slice (some ⟨pg,po,none⟩) p.length L):=aw.out _ _ (by simp [World.cell?,bg]);have n1:c.cell? ⟨w.heap.size+1,0,none⟩=some (.int .i64 o.kind):=aw.out _ _ (by simp [World.cell?,aF]);have n3:c.cell? ⟨w.heap.size+1,3,none⟩=some (.slice (some ⟨g,0,none⟩) xs.length y):=aw.out _ _ (by simp [World.cell?,aF]);have bW:=ij (fun u:World=>Bp xs[i].t (ju p xs[i].t f) u bB bR);have HTB:Hid (xs[i].t<4):=by unfold Hid;omega
   have hcl:(iO p xs[i].t).length<=16:=kX (kd HV.out ht);clear s0 s1 m0 m1 m2 m3 m4 b3 bg aF W bu cb bz bB bp bR a8;generalize cw:ju p xs[i].t (f:Int)=ix at*;generalize cz:(iO p xs[i].t).length=cl at*;generalize cF:mX xs[i].t ix=us at*;generalize hxi:xs[i]=x at*;obtain⟨m,xk,xb⟩:=x;simp only at*;clear cw cz cF;have t0:(0:Int)<=(i:Int):=by omega
   have t1:(i:Int)<xs.length:=by omega
   have t2:(0:Int)<=(m:Int):=by omega
   have t3:(m:Int)<p.length:=by omega
   have t4:(0:Int)<=(f:Int):=by omega
   have t5:(f:Int)<cl:=by omega
   go_upto_region 7 with fail
   have hX:=heap_alloc_new c (.cells #[.int .i64 (m:Int),.int .i64 (f:Int)] 76);have Z:c.grownBy (c.alloc (.cells #[.int .i64 (m:Int),.int .i64 (f:Int)] 76)) none:=iq (ir _ _);have a9:(c.alloc (.cells #[.int .i64 (m:Int),.int .i64 (f:Int)] 76)).heap.size=c.heap.size+1:=by simp
   generalize c.alloc (.cells #[.int .i64 (m:Int),.int .i64 (f:Int)] 76)=w6 at*;have b0:w6.cell? ⟨c.heap.size,0,none⟩=some (.int .i64 (m:Int)):=by simp only [World.cell?,hX];rfl
   have b1:w6.cell? ⟨c.heap.size,1,none⟩=some (.int .i64 (f:Int)):=by simp only [World.cell?,hX];rfl
   have b9:=ij hX;have cf:=ij Z;have cG:=ij a9;have b5:w6.drew.cell? ⟨c.heap.size,0,none⟩=some (.int .i64 (m:Int))/\w6.drew.cell? ⟨c.heap.size,1,none⟩=some (.int .i64 (f:Int))/\w6.drew.cell? ⟨w.heap.size,0,none⟩=some (.slice (some ⟨pg,po,none⟩) p.length L)/\w6.drew.cell? ⟨pg,po+m,none⟩=some (.slice (some ⟨J,K,none⟩) cl cc)/\w6.drew.cell? ⟨J,K+f*4,none⟩=some (.int .i64 ix.op)/\w6.drew.cell? ⟨J,K+f*4+1,none⟩=some (.int .i64 ix.a)/\w6.drew.cell? ⟨J,K+f*4+2,none⟩=some (.int .i64 ix.b)/\w6.drew.cell? ⟨J,K+f*4+3,none⟩=some (.int .i64 ix.n):=
    ⟨b0,b1,ip Z _ _ n0,ip Z _ _ a2,ip Z _ _ be,ip Z _ _ bw,ip Z _ _ a4,ip Z _ _ bE⟩
   clear hX a9 Z b0 b1;refine iz (fun u=>u.cell? ⟨c.heap.size,0,none⟩=some (.int .i64 (m:Int))/\u.cell? ⟨c.heap.size,1,none⟩=some (.int .i64 (f:Int))/\u.cell? ⟨w.heap.size,0,none⟩=some (.slice (some ⟨pg,po,none⟩) p.length L)/\u.cell? ⟨pg,po+m,none⟩=some (.slice (some ⟨J,K,none⟩) cl cc)/\u.cell? ⟨J,K+f*4,none⟩=some (.int .i64 ix.op)/\u.cell? ⟨J,K+f*4+1,none⟩=some (.int .i64 ix.a)/\u.cell? ⟨J,K+f*4+2,none⟩=some (.int .i64 ix.b)/\u.cell? ⟨J,K+f*4+3,none⟩=some (.int .i64 ix.n)) 13 (by kernel_rfl) (by kernel_rfl) b5 ?_;intro j;refine gJ 0 ?va0 rfl (by kernel_rfl) (fun _ _ _ h=>h) (by rfl) ?ya0 j ?_
   case ya0=>(rintro u ⟨B,G,E,A,D,F,I,H⟩;go_simp;try rfl)
   simp only [Act.put,List.setIfInBounds_toArray];refine gJ 1 ?va1 rfl (by kernel_rfl) (fun _ _ _ h=>h) (by rfl) ?ya1 j ?_
   case ya1=>(rintro u ⟨B,G,E,A,D,F,I,H⟩;go_simp;try rfl)
   simp only [Act.put];refine gJ 2 ?va2 rfl (by kernel_rfl) (fun _ _ _ h=>h) (by rfl) ?ya2 j ?_
   case ya2=>(rintro u ⟨B,G,E,A,D,F,I,H⟩;go_simp;try rfl)
   simp only [Act.put];refine gJ 3 ?va3 rfl (by kernel_rfl) (fun _ _ _ h=>h) (by rfl) ?ya3 j ?_
   case ya3=>(rintro u ⟨B,G,E,A,D,F,I,H⟩;go_simp;try rfl)
   simp only [Act.put];refine gJ 4 ?va4 rfl (by kernel_rfl) (fun _ _ _ h=>h) (by rfl) ?ya4 j ?_
   case ya4=>(rintro u ⟨B,G,E,A,D,F,I,H⟩;go_simp;try rfl)
   simp only [Act.put];refine gJ 5 ?va5 rfl (by kernel_rfl) (fun _ _ _ h=>h) (by rfl) ?ya5 j ?_
   case ya5=>(rintro u ⟨B,G,E,A,D,F,I,H⟩;go_simp;try rfl)
   simp only [Act.put];refine gJ 6 ?va6 rfl (by kernel_rfl) (fun _ _ _ h=>h) (by rfl) ?ya6 j ?_
   case ya6=>(rintro u ⟨B,G,E,A,D,F,I,H⟩;go_simp;try rfl)
   simp only [Act.put];refine gJ 7 ?va7 rfl (by kernel_rfl) (fun _ _ _ h=>h) (by rfl) ?ya7 j ?_
   case ya7=>(rintro u ⟨B,G,E,A,D,F,I,H⟩;go_simp;try rfl)
   simp only [Act.put];refine gJ 8 ?va8 rfl (by kernel_rfl) (fun _ _ _ h=>h) (by rfl) ?ya8 j ?_
   case ya8=>(rintro u ⟨B,G,E,A,D,F,I,H⟩;go_simp;try rfl)
   simp only [Act.put];refine gJ 9 ?va9 rfl (by kernel_rfl) (fun _ _ _ h=>h) (by rfl) ?ya9 j ?_
   case ya9=>(rintro u ⟨B,G,E,A,D,F,I,H⟩;go_simp;try rfl)
   simp only [Act.put];refine gJ 10 ?va10 rfl (by kernel_rfl) (fun _ _ _ h=>h) (by rfl) ?ya10 j ?_
   case ya10=>(rintro u ⟨B,G,E,A,D,F,I,H⟩;go_simp;try rfl)
   simp only [Act.put];refine gJ 11 ?va11 rfl (by kernel_rfl) (fun _ _ _ h=>h) (by rfl) ?ya11 j ?_
   case ya11=>(rintro u ⟨B,G,E,A,D,F,I,H⟩;go_simp;try rfl)
   simp only [Act.put];refine iu (i:=12) rfl (by kernel_rfl) (by kernel_rfl) (by rfl) ?_;intro K12 a7;have bA:=ij a7;clear a7;go_simp;refine(bW.out _).mono ?_;rintro e w7 ⟨uv,rfl,b6,r⟩;have bV:Hid (w6.grownBy w7 none):=⟨r.os,r.tape,r.output,r.size,r.block⟩;refine bA.out _ _ ⟨ip r _ _ j.1,ip r _ _ j.2.1,ip r _ _ j.2.2.1,ip r _ _ j.2.2.2.1,ip r _ _ j.2.2.2.2.1,ip r _ _ j.2.2.2.2.2.1,ip r _ _ j.2.2.2.2.2.2.1,ip r _ _ j.2.2.2.2.2.2.2⟩ ?_;clear bA r j b5 bW;try simp only [Act.put,List.setIfInBounds_toArray]
   refine iH rfl (by kernel_rfl) (by kernel_rfl) (by rfl) ?_;go_simp;have ba:us.length<=10:=bZ;have av:=ij b6;have ax:Hid (c.grownBy w7 none):=il cf.out bV.out;have aP:Hid (HistAt w7 Q (i*10) (jX p (tl (ja p) [] (xs.take i)))):=l.out.his.kept ax.out;have aH:∀ u,jX p (tl (ja p) [] (xs.take i)) u<=1000:=fun u=>by have:=Ad p (xs.take i) u;simp at this;omega
   have bh:=ij aH;have bq:=ij bL;have hhi:h<=500:=by rw [l.out.hgh];have:=Ay p (xs.take i);simp at this;omega
   have cB:Hid (ji (ja p) (tl (ja p) [] (xs.take i)) ⟨m,xk,xb⟩<=500):=by
    unfold Hid;have:=Ft p (xs.take i) ⟨m,xk,xb⟩;simp at this;omega
   have ci:Hid (kL (jX p (tl (ja p) [] (xs.take i))) us 0<=1000):=pY _ aH us 0 (by omega);have bm:=ip ax.out _ _ n1;have bO:=ip ax.out _ _ n3;clear b6 bL bZ aH n0 n1 n3 a2 be bw a4 bE cJ bf;obtain⟨ug,uc,cs⟩:∃ ug uc,uv= .slice (some ⟨ug,0,none⟩) us.length uc:=by
    obtain⟨ug,uc,e,_⟩:=av.out;exact⟨ug,uc,e⟩
   subst cs;go_wp2_with fail
   refine(E4 aP.out bh.out us bq.out _ av.out ba).mono ?_;rintro e w8 ⟨rfl,aA⟩;have az:=ij aA;have k1:=ip aA _ _ bm;have k3:=ip aA _ _ bO;clear aA bm bO;generalize bj:ji (ja p) (tl (ja p) [] (xs.take i)) ⟨m,xk,xb⟩=lx at*;generalize cD:kL (jX p (tl (ja p) [] (xs.take i))) us 0=ah at*;have HLX:=ij bj;have bG:=ij l.out.hgh;rw [<-bG.out]at aj;have hah0:(ah:Int)<=1000:=by have:=ci.out;omega
   clear bj cD;go_upto_region 9 with fail
   obtain⟨bl,a6⟩:∃ bl:Bool,bl=decide (o.kind=1/\i+1=xs.length):=⟨_,rfl⟩;have ag:=ij a6;clear a6;go_cut [52] (fun q w'=>q= .bool bl/\w'=w8)
   case first=>
    by_cases e1:i+1=xs.length
    ·have e3:(xs.length:Int) - 1=(i:Int):=by omega
     by_cases e2:o.kind=1
     ·have hb:bl=true:=by rw [ag.out];simp [e1,e2]
      rw [e2]at k1;go_wp2_with fail
      all_goals first | (go_meet;exact⟨by rw [hb],rfl⟩) | (exfalso;omega)
     ·have hb:bl=false:=by rw [ag.out];simp [e2]
      have hb2:(o.kind==1)=false:=by simpa using e2
      go_wp2_with fail
      all_goals first | (go_meet;exact⟨by rw [hb],rfl⟩) | (exfalso;omega)
    ·have hb:bl=false:=by rw [ag.out];simp [e1]
     have e3:(i:Int)<(xs.length:Int) - 1:=by omega
     have e4:((i:Int)==(xs.length:Int) - 1)=false:=by simp;omega
     go_wp2_with fail
     all_goals first | (go_meet;exact⟨by rw [hb],rfl⟩) | (exfalso;omega)
   case rest=>
   obtain⟨rfl,aG⟩:=hcut;have aJ:=aG.symm;subst aJ;go_upto_if 52 with fail
   go_cut [11] (fun q w'=>q= .int .i64 (lx:Int)/\w'=w8)
   case first=>
    cases bl with
    | true=>
     have hl:lx=h:=by rw [aj.out,if_pos (by have:=ag.out.symm;simpa using this)]
     go_wp2_with fail
     go_meet
     exact⟨by rw [hl],rfl⟩
    | false=>
     have hl:lx=ah:=by rw [aj.out,if_neg (by have:=ag.out.symm;simpa using this)]
     go_wp2_with fail
     go_meet
     exact⟨by rw [hl],rfl⟩
   case rest=>
   obtain⟨rfl,aG⟩:=hcut;have aJ:=aG.symm;subst aJ;clear aj ag;have ch:lx<=900:=by have:=cB.out;omega
   have hlx':(lx:Int)<=900:=by omega
   have hlx0:(0:Int)<=(lx:Int):=by omega
   have hh':(h:Int)<=500:=by omega
   have hh0:(0:Int)<=(h:Int):=by omega
   have b2:Hid (HistAt w8 Q (i*10) (jX p (tl (ja p) [] (xs.take i)))):=aP.out.kept az.out;have bH:Hid (UsesAt w8 (.slice (some ⟨ug,0,none⟩) us.length uc) us):=av.out.grown az.out;have N:Hid (c.grownBy w8 none):=il ax.out az.out;go_wp2_with fail
   refine(EM b2.out bh.out (by omega) us bq.out _ bH.out ba lx ch).mono ?_;rintro e s ⟨⟨rv9,rfl⟩,a5,M⟩;have hgm5:Q<c.heap.size:=l.out.his.lt;have a1:s.heap[c.heap.size]?=some (.cells #[.int .i64 (m:Int),.int .i64 (f:Int)] 76 (0,0)):=by
    have bU:=il bV.out az.out;have hs:=cG.out;rw [M.block _ (by have:=bU.size;omega) (by simp;omega),bU.block _ (by omega) (by simp)];exact b9.out
   have ad:s.heap[d]?=some (.cells (nE ((tl (ja p) [] (xs.take i)).map yK)++List.replicate ((xs.length - i)*2) (Value.int .i64 0)).toArray 165 (0,0)):=by
    have cu:=(Array.getElem?_eq_some_iff.1 l.out.row).1;rw [M.block _ (by have:=N.out.size;omega) (by have:=aC.out;simp;omega),N.out.block _ cu (by simp)];exact l.out.row
   have b7:=ij ad;have y0:s.cell? ⟨c.heap.size,0,none⟩=some (.int .i64 (m:Int)):=by simp [World.cell?,a1]
   obtain⟨R,hR⟩:∃ R:List Value,R=nE ((tl (ja p) [] (xs.take i)).map yK)++List.replicate ((xs.length - i)*2) (Value.int .i64 0):=⟨_,rfl⟩;have aQ:(nE ((tl (ja p) [] (xs.take i)).map yK)).length=i*2:=by
    rw [Aw,List.length_map,jB];simp;omega
   have cr:R.length=xs.length*2:=by rw [hR,List.length_append,aQ,List.length_replicate];omega
   rw [<-hR]at ad;obtain⟨z0,hz0'⟩:∃ z,s.cell? ⟨d,i*2,none⟩=some z:=⟨R[i*2]'(by omega),by simp only [World.cell?,ad];simp⟩;obtain⟨z1,hz1'⟩:∃ z,(s.setCell ⟨d,i*2,none⟩ (.int .i64 (lx:Int))).cell? ⟨d,i*2+1,none⟩=some z:=by
    have ak:=heap_setCell_same s d (i*2) _ _ (.int .i64 (lx:Int)) ad;exact⟨_,by simp only [World.cell?,ak];exact Array.getElem?_eq_getElem (by simp;omega)⟩
   have fz0:s.frozen? ⟨d,i*2,none⟩=false:=by simp [World.frozen?,ad]
   have fz1:(s.setCell ⟨d,i*2,none⟩ (.int .i64 (lx:Int))).frozen? ⟨d,i*2+1,none⟩=false:=by
    have ak:=heap_setCell_same s d (i*2) _ _ (.int .i64 (lx:Int)) ad;simp [World.frozen?,ak]
   have cI:Hid (FB p xs w1 ((s.setCell ⟨d,i*2,none⟩ (.int .i64 (lx:Int))).setCell ⟨d,i*2+1,none⟩ (.int .i64 (m:Int))) d Q (i+1) (max h (lx+1))):=by
    have aK:=cM.out;have af:s.grownBy ((s.setCell ⟨d,i*2,none⟩ (.int .i64 (lx:Int))).setCell ⟨d,i*2+1,none⟩ (.int .i64 (m:Int))) (some d):=il pA pA;have aY:=aC.out;have hs5:=l.out.sz;refine⟨?_,?_,?_,fun k hk=>?_,?_,?_⟩
    ·have ak:=heap_setCell_same s d (i*2) _ _ (.int .i64 (lx:Int)) b7.out;have ce:=heap_setCell_same _ d (i*2+1) _ _ (.int .i64 (m:Int)) ak;rw [ce];simp only [List.setIfInBounds_toArray];rw [B5 _ _ _ i xs.length aQ al,aK,List.map_append,List.map_cons,List.map_nil,ye];rfl
    ·have h9:=(a5.keptRow af (by omega)).mono (n':=(i+1)*10) (by omega);have e:kZ (lx+1) us (jX p (tl (ja p) [] (xs.take i)))=jX p (tl (ja p) [] (xs.take (i+1))):=by
      funext u
      rw [qQ,aK,rI,bP.out]
     rw [e]at h9;exact h9
    ·rw [aK,rD,<-bG.out]
    ·rw [af.block k (by have:=M.size;have:=N.out.size;omega) (by simp;omega),M.block k (by have:=N.out.size;omega) (by simp;omega),N.out.block k (by omega) (by simp)];exact l.out.gr k hk
    ·have h1:=af.size;have h2:=M.size;have h3:=N.out.size;omega
    ·exact⟨af.os.trans (M.os.trans (N.out.os.trans l.out.os.1)),af.tape.trans (M.tape.trans (N.out.tape.trans l.out.os.2.1)),af.output.trans (M.output.trans (N.out.output.trans l.out.os.2.2))⟩
   have hne:d≠c.heap.size:=by have:=(Array.getElem?_eq_some_iff.1 l.out.row).1;omega
   clear ad a1 hR cr aQ a5 M b2 bH k1 k3 aP av;go_wp2_with fail
   go_roundw
   case rel=>exact⟨i+1,max h (lx+1),by omega,by go_num,by congr 1;(repeat' split)<;>omega,cI⟩
   case measure=>simp [intOf];omega
  ·have t1:(xs.length:Int)<=(i:Int):=by omega
   have ei:i=xs.length:=by omega
   have cE:Hid (c.heap[d]?=some (.cells (nE (jx p xs)).toArray 165 (0,0))):=by
    have:=l.out.row;rw [ei,List.take_length,Nat.sub_self]at this;unfold Hid jx;simpa using this
   have cj:Hid (w.grownBy c none):=by
    have aY:=aC.out;refine⟨l.out.os.1.trans ac.out.os,l.out.os.2.1.trans ac.out.tape,l.out.os.2.2.trans ac.out.output,Nat.le_trans ac.out.size l.out.sz,fun k hk _=>?_⟩;rw [l.out.gr k (Nat.lt_of_lt_of_le hk ac.out.size)];exact ac.out.block k hk (by simp)
   have aY:w.heap.size<=d:=by have:=aC.out;omega
   go_wp2_with fail
   go_ret;exact⟨d,rfl,aY,cE.out,cj.out⟩
end
section
open Go.RowKit
attribute [local go_sem] Go.World.cell?_alloc_some
def nP(i j:Ins):Bool:=
 if (i.op=9\/i.op=10)/\(j.op=9\/j.op=10) then i.a==j.a
 else if i.op=3/\j.op=3 then i.a==j.a
 else if i.op=3/\j.op=2 then i.a==j.b
 else if i.op=2/\j.op=3 then i.b==j.a
 else false
theorem yZ{i j:Ins}(h1:0<=i.a)(h2:0<=i.b)(h3:0<=j.a)(h4:0<=j.b):nP i j=ma (tou i) (tou j):=by
 unfold nP ma tou;rw [Bool.eq_iff_iff];by_cases f:i.op=9\/i.op=10
 ·by_cases c:j.op=9\/j.op=10
  ·simp [f,c];omega
  ·have l:¬i.op=3:=by omega
   have n:¬i.op=2:=by omega
   by_cases e:j.op=2
   ·simp [f,l,n,e]
   ·by_cases d:j.op=3
    ·simp [f,l,n,d]
    ·simp [f,l,n,c,e,d]
 ·by_cases h:i.op=2
  ·by_cases c:j.op=9\/j.op=10
   ·have m:¬j.op=3:=by omega
    simp [h,c,m]
   ·by_cases e:j.op=2
    ·simp [h,e]
    ·by_cases d:j.op=3
     ·simp [h,d];omega
     ·simp [h,c,e,d]
  ·by_cases k:i.op=3
   ·by_cases c:j.op=9\/j.op=10
    ·have m:¬j.op=3:=by omega
     have o:¬j.op=2:=by omega
     simp [k,c,m,o]
    ·by_cases e:j.op=2
     ·simp [k,e];omega
     ·by_cases d:j.op=3
      ·simp [k,d];omega
      ·simp [k,c,e,d]
   ·simp [f,h,k]
theorem rC{w:World}{g:Nat}{x0 x1 x2 x3:Value}{t:TypeId}(h:w.heap[g]?=some (.cells #[x0,x1,x2,x3] t (0,0))):
  w.cell? ⟨g,0,none⟩=some x0/\w.cell? ⟨g,1,none⟩=some x1/\w.cell? ⟨g,2,none⟩=some x2/\w.cell? ⟨g,3,none⟩=some x3/\w.frozen? ⟨g,0,none⟩=false/\w.frozen? ⟨g,1,none⟩=false/\w.frozen? ⟨g,2,none⟩=false/\w.frozen? ⟨g,3,none⟩=false:=by
 simp [World.cell?,World.frozen?,h]
theorem Dj{p:List (List Ins)}(w:World)(pv:Value)(hP:ProgAt w pv p)(_hp:p.length<=4)(m k1 o k2:Nat)(h1:m<p.length)(h2:k1<(iO p m).length)(h3:o<p.length)(h4:k2<(iO p o).length)(_hl1:(iO p m).length<=16)(_hl2:(iO p o).length<=16):
  Calls Tryz.prog 88 #[pv,.agg #[.int .i64 (m:Int),.int .i64 (k1:Int)],.agg #[.int .i64 (o:Int),.int .i64 (k2:Int)]] w fun e w'=>e= .returned (.bool (m==o || nP (ju p m k1) (ju p o k2)))/\w.grownBy w' none:=by
 obtain⟨ao,T,rfl⟩:=hP.form;obtain⟨F,H,ca,cc,M,O,rfl,rfl,m0,m1,m2,m3,m4⟩:=yt hP h1 h2;obtain⟨pg',po',da,dc,N,L,l,rfl,n0,n1,n2,n3,n4⟩:=yt hP h3 h4;simp only [Option.some.injEq,Addr.mk.injEq,and_true]at l;obtain⟨rfl,rfl⟩:=l;have Z:=ij (X.intro m0 (X.intro m1 (X.intro m2 (X.intro m3 m4))));have Y:=ij (X.intro n0 (X.intro n1 (X.intro n2 (X.intro n3 n4))));clear m0 m1 m2 m3 m4 n0 n1 n2 n3 n4 hP;generalize hcl:(iO p m).length=cl at*;generalize aY:(iO p o).length=dl at*;generalize aS:ju p m (k1:Int)=i at*;generalize aR:ju p o (k2:Int)=j at*;clear hcl aY aS aR;have q1:(m:Int)<p.length:=by omega
 have q2:(k1:Int)<cl:=by omega
 have q3:(o:Int)<p.length:=by omega
 have q4:(k2:Int)<dl:=by omega
 have q5:(0:Int)<=(m:Int):=by omega
 have q6:(0:Int)<=(k1:Int):=by omega
 have q7:(0:Int)<=(o:Int):=by omega
 have q8:(0:Int)<=(k2:Int):=by omega
 have HA:Hid (∀ a b c,w.grownBy (((w.alloc a).alloc b).alloc c) none):=fun a b c=>iq (iq (iq (ir _ _)))
 by_cases ht:m=o
 ·subst ht;go_enter Tryz.func88,Tryz.ntmps88
  go_wp2_with fail
  go_ret;exact⟨by simp,HA.out _ _ _⟩
 ·have hti:((m:Int)==(o:Int))=false:=by simp;omega
  have HT:Hid ((m==o)=false):=by unfold Hid;simpa using ht
  clear ht;go_enter Tryz.func88,Tryz.ntmps88
  go_upto_region 3 with fail
  obtain⟨d,U⟩:∃ d,d=((w.alloc (.cells #[.slice (some ⟨F,H,none⟩) p.length T] 37)).alloc (.cells #[.int .i64 (m:Int),.int .i64 (k1:Int)] 76)).alloc (.cells #[.int .i64 (o:Int),.int .i64 (k2:Int)] 76):=⟨_,rfl⟩;have al:Hid (w.grownBy d none):=by unfold Hid;rw [U];exact HA.out _ _ _
  have aP:d.heap.size=w.heap.size+3:=by rw [U];simp
  have b0:d.heap[w.heap.size]?=some (.cells #[.slice (some ⟨F,H,none⟩) p.length T] 37 (0,0)):=by
   rw [U,Below.heap_alloc _ _ _ (by simp;omega),Below.heap_alloc _ _ _ (by simp)];exact heap_alloc_new _ _
  have b1:d.heap[w.heap.size+1]?=some (.cells #[.int .i64 (m:Int),.int .i64 (k1:Int)] 76 (0,0)):=by
   rw [U,Below.heap_alloc _ _ _ (by simp)];have:=heap_alloc_new (w.alloc (.cells #[.slice (some ⟨F,H,none⟩) p.length T] 37)) (.cells #[.int .i64 (m:Int),.int .i64 (k1:Int)] 76);simpa using this
  have b2:d.heap[w.heap.size+2]?=some (.cells #[.int .i64 (o:Int),.int .i64 (k2:Int)] 76 (0,0)):=by
   have:=heap_alloc_new ((w.alloc (.cells #[.slice (some ⟨F,H,none⟩) p.length T] 37)).alloc (.cells #[.int .i64 (m:Int),.int .i64 (k1:Int)] 76)) (.cells #[.int .i64 (o:Int),.int .i64 (k2:Int)] 76);rw [U];simpa using this
  rw [<-U];clear U;have ag:Hid (∀ u,d.grownBy u none->u.cell? ⟨w.heap.size+1,0,none⟩=some (.int .i64 (m:Int))/\u.cell? ⟨w.heap.size+1,1,none⟩=some (.int .i64 (k1:Int))/\u.cell? ⟨w.heap.size,0,none⟩=some (.slice (some ⟨F,H,none⟩) p.length T)/\u.cell? ⟨F,H+m,none⟩=some (.slice (some ⟨M,O,none⟩) cl cc)/\u.cell? ⟨M,O+k1*4,none⟩=some (.int .i64 i.op)/\u.cell? ⟨M,O+k1*4+1,none⟩=some (.int .i64 i.a)/\u.cell? ⟨M,O+k1*4+2,none⟩=some (.int .i64 i.b)/\u.cell? ⟨M,O+k1*4+3,none⟩=some (.int .i64 i.n)):=fun u hu=>by
   have J:∀ x v,w.cell? x=some v->u.cell? x=some v:=fun x v h=>ip (il al.out hu) _ _ h
   have G:∀ k,k<d.heap.size->u.heap[k]?=d.heap[k]?:=fun k hk=>hu.block k hk (by simp)
   refine⟨?_,?_,?_,J _ _ Z.out.1,J _ _ Z.out.2.1,J _ _ Z.out.2.2.1,J _ _ Z.out.2.2.2.1,J _ _ Z.out.2.2.2.2⟩
   ·simp only [World.cell?,G _ (by omega:w.heap.size+1<d.heap.size),b1];rfl
   ·simp only [World.cell?,G _ (by omega:w.heap.size+1<d.heap.size),b1];rfl
   ·simp only [World.cell?,G _ (by omega:w.heap.size<d.heap.size),b0];rfl
  have ak:Hid (∀ u,d.grownBy u none->u.cell? ⟨w.heap.size+2,0,none⟩=some (.int .i64 (o:Int))/\u.cell? ⟨w.heap.size+2,1,none⟩=some (.int .i64 (k2:Int))/\u.cell? ⟨w.heap.size,0,none⟩=some (.slice (some ⟨F,H,none⟩) p.length T)/\u.cell? ⟨F,H+o,none⟩=some (.slice (some ⟨N,L,none⟩) dl dc)/\u.cell? ⟨N,L+k2*4,none⟩=some (.int .i64 j.op)/\u.cell? ⟨N,L+k2*4+1,none⟩=some (.int .i64 j.a)/\u.cell? ⟨N,L+k2*4+2,none⟩=some (.int .i64 j.b)/\u.cell? ⟨N,L+k2*4+3,none⟩=some (.int .i64 j.n)):=fun u hu=>by
   have J:∀ x v,w.cell? x=some v->u.cell? x=some v:=fun x v h=>ip (il al.out hu) _ _ h
   have G:∀ k,k<d.heap.size->u.heap[k]?=d.heap[k]?:=fun k hk=>hu.block k hk (by simp)
   refine⟨?_,?_,?_,J _ _ Y.out.1,J _ _ Y.out.2.1,J _ _ Y.out.2.2.1,J _ _ Y.out.2.2.2.1,J _ _ Y.out.2.2.2.2⟩
   ·simp only [World.cell?,G _ (by omega:w.heap.size+2<d.heap.size),b2];rfl
   ·simp only [World.cell?,G _ (by omega:w.heap.size+2<d.heap.size),b2];rfl
   ·simp only [World.cell?,G _ (by omega:w.heap.size<d.heap.size),b0];rfl
  clear b0 b1 b2 aP Z Y HA;refine iz (fun u=>u.cell? ⟨w.heap.size+1,0,none⟩=some (.int .i64 (m:Int))/\u.cell? ⟨w.heap.size+1,1,none⟩=some (.int .i64 (k1:Int))/\u.cell? ⟨w.heap.size,0,none⟩=some (.slice (some ⟨F,H,none⟩) p.length T)/\u.cell? ⟨F,H+m,none⟩=some (.slice (some ⟨M,O,none⟩) cl cc)/\u.cell? ⟨M,O+k1*4,none⟩=some (.int .i64 i.op)/\u.cell? ⟨M,O+k1*4+1,none⟩=some (.int .i64 i.a)/\u.cell? ⟨M,O+k1*4+2,none⟩=some (.int .i64 i.b)/\u.cell? ⟨M,O+k1*4+3,none⟩=some (.int .i64 i.n)) 11 (by kernel_rfl) (by kernel_rfl) (ag.out d.drew (iy (ir _ _))) ?_;intro f;refine gJ 0 ?va0 rfl (by kernel_rfl) (fun _ _ _ h=>h) (by rfl) ?ya0 f ?_
  case ya0=>(rintro u ⟨z,t,r,y,B,s,C,A⟩;go_simp;try rfl)
  simp only [Act.put,List.setIfInBounds_toArray];refine gJ 1 ?va1 rfl (by kernel_rfl) (fun _ _ _ h=>h) (by rfl) ?ya1 f ?_
  case ya1=>(rintro u ⟨z,t,r,y,B,s,C,A⟩;go_simp;try rfl)
  simp only [Act.put];refine gJ 2 ?va2 rfl (by kernel_rfl) (fun _ _ _ h=>h) (by rfl) ?ya2 f ?_
  case ya2=>(rintro u ⟨z,t,r,y,B,s,C,A⟩;go_simp;try rfl)
  simp only [Act.put];refine gJ 3 ?va3 rfl (by kernel_rfl) (fun _ _ _ h=>h) (by rfl) ?ya3 f ?_
  case ya3=>(rintro u ⟨z,t,r,y,B,s,C,A⟩;go_simp;try rfl)
  simp only [Act.put];refine gJ 4 ?va4 rfl (by kernel_rfl) (fun _ _ _ h=>h) (by rfl) ?ya4 f ?_
  case ya4=>(rintro u ⟨z,t,r,y,B,s,C,A⟩;go_simp;try rfl)
  simp only [Act.put];refine gJ 5 ?va5 rfl (by kernel_rfl) (fun _ _ _ h=>h) (by rfl) ?ya5 f ?_
  case ya5=>(rintro u ⟨z,t,r,y,B,s,C,A⟩;go_simp;try rfl)
  simp only [Act.put];refine gJ 6 ?va6 rfl (by kernel_rfl) (fun _ _ _ h=>h) (by rfl) ?ya6 f ?_
  case ya6=>(rintro u ⟨z,t,r,y,B,s,C,A⟩;go_simp;try rfl)
  simp only [Act.put];refine gJ 7 ?va7 rfl (by kernel_rfl) (fun _ _ _ h=>h) (by rfl) ?ya7 f ?_
  case ya7=>(rintro u ⟨z,t,r,y,B,s,C,A⟩;go_simp;try rfl)
  simp only [Act.put];refine gJ 8 ?va8 rfl (by kernel_rfl) (fun _ _ _ h=>h) (by rfl) ?ya8 f ?_
  case ya8=>(rintro u ⟨z,t,r,y,B,s,C,A⟩;go_simp;try rfl)
  simp only [Act.put];refine gJ 9 ?va9 rfl (by kernel_rfl) (fun _ _ _ h=>h) (by rfl) ?ya9 f ?_
  case ya9=>(rintro u ⟨z,t,r,y,B,s,C,A⟩;go_simp;try rfl)
  simp only [Act.put];refine iu (i:=10) rfl (by kernel_rfl) (by kernel_rfl) (by rfl) ?_;intro Ka ay;have av:=ij ay;clear ay;go_simp;refine av.out _ _ (ag.out (d.drew.alloc (.cells #[.int .i64 0,.int .i64 0,.int .i64 0,.int .i64 0] 65)) (il (ir _ _) (il (iy (ir _ _)) (iq (ir _ _))))) ?_;clear av;try simp only [Act.put,List.setIfInBounds_toArray]
  refine iH rfl (by kernel_rfl) (by kernel_rfl) (by rfl) ?_;go_simp;clear f;have au:Hid ((d.alloc (.cells #[.int .i64 i.op,.int .i64 i.a,.int .i64 i.b,.int .i64 i.n] 65)).drew.heap[d.heap.size]?=some (.cells #[.int .i64 i.op,.int .i64 i.a,.int .i64 i.b,.int .i64 i.n] 65 (0,0))):=heap_alloc_new d (.cells #[.int .i64 i.op,.int .i64 i.a,.int .i64 i.b,.int .i64 i.n] 65);have am:Hid (d.grownBy (d.alloc (.cells #[.int .i64 i.op,.int .i64 i.a,.int .i64 i.b,.int .i64 i.n] 65)).drew none):=iy (iq (ir _ _));generalize (d.alloc (.cells #[.int .i64 i.op,.int .i64 i.a,.int .i64 i.b,.int .i64 i.n] 65)).drew=w4 at*;go_wp2_with fail
  refine iz (fun u=>u.cell? ⟨w.heap.size+2,0,none⟩=some (.int .i64 (o:Int))/\u.cell? ⟨w.heap.size+2,1,none⟩=some (.int .i64 (k2:Int))/\u.cell? ⟨w.heap.size,0,none⟩=some (.slice (some ⟨F,H,none⟩) p.length T)/\u.cell? ⟨F,H+o,none⟩=some (.slice (some ⟨N,L,none⟩) dl dc)/\u.cell? ⟨N,L+k2*4,none⟩=some (.int .i64 j.op)/\u.cell? ⟨N,L+k2*4+1,none⟩=some (.int .i64 j.a)/\u.cell? ⟨N,L+k2*4+2,none⟩=some (.int .i64 j.b)/\u.cell? ⟨N,L+k2*4+3,none⟩=some (.int .i64 j.n)) 11 (by kernel_rfl) (by kernel_rfl) (ak.out w4.drew (iy am.out)) ?_;intro f;refine gJ 0 ?vb0 rfl (by kernel_rfl) (fun _ _ _ h=>h) (by rfl) ?yb0 f ?_
  case yb0=>(rintro u ⟨z,t,r,y,B,s,C,A⟩;go_simp;try rfl)
  simp only [Act.put,List.setIfInBounds_toArray];refine gJ 1 ?vb1 rfl (by kernel_rfl) (fun _ _ _ h=>h) (by rfl) ?yb1 f ?_
  case yb1=>(rintro u ⟨z,t,r,y,B,s,C,A⟩;go_simp;try rfl)
  simp only [Act.put];refine gJ 2 ?vb2 rfl (by kernel_rfl) (fun _ _ _ h=>h) (by rfl) ?yb2 f ?_
  case yb2=>(rintro u ⟨z,t,r,y,B,s,C,A⟩;go_simp;try rfl)
  simp only [Act.put];refine gJ 3 ?vb3 rfl (by kernel_rfl) (fun _ _ _ h=>h) (by rfl) ?yb3 f ?_
  case yb3=>(rintro u ⟨z,t,r,y,B,s,C,A⟩;go_simp;try rfl)
  simp only [Act.put];refine gJ 4 ?vb4 rfl (by kernel_rfl) (fun _ _ _ h=>h) (by rfl) ?yb4 f ?_
  case yb4=>(rintro u ⟨z,t,r,y,B,s,C,A⟩;go_simp;try rfl)
  simp only [Act.put];refine gJ 5 ?vb5 rfl (by kernel_rfl) (fun _ _ _ h=>h) (by rfl) ?yb5 f ?_
  case yb5=>(rintro u ⟨z,t,r,y,B,s,C,A⟩;go_simp;try rfl)
  simp only [Act.put];refine gJ 6 ?vb6 rfl (by kernel_rfl) (fun _ _ _ h=>h) (by rfl) ?yb6 f ?_
  case yb6=>(rintro u ⟨z,t,r,y,B,s,C,A⟩;go_simp;try rfl)
  simp only [Act.put];refine gJ 7 ?vb7 rfl (by kernel_rfl) (fun _ _ _ h=>h) (by rfl) ?yb7 f ?_
  case yb7=>(rintro u ⟨z,t,r,y,B,s,C,A⟩;go_simp;try rfl)
  simp only [Act.put];refine gJ 8 ?vb8 rfl (by kernel_rfl) (fun _ _ _ h=>h) (by rfl) ?yb8 f ?_
  case yb8=>(rintro u ⟨z,t,r,y,B,s,C,A⟩;go_simp;try rfl)
  simp only [Act.put];refine gJ 9 ?vb9 rfl (by kernel_rfl) (fun _ _ _ h=>h) (by rfl) ?yb9 f ?_
  case yb9=>(rintro u ⟨z,t,r,y,B,s,C,A⟩;go_simp;try rfl)
  simp only [Act.put];refine iu (i:=10) rfl (by kernel_rfl) (by kernel_rfl) (by rfl) ?_;intro Kb az;have aw:=ij az;clear az;go_simp;refine aw.out _ _ (ak.out (w4.drew.alloc (.cells #[.int .i64 0,.int .i64 0,.int .i64 0,.int .i64 0] 65)) (il am.out (il (iy (ir _ _)) (iq (ir _ _))))) ?_;clear aw;try simp only [Act.put,List.setIfInBounds_toArray]
  refine iH rfl (by kernel_rfl) (by kernel_rfl) (by rfl) ?_;go_simp;clear f;have a3:Hid ((w4.alloc (.cells #[.int .i64 j.op,.int .i64 j.a,.int .i64 j.b,.int .i64 j.n] 65)).drew.heap[w4.heap.size]?=some (.cells #[.int .i64 j.op,.int .i64 j.a,.int .i64 j.b,.int .i64 j.n] 65 (0,0))):=heap_alloc_new w4 (.cells #[.int .i64 j.op,.int .i64 j.a,.int .i64 j.b,.int .i64 j.n] 65);have aE:Hid (w4.grownBy (w4.alloc (.cells #[.int .i64 j.op,.int .i64 j.a,.int .i64 j.b,.int .i64 j.n] 65)).drew none):=iy (iq (ir _ _));generalize (w4.alloc (.cells #[.int .i64 j.op,.int .i64 j.a,.int .i64 j.b,.int .i64 j.n] 65)).drew=w5 at*;have aX:Hid (w5.heap[d.heap.size]?=some (.cells #[.int .i64 i.op,.int .i64 i.a,.int .i64 i.b,.int .i64 i.n] 65 (0,0))):=by
   unfold Hid;rw [aE.out.block _ (Array.getElem?_eq_some_iff.1 au.out).1 (by simp)];exact au.out
  have K:Hid (w.grownBy w5 none):=il al.out (il am.out aE.out);obtain⟨i0,i1,i2,V, -⟩:=rC aX.out;obtain⟨W,j1,j2,P, -⟩:=rC a3.out;clear ag ak;have I:Hid ((m==o || nP i j)=nP i j):=by unfold Hid;rw [HT.out];rfl
  go_upto_region 5 with fail
  obtain⟨G,ar⟩:∃ G:Bool,G=decide ((i.op=9\/i.op=10)/\(j.op=9\/j.op=10)):=⟨_,rfl⟩;have R:=ij ar;clear ar;go_cut [51] (fun q w'=>q= .bool G/\w'=w5)
  case first=>
   by_cases i9:i.op=9
   ·rw [i9]at i0;by_cases Q:j.op=9
    ·rw [Q]at W;go_wp2_with fail
     go_meet
     exact⟨by rw [R.out];simp [i9,Q],rfl⟩
    ·have e9:(j.op==9)=false:=by simpa using Q
     by_cases S:j.op=10
     ·rw [S]at W;go_wp2_with fail
      go_meet
      exact⟨by rw [R.out];simp [i9,S],rfl⟩
     ·have a2:(j.op==10)=false:=by simpa using S
      go_wp2_with fail
      go_meet
      exact⟨by rw [R.out];simp [Q,S],rfl⟩
   ·have d9:(i.op==9)=false:=by simpa using i9
    by_cases aa:i.op=10
    ·rw [aa]at i0;clear d9;by_cases Q:j.op=9
     ·rw [Q]at W;go_wp2_with fail
      go_meet
      exact⟨by rw [R.out];simp [aa,Q],rfl⟩
     ·have e9:(j.op==9)=false:=by simpa using Q
      by_cases S:j.op=10
      ·rw [S]at W;clear e9;go_wp2_with fail
       go_meet
       exact⟨by rw [R.out];simp [aa,S],rfl⟩
      ·have a2:(j.op==10)=false:=by simpa using S
       go_wp2_with fail
       go_meet
       exact⟨by rw [R.out];simp [Q,S],rfl⟩
    ·have d10:(i.op==10)=false:=by simpa using aa
     go_wp2_with fail
     go_meet
     exact⟨by rw [R.out];simp [i9,aa],rfl⟩
  case rest=>
  obtain⟨rfl,aT⟩:=hcut;have aW:=aT.symm;subst aW;cases G with
  | true=>
   have hh:(i.op=9\/i.op=10)/\(j.op=9\/j.op=10):=by have:=R.out.symm;simpa using this
   have D:Hid (nP i j=(i.a==j.a)):=by unfold Hid nP;simp [hh]
   by_cases l:i.a=j.a
   ·have E:(i.a==j.a)=true:=by simpa using l
    clear l;go_wp2_with fail
    all_goals (go_ret;exact⟨by rw [I.out,D.out,E];first | rfl | simp [*],K.out⟩)
   ·have E:(i.a==j.a)=false:=by simpa using l
    clear l;go_wp2_with fail
    all_goals (go_ret;exact⟨by rw [I.out,D.out,E];first | rfl | simp [*],K.out⟩)
  | false=>
   have hn:¬((i.op=9\/i.op=10)/\(j.op=9\/j.op=10)):=by have:=R.out.symm;simpa using this
   by_cases V:i.op=3
   ·rw [V]at i0;by_cases P:j.op=3
    ·rw [P]at W;have D:Hid (nP i j=(i.a==j.a)):=by unfold Hid nP;simp [V,P]
     by_cases l:i.a=j.a
     ·have E:(i.a==j.a)=true:=by simpa using l
      clear l;go_wp2_with fail
      all_goals (go_ret;exact⟨by rw [I.out,D.out,E];first | rfl | simp [*],K.out⟩)
     ·have E:(i.a==j.a)=false:=by simpa using l
      clear l;go_wp2_with fail
      all_goals (go_ret;exact⟨by rw [I.out,D.out,E];first | rfl | simp [*],K.out⟩)
    ·have e3:(j.op==3)=false:=by simpa using P
     by_cases j2:j.op=2
     ·rw [j2]at W;clear e3;have D:Hid (nP i j=(i.a==j.b)):=by unfold Hid nP;simp [V,j2]
      by_cases l:i.a=j.b
      ·have E:(i.a==j.b)=true:=by simpa using l
       clear l;go_wp2_with fail
       all_goals (go_ret;exact⟨by rw [I.out,D.out,E];first | rfl | simp [*],K.out⟩)
      ·have E:(i.a==j.b)=false:=by simpa using l
       clear l;go_wp2_with fail
       all_goals (go_ret;exact⟨by rw [I.out,D.out,E];first | rfl | simp [*],K.out⟩)
     ·have e2:(j.op==2)=false:=by simpa using j2
      have D:Hid (nP i j=false):=by unfold Hid nP;simp [V,P,j2]
      go_wp2_with fail
      go_ret;exact⟨by rw [I.out,D.out];rfl,K.out⟩
   ·have d3:(i.op==3)=false:=by simpa using V
    by_cases ac:i.op=2
    ·rw [ac]at i0;clear d3;by_cases P:j.op=3
     ·rw [P]at W;have D:Hid (nP i j=(i.b==j.a)):=by unfold Hid nP;simp [ac,P]
      by_cases l:i.b=j.a
      ·have E:(i.b==j.a)=true:=by simpa using l
       clear l;go_wp2_with fail
       all_goals (go_ret;exact⟨by rw [I.out,D.out,E];first | rfl | simp [*],K.out⟩)
      ·have E:(i.b==j.a)=false:=by simpa using l
       clear l;go_wp2_with fail
       all_goals (go_ret;exact⟨by rw [I.out,D.out,E];first | rfl | simp [*],K.out⟩)
     ·have e3:(j.op==3)=false:=by simpa using P
      have D:Hid (nP i j=false):=by unfold Hid nP;simp [ac,P]
      go_wp2_with fail
      go_ret;exact⟨by rw [I.out,D.out];rfl,K.out⟩
    ·have d2:(i.op==2)=false:=by simpa using ac
     have D:Hid (nP i j=false):=by unfold Hid nP;rw [if_neg hn];simp [V,ac]
     go_wp2_with fail
     go_ret;exact⟨by rw [I.out,D.out];rfl,K.out⟩
end
section
theorem Bj(d:Ev->Ev->Bool)(L:List (Ev × Nat))(x:Ev)(k:Nat)(b:k<L.length):ji d (L.take (k+1)) x=if d L[k].1 x=true then max (ji d (L.take k) x) (L[k].2+1) else ji d (L.take k) x:=by
 rw [List.take_succ_eq_append_getElem b,uS];have e:ji d [L[k]] x=if d L[k].1 x=true then L[k].2+1 else 0:=by simp [ji]
 rw [e];by_cases h:d L[k].1 x=true
 ·rw [if_pos h,if_pos h]
 ·rw [if_neg h,if_neg h];omega
theorem uR(p:List (List Ins))(xs:List Ev)(x:Ev)(k:Nat):ji (ja p) ((tl (ja p) [] xs).take k) x<=xs.length:=by
 apply pZ;intro q c _;have b:q∈tl (ja p) [] xs:=List.mem_of_mem_take c;obtain⟨j,a,rfl⟩:=List.getElem_of_mem b;have:=oS (ja p) xs [] 0 (by simp) j _ (List.getElem?_eq_getElem a);rw [jB]at a;omega
theorem AO{p:List (List Ins)}{o:Out}{xs:List Ev}(h:rF p o xs){k i:Nat}(hki:k<i)(d:i<xs.length):
  ja p (xs[k]'(by omega)) xs[i]=((decide (o.kind=1) && decide (i+1=xs.length)) || ((xs[k]'(by omega)).t==xs[i].t || ma (tou (ju p (xs[k]'(by omega)).t (xs[k]'(by omega)).k)) (tou (ju p xs[i].t xs[i].k)))):=by
 have a:=h.gd k (by omega);have b:=h.gd i d;have c:(xs[k]'(by omega)).bad=false:=by rw [a];simp;intro _;omega
 unfold ja;rw [c,b];simp [Bool.or_assoc]
def oE(ks:List (Nat × Nat))(l t:Nat):List (Nat × Nat):=ks.filter fun k=>k.1==l && k.2==t
def kS(ks:List (Nat × Nat))(l t i:Nat):List (Nat × Nat):=jT l ks++((List.range t).flatMap (oE ks l)++oE (ks.take i) l t)
theorem AL(ks:List (Nat × Nat)):kS ks 0 0 0=[]:=by simp [kS,jT,oE]
theorem AP(a:List (Nat × Nat))(l t i:Nat)(b:i<a.length):kS a l t (i+1)=kS a l t i++(if a[i].1==l && a[i].2==t then [a[i]] else []):=by
 unfold kS oE;rw [List.take_succ_eq_append_getElem b,List.filter_append];simp only [List.append_assoc,List.filter_cons,List.filter_nil]
theorem wj(a:List (Nat × Nat))(l t i:Nat)(b:a.length<=i):kS a l t i=kS a l (t+1) 0:=by
 unfold kS;rw [List.take_of_length_le b,List.range_succ,List.flatMap_append];simp [oE]
theorem xS(a:List (Nat × Nat))(l:Nat):kS a l 4 0=kS a (l+1) 0 0:=by
 have e:jT (l+1) a=jT l a++(List.range 4).flatMap (oE a l):=by
  unfold jT;rw [List.range_succ (n:=l),List.flatMap_append];congr 1
  rw [List.flatMap_cons,List.flatMap_nil,List.append_nil];rfl
 unfold kS;rw [e];simp [oE]
theorem C1(ks:List (Nat × Nat))(n:Nat):kS ks n 0 0=jT n ks:=by simp [kS,oE]
theorem xI(ks:List (Nat × Nat))(l t:Nat):(oE ks l t).length<=ks.length:=List.length_filter_le ..
theorem pT{f:Nat->List (Nat × Nat)}{m:Nat}(h:∀ l,(f l).length<=m):∀ n,((List.range n).flatMap f).length<=n*m
 | 0=>by simp
 | n+1=>by
  rw [List.range_succ,List.flatMap_append,List.length_append];have h1:=pT h n;have h2:=h n;have h3:(n+1)*m=n*m+m:=by rw [Nat.add_mul];omega
  simp only [List.flatMap_cons,List.flatMap_nil,List.append_nil];omega
theorem D3(a:List (Nat × Nat))(l t i:Nat)(d:l<=500)(c:t<=4)(b:a.length<=500):(kS a l t i).length<=2000000:=by
 unfold kS;rw [List.length_append,List.length_append];have h1:(jT l a).length<=l*(4*a.length):=by
  unfold jT;exact pT (fun _=>pT (fun _=>List.length_filter_le ..) 4) l
 have h2:((List.range t).flatMap (oE a l)).length<=t*a.length:=pT (fun _=>xI ..) t;have h3:(oE (a.take i) l t).length<=a.length:=Nat.le_trans (xI ..) (by simp;omega);have h4:l*(4*a.length)<=500*(4*500):=Nat.mul_le_mul d (by omega);have h5:t*a.length<=4*500:=Nat.mul_le_mul c b;omega
def nx(L:List (Nat × Nat)):List Int:=L.map fun x=>(x.2:Int)
theorem Bv(a:List (Nat × Nat))(l t i:Nat)(b:i<a.length):nx (kS a l t (i+1))=if a[i].1==l && a[i].2==t then nx (kS a l t i)++[(t:Int)] else nx (kS a l t i):=by
 rw [AP a l t i b];unfold nx;by_cases h:(a[i].1==l && a[i].2==t)=true
 ·rw [if_pos h,if_pos h,List.map_append];simp at h;simp [h.2]
 ·rw [if_neg h,if_neg h];simp
def kl(p:List (List Ins))(xs:List Ev)(i:Nat):List Nat:=(tl (ja p) [] (xs.take i)).map (·.2)
theorem pl(p:List (List Ins))(xs:List Ev)(i:Nat)(h:i<=xs.length):(kl p xs i).length=i:=by unfold kl;rw [List.length_map,jB];simp;omega
theorem yW(p:List (List Ins))(xs:List Ev)(i:Nat)(h:i<xs.length):kl p xs (i+1)=kl p xs i++[ji (ja p) ((tl (ja p) [] (xs.take i)).take i) xs[i]]:=by
 unfold kl;have e:(tl (ja p) [] (xs.take i)).take i=tl (ja p) [] (xs.take i):=List.take_of_length_le (by rw [jB];simp;omega);rw [uF h,List.map_append,e];rfl
theorem ro(p:List (List Ins))(xs:List Ev):(jx p xs).length=xs.length:=by unfold jx;rw [List.length_map,jB]
theorem DA(p:List (List Ins))(xs:List Ev)(i:Nat)(h:i<xs.length):(jx p xs)[i]'(by rw [ro];exact h)=((kl p xs xs.length)[i]'(by rw [pl _ _ _ (Nat.le_refl _)];exact h),xs[i].t):=by
 have d:i<(tl (ja p) [] xs).length:=by rw [jB];exact h
 have c:((tl (ja p) [] xs)[i]'d).1=xs[i]:=by
  have a:=tw (ja p) [] xs;have b:((tl (ja p) [] xs).map (·.1))[i]'(by rw [a];exact h)=xs[i]:=by congr 1
  simpa using b
 simp [jx,kl,yK,c]
theorem DW(p:List (List Ins))(xs:List Ev)(i:Nat)(h:i<xs.length):(kl p xs xs.length)[i]'(by rw [pl _ _ _ (Nat.le_refl _)];exact h)<=xs.length:=by
 have a:i<(tl (ja p) [] xs).length:=by rw [jB];exact h
 have:=oS (ja p) xs [] 0 (by simp) i _ (List.getElem?_eq_getElem a);simp [kl];omega
end
section
open Go.RowKit
attribute [local go_sem] Go.World.cell?_alloc_some
theorem yA(W:World)(a b c:Obj):((W.alloc a).alloc b).drew.alloc c=Sort.grow (W.drewN 1) #[a,b,c]:=by
 have d:∀ (w:World) os,(Sort.grow w os).drew=Sort.grow w.drew os:=fun _ _=>rfl
 rw [Sort.alloc_eq_grow W a,Sort.alloc_eq_grow _ b,Sort.grow_grow,d,Sort.alloc_eq_grow _ c,Sort.grow_grow];rfl
def mO(x y:Int):Int:=if x<y then -1 else if y<x then 1 else 0
def orI(x y:Int):Int:=if x=0 then y else x
def AE(x y:Int × Int):Int:=orI (mO x.1 y.1) (mO x.2 y.2)
theorem vG(x:Int)(w:World):Calls Tryz.prog 168 #[.int .i64 x] w fun e w'=>e= .returned (.bool false)/\w'=w:=by
 go_enter Tryz.func168,Tryz.ntmps168
 go_wp2
 go_ret;exact⟨rfl,rfl⟩
theorem qy(x y:Int)(w:World):Calls Tryz.prog 130 #[.int .i64 x,.int .i64 y] w fun e w'=>e= .returned (.int .i64 (mO x y))/\w'=w:=by
 by_cases b:x<y
 ·have a:Hid (mO x y= -1):=by unfold Hid mO;simp [b]
  go_enter Tryz.func130,Tryz.ntmps130
  go_wp2_with (go_at_call 168;refine(vG _ _).mono ?_;rintro e w' ⟨rfl,rfl⟩)
  go_ret;exact⟨by rw [a.out];rfl,rfl⟩
 ·by_cases c:y<x
  ·have a:Hid (mO x y=1):=by unfold Hid mO;simp [b,c]
   go_enter Tryz.func130,Tryz.ntmps130
   go_wp2_with (go_at_call 168;refine(vG _ _).mono ?_;rintro e w' ⟨rfl,rfl⟩)
   go_ret;exact⟨by rw [a.out];rfl,rfl⟩
  ·have a:Hid (mO x y=0):=by unfold Hid mO;simp [b,c]
   have h3:x<=y:=by omega
   have h4:y<=x:=by omega
   go_enter Tryz.func130,Tryz.ntmps130
   go_wp2_with (go_at_call 168;refine(vG _ _).mono ?_;rintro e w' ⟨rfl,rfl⟩)
   go_ret;exact⟨by rw [a.out];rfl,rfl⟩
theorem E0(x y:Int)(g:Nat)(w:World)(j:w.cell? ⟨g,0,none⟩=some (.int .i64 x))(h:w.cell? ⟨g,1,none⟩=some (.int .i64 y)):
  Calls Tryz.prog 129 #[.slice (some ⟨g,0,none⟩) 2 2] w fun e w'=>e= .returned (.int .i64 (orI x y))/\w'=w:=by
 have HA:=ij j;have HB:=ij h;go_enter Tryz.func129,Tryz.ntmps129
 go_wp2_with fail
 go_loopw [8] (fun i w'=>∃ k:Nat,k<=2/\i= .int .i64 k/\Hid (w'=w)/\Hid ((0<k->x=0)/\(1<k->y=0))) (fun i _=>2 - (intOf i).toNat)
 case atStart=>exact⟨0,by omega,rfl,rfl,by omega,by omega⟩
 case round=>
  obtain⟨k,hk,rfl,f,c⟩:=hrel;obtain rfl:=f.out.symm;clear f;rcases(by omega:k=0\/k=1\/k=2)with rfl | rfl | rfl
  ·by_cases b:x=0
   ·subst b;go_wp2_with fail
    go_roundw
    case rel=>exact⟨1,by omega,by go_num,(by first | exact trivial | rfl),by unfold Hid;simp⟩
    case measure=>simp [intOf]
   ·have l:(x !=0)=true:=by simpa using b
    have a:Hid (orI x y=x):=by unfold Hid orI;rw [if_neg b]
    clear b;go_wp2_with fail
    go_ret;exact⟨by rw [a.out];rfl,rfl⟩
  ·have a:Hid (orI x y=y):=by unfold Hid orI;rw [if_pos (c.out.1 (by omega))]
   by_cases d:y=0
   ·subst d;have HX:=ij (c.out.1 (by omega));go_wp2_with fail
    go_roundw
    case rel=>exact⟨2,by omega,by go_num,(by first | exact trivial | rfl),by unfold Hid;simp [HX.out]⟩
    case measure=>simp [intOf]
   ·have l:(y !=0)=true:=by simpa using d
    clear d;go_wp2_with fail
    go_ret;exact⟨by rw [a.out];rfl,rfl⟩
  ·have a:Hid (orI x y=0):=by unfold Hid orI;rw [if_pos (c.out.1 (by omega))];exact c.out.2 (by omega)
   go_wp2_with fail
   go_ret;exact⟨by rw [a.out];rfl,rfl⟩
theorem AY(x y:Int × Int)(W:World):
  Calls Tryz.prog 87 #[.agg #[.int .i64 x.1,.int .i64 x.2],.agg #[.int .i64 y.1,.int .i64 y.2]] W fun e w'=>e= .returned (.int .i64 (AE x y))/\∃ q os',w'=Sort.grow (W.drewN q) os':=by
 go_enter Tryz.func87,Tryz.ntmps87
 go_upto_region 1 with fail
 have A:=ij (heap_alloc_new W (.cells #[.int .i64 x.1,.int .i64 x.2] 165));have HB:=ij (heap_alloc_new (W.alloc (.cells #[.int .i64 x.1,.int .i64 x.2] 165)) (.cells #[.int .i64 y.1,.int .i64 y.2] 165));have z:(W.alloc (.cells #[.int .i64 x.1,.int .i64 x.2] 165)).heap.size=W.heap.size+1:=by simp
 rw [z]at HB;have s:Hid (((W.alloc (.cells #[.int .i64 x.1,.int .i64 x.2] 165)).alloc (.cells #[.int .i64 y.1,.int .i64 y.2] 165)).heap[W.heap.size]?=some (.cells #[.int .i64 x.1,.int .i64 x.2] 165 (0,0))):=by
  unfold Hid;rw [Below.heap_alloc _ _ _ (by simp)];exact A.out
 have E:Hid (∀ c,∃ q os',((((W.alloc (.cells #[.int .i64 x.1,.int .i64 x.2] 165)).alloc (.cells #[.int .i64 y.1,.int .i64 y.2] 165)).drew).alloc c)=Sort.grow (W.drewN q) os'):=fun c=>by
  exact⟨1,_,yA _ _ _ _⟩
 have H:((W.alloc (.cells #[.int .i64 x.1,.int .i64 x.2] 165)).alloc (.cells #[.int .i64 y.1,.int .i64 y.2] 165)).drew.cell? ⟨W.heap.size,0,none⟩=some (.int .i64 x.1)/\((W.alloc (.cells #[.int .i64 x.1,.int .i64 x.2] 165)).alloc (.cells #[.int .i64 y.1,.int .i64 y.2] 165)).drew.cell? ⟨W.heap.size,1,none⟩=some (.int .i64 x.2)/\((W.alloc (.cells #[.int .i64 x.1,.int .i64 x.2] 165)).alloc (.cells #[.int .i64 y.1,.int .i64 y.2] 165)).drew.cell? ⟨W.heap.size+1,0,none⟩=some (.int .i64 y.1)/\((W.alloc (.cells #[.int .i64 x.1,.int .i64 x.2] 165)).alloc (.cells #[.int .i64 y.1,.int .i64 y.2] 165)).drew.cell? ⟨W.heap.size+1,1,none⟩=some (.int .i64 y.2):=by
  have v:((W.alloc (.cells #[.int .i64 x.1,.int .i64 x.2] 165)).alloc (.cells #[.int .i64 y.1,.int .i64 y.2] 165)).drew.heap[W.heap.size]?=some (.cells #[.int .i64 x.1,.int .i64 x.2] 165 (0,0)):=s.out;have n:((W.alloc (.cells #[.int .i64 x.1,.int .i64 x.2] 165)).alloc (.cells #[.int .i64 y.1,.int .i64 y.2] 165)).drew.heap[W.heap.size+1]?=some (.cells #[.int .i64 y.1,.int .i64 y.2] 165 (0,0)):=HB.out;refine⟨?_,?_,?_,?_⟩
  ·simp only [World.cell?,v];rfl
  ·simp only [World.cell?,v];rfl
  ·simp only [World.cell?,n];rfl
  ·simp only [World.cell?,n];rfl
 generalize ((W.alloc (.cells #[.int .i64 x.1,.int .i64 x.2] 165)).alloc (.cells #[.int .i64 y.1,.int .i64 y.2] 165))=w2 at*;have I:Hid ((w2.drew.alloc (.cells #[.int .i64 (mO x.1 y.1),.int .i64 (mO x.2 y.2)] 3)).cell? ⟨w2.heap.size,0,none⟩=some (.int .i64 (mO x.1 y.1))):=by
  have h:=heap_alloc_new w2.drew (.cells #[.int .i64 (mO x.1 y.1),.int .i64 (mO x.2 y.2)] 3);unfold Hid;have k:(w2.drew.alloc (.cells #[.int .i64 (mO x.1 y.1),.int .i64 (mO x.2 y.2)] 3)).heap[w2.heap.size]?=_:=h;simp only [World.cell?,k];rfl
 have C:Hid ((w2.drew.alloc (.cells #[.int .i64 (mO x.1 y.1),.int .i64 (mO x.2 y.2)] 3)).cell? ⟨w2.heap.size,1,none⟩=some (.int .i64 (mO x.2 y.2))):=by
  have h:=heap_alloc_new w2.drew (.cells #[.int .i64 (mO x.1 y.1),.int .i64 (mO x.2 y.2)] 3);unfold Hid;have k:(w2.drew.alloc (.cells #[.int .i64 (mO x.1 y.1),.int .i64 (mO x.2 y.2)] 3)).heap[w2.heap.size]?=_:=h;simp only [World.cell?,k];rfl
 clear A HB s z;refine iz (fun u=>u.cell? ⟨W.heap.size,0,none⟩=some (.int .i64 x.1)/\u.cell? ⟨W.heap.size,1,none⟩=some (.int .i64 x.2)/\u.cell? ⟨W.heap.size+1,0,none⟩=some (.int .i64 y.1)/\u.cell? ⟨W.heap.size+1,1,none⟩=some (.int .i64 y.2)) 12 (by kernel_rfl) (by kernel_rfl) H ?_;intro a;refine gJ 0 ?va0 rfl (by kernel_rfl) (fun _ _ _ h=>h) (by rfl) ?ya0 a ?_
 case ya0=>(rintro u ⟨b,f,d,j⟩;go_simp;try rfl)
 simp only [Act.put,List.setIfInBounds_toArray];refine gJ 1 ?va1 rfl (by kernel_rfl) (fun _ _ _ h=>h) (by rfl) ?ya1 a ?_
 case ya1=>(rintro u ⟨b,f,d,j⟩;go_simp;try rfl)
 simp only [Act.put];refine gJ 2 ?va2 rfl (by kernel_rfl) (fun _ _ _ h=>h) (by rfl) ?ya2 a ?_
 case ya2=>(rintro u ⟨b,f,d,j⟩;go_simp;try rfl)
 simp only [Act.put];refine gJ 3 ?va3 rfl (by kernel_rfl) (fun _ _ _ h=>h) (by rfl) ?ya3 a ?_
 case ya3=>(rintro u ⟨b,f,d,j⟩;go_simp;try rfl)
 simp only [Act.put];refine gJ 5 ?va5 rfl (by kernel_rfl) (fun _ _ _ h=>h) (by rfl) ?ya5 a ?_
 case ya5=>(rintro u ⟨b,f,d,j⟩;go_simp;try rfl)
 simp only [Act.put];refine gJ 6 ?va6 rfl (by kernel_rfl) (fun _ _ _ h=>h) (by rfl) ?ya6 a ?_
 case ya6=>(rintro u ⟨b,f,d,j⟩;go_simp;try rfl)
 simp only [Act.put];refine gJ 7 ?va7 rfl (by kernel_rfl) (fun _ _ _ h=>h) (by rfl) ?ya7 a ?_
 case ya7=>(rintro u ⟨b,f,d,j⟩;go_simp;try rfl)
 simp only [Act.put];refine gJ 8 ?va8 rfl (by kernel_rfl) (fun _ _ _ h=>h) (by rfl) ?ya8 a ?_
 case ya8=>(rintro u ⟨b,f,d,j⟩;go_simp;try rfl)
 simp only [Act.put];refine iu (i:=4) rfl (by kernel_rfl) (by kernel_rfl) (by rfl) ?_;intro K4 B;have m:=ij B;clear B;go_simp;refine(qy x.1 y.1 _).mono ?_;rintro e w4 ⟨rfl,D⟩;obtain rfl:=D.symm;refine m.out _ _ a ?_;clear m;try simp only [Act.put,List.setIfInBounds_toArray]
 refine iu (i:=9) rfl (by kernel_rfl) (by kernel_rfl) (by rfl) ?_;intro K9 p;have o:=ij p;clear p;go_simp;refine(qy x.2 y.2 _).mono ?_;rintro e w9 ⟨rfl,G⟩;obtain rfl:=G.symm;refine o.out _ _ a ?_;clear o;try simp only [Act.put,List.setIfInBounds_toArray]
 refine iu (i:=10) rfl (by kernel_rfl) (by kernel_rfl) (by rfl) ?_;intro Kpa t;have r:=ij t;clear t;go_simp;refine r.out _ _ ⟨ip (iq (ir _ _)) _ _ a.1,ip (iq (ir _ _)) _ _ a.2.1,ip (iq (ir _ _)) _ _ a.2.2.1,ip (iq (ir _ _)) _ _ a.2.2.2⟩ ?_;clear r;try simp only [Act.put,List.setIfInBounds_toArray]
 refine iu (i:=11) rfl (by kernel_rfl) (by kernel_rfl) (by rfl) ?_;intro Kpb w;have l:=ij w;clear w;go_simp;refine(E0 (mO x.1 y.1) (mO x.2 y.2) _ _ (I.out) (C.out)).mono ?_;rintro e wpb ⟨rfl,F⟩;obtain rfl:=F.symm;refine l.out _ _ ⟨ip (iq (ir _ _)) _ _ a.1,ip (iq (ir _ _)) _ _ a.2.1,ip (iq (ir _ _)) _ _ a.2.2.1,ip (iq (ir _ _)) _ _ a.2.2.2⟩ ?_;clear l;try simp only [Act.put,List.setIfInBounds_toArray]
 refine iH rfl (by kernel_rfl) (by kernel_rfl) (by rfl) ?_;go_simp;go_wp2_with fail
 go_ret;exact⟨rfl,E.out _⟩
end
section
open Go.RowKit
def pp(x:Int × Int):List Value:=[.int .i64 x.1,.int .i64 x.2]
theorem ltP(x y:Int × Int):ltOf AE x y=decide (x.1<y.1\/(x.1=y.1/\x.2<y.2)):=by
 unfold ltOf AE orI mO;rw [Bool.eq_iff_iff];simp only [decide_eq_true_eq];repeat' split
 all_goals omega
theorem Gj:Sort.SWO (ltOf AE) where
 irrefl x:=by rw [ltP];simp
 trans x y z h1 h2:=by rw [ltP]at*;simp only [decide_eq_true_eq]at*;omega
 ntrans x y z h1 h2:=by rw [ltP]at*;simp only [decide_eq_false_iff_not]at*;omega
theorem vB{b:List (Nat × Nat)}{a:Array (Int × Int)}(t:Sort.PermIn 0 (b.map kI).toArray.size (b.map kI).toArray a)(v:Sort.SortedIn (ltOf AE) 0 (b.map kI).toArray.size a):a.toList=(nn b).map kI:=by
 obtain⟨l,_,d⟩:=t;have r:a.size=b.length:=by rw [l];simp
 have f:a.toList.Perm (b.map kI):=by
  have m:(a.extract 0 (b.map kI).toArray.size).toList=a.toList:=by rw [Array.toList_extract];simp [List.extract];rw [List.take_of_length_le (by simp [r])]
  have u:((b.map kI).toArray.extract 0 (b.map kI).toArray.size).toList=b.map kI:=by rw [Array.toList_extract];simp [List.extract];rw [List.take_of_length_le (by simp)]
  rw [m,u]at d;exact d
 have c:∀ x∈a.toList,kI (x.1.toNat,x.2.toNat)=x:=fun x hx=>by
  obtain⟨q,_,rfl⟩:=List.mem_map.1 (f.mem_iff.1 hx);simp [kI]
 have A:(a.toList.map fun x=>(x.1.toNat,x.2.toNat)).map kI=a.toList:=by
  rw [List.map_map];conv=>rhs;rw [<-List.map_id a.toList]
  exact List.map_congr_left (fun x hx=>c x hx)
 have k:(a.toList.map fun x=>(x.1.toNat,x.2.toNat)).Perm b:=by
  have:=f.map (fun x:Int × Int=>(x.1.toNat,x.2.toNat));have e:(b.map kI).map (fun x:Int × Int=>(x.1.toNat,x.2.toNat))=b:=by
   rw [List.map_map];conv=>rhs;rw [<-List.map_id b]
   exact List.map_congr_left (fun x _=>by simp [kI])
  rw [e]at this;exact this
 have o:(a.toList.map fun x=>(x.1.toNat,x.2.toNat)).Pairwise leP:=by
  rw [List.pairwise_map,List.pairwise_iff_getElem];intro i j n y z;have w:i<a.size:=by simpa using n
  have h:j<a.size:=by simpa using y
  have:=v i j (Nat.zero_le _) z (by simp;omega);rw [ltP,getElem!_pos a i w,getElem!_pos a j h]at this;have s:=c a[i] (by simp);have p:=c a[j] (by simp);simp only [decide_eq_false_iff_not]at this;simp only [kI,Prod.ext_iff]at s p;unfold leP;simp only [Array.getElem_toList];omega
 rw [ui k.symm o,A]
theorem pJ{w0 w w':World}{g:Nat}(h:w0.grownBy w none)(hg:w.grownBy w' (some g))(hl:w0.heap.size<=g):w0.grownBy w' none:=
 ⟨hg.os.trans h.os,hg.tape.trans h.tape,hg.output.trans h.output,Nat.le_trans h.size hg.size,fun k hk _=>by
  rw [hg.block k (Nat.lt_of_lt_of_le hk h.size) (by simp;omega)];exact h.block k hk (by simp)⟩
theorem Fg(a:List (Nat × Nat))(g:Nat)(w:World)(i:w.heap[g]?=some (.cells (nE a).toArray 165 (0,0)))(hn:a.length<=1000000):
  Calls Tryz.prog 86 #[.slice (some ⟨g,0,none⟩) a.length a.length,.func (.func 87) #[] #[]] w fun e w'=>e= .returned (.tuple #[])/\(∀ j (d:j<(nn a).length),w'.cell? ⟨g,j*2,none⟩=some (.int .i64 ((nn a)[j].1:Int))/\w'.cell? ⟨g,j*2+1,none⟩=some (.int .i64 ((nn a)[j].2:Int)))/\w.grownBy w' (some g):=by
 have E:g<w.heap.size:=(Array.getElem?_eq_some_iff.1 i).1;have G:∀ args w,(callFunc 87 args).run Tryz.prog w= .ok (.enter 87 args) w:=enters_of Tryz.func87 (by kernel_rfl) rfl;have c:(a.map kI).toArray.size=a.length:=by simp
 have B:Sort.HoldsK pp 2 w g 0 (a.map kI).toArray:=by
  intro t D;rw [Sort.size_flatK,c]at D;rw [Sort.get_flatK _ _ _ _ (by rw [c];exact D)];refine⟨?_,by simp [World.frozen?,i]⟩;have d:t / 2<(a.map kI).length:=by simp;omega
  have u:=sj (a.map kI) (t / 2) d;have q:((a.map kI).toArray)[t / 2]! =(a.map kI)[t / 2]:=by rw [getElem!_pos _ _ (by simpa using d)];simp
  rw [q];simp only [World.cell?,i];unfold nE;rcases(by omega:t % 2=0\/t % 2=1)with h | h
  ·have l:0+t=t / 2*2:=by omega
   rw [h,l];simpa [pp]using u.1
  ·have l:0+t=t / 2*2+1:=by omega
   rw [h,l];simpa [pp]using u.2
 have m:=AnyQ.slices_SortFunc Tryz.srt 2 Tryz.isAgg165 Tryz.sizeOf165 pp (fun _=>rfl) (fun x v hv=>by simp [pp]at hv;rcases hv with rfl | rfl<;>rfl) AE Gj 87 #[] g 0 a.length (a.map kI).toArray w G (fun _ _ _ _ x y=>AY x y _) B E (by rw [c];omega);change Calls Tryz.prog 86 _ _ _ at m
 rw [c]at m;refine m.mono ?_;rintro e w' ⟨rfl,b,n,f,H,I,rfl⟩;have L:=vB (by rw [c];exact H) (by rw [c];exact I);have s:b.size=a.length:=by have:=congrArg List.length L;simpa [(mC a).length_eq]using this
 have M:Sort.HoldsK pp 2 (Sort.ahead w n) g 0 (a.map kI).toArray:=B;have A:Sort.HoldsK pp 2 (Sort.putRowK pp 2 (Sort.ahead w n) g 0 b) g 0 b:=Sort.holdsK_putRowK pp 2 _ _ _ _ _ M (by rw [c,s]);have p:(Sort.putRowK pp 2 (Sort.ahead w n) g 0 b).heap.size=w.heap.size:=by unfold Sort.putRowK;rw [Sort.size_putRow];rfl
 refine⟨rfl,fun j d=>?_,?_⟩
 ·have C:j<b.size:=by rw [s,<-(mC a).length_eq];exact d
  have r:b[j]! =kI (nn a)[j]:=by
   rw [getElem!_pos b j C];have q:b.toList[j]'(by simpa using C)=((nn a).map kI)[j]'(by simpa using d):=by congr 1
   simpa using q
  have z:∀ o v,(Sort.putRowK pp 2 (Sort.ahead w n) g 0 b).cell? ⟨g,o,none⟩=some v->(sortWorldK pp 2 w g 0 n b f).cell? ⟨g,o,none⟩=some v:=fun o v hc=>by
   unfold sortWorldK;rw [World.cell?_of_block (w:=Sort.putRowK pp 2 (Sort.ahead w n) g 0 b) (by
    show ((Sort.putRowK pp 2 (Sort.ahead w n) g 0 b).heap++f)[g]?=_
    rw [Array.getElem?_append_left (by rw [p];exact E)])]
   exact hc
  have k0:=(A (j*2) (by rw [Sort.size_flatK];omega)).1;have k1:=(A (j*2+1) (by rw [Sort.size_flatK];omega)).1;rw [Sort.get_flatK _ _ _ _ (by omega)]at k0 k1;have N:j*2 / 2=j:=by omega
  have F:(j*2+1) / 2=j:=by omega
  have K:j*2 % 2=0:=by omega
  have J:(j*2+1) % 2=1:=by omega
  rw [N,K,r]at k0;rw [F,J,r]at k1;simp only [Nat.zero_add]at k0 k1;exact⟨z _ _ k0,z _ _ k1⟩
 ·refine⟨rfl,rfl,rfl,?_,fun k hk hne=>?_⟩
  ·show w.heap.size<=((Sort.putRowK pp 2 (Sort.ahead w n) g 0 b).heap++f).size
   rw [Array.size_append,p];omega
  ·show ((Sort.putRowK pp 2 (Sort.ahead w n) g 0 b).heap++f)[k]?=w.heap[k]?
   rw [Array.getElem?_append_left (by rw [p];exact hk)];show (w.heap.modify g _)[k]?=w.heap[k]?
   rw [Array.getElem?_modify,if_neg (fun e=>hne (by rw [e]))]
end
section
open Go.RowKit
attribute [local go_sem] Go.World.cell?_alloc_some
theorem rs:((Tryz.prog.info? 3).map fun i=>(i.zero,i.size,i.bytes))=some (some (.int .i64 0),1,8):=by kernel_rfl
def oR(a:List Int):List Value:=a.map fun x=> .int .i64 x
theorem Cn(L:List Value)(x:Value)(i n:Nat)(b:L.length=i)(hi:i<n):(L++List.replicate (n - i) (Value.int .i64 0)).set i x=(L++[x])++List.replicate (n - (i+1)) (Value.int .i64 0):=by
 obtain⟨k,a⟩:∃ k,n - i=k+1/\n - (i+1)=k:=⟨n - (i+1),by omega,rfl⟩;rw [a.1,a.2,List.set_append,if_neg (by omega),b,Nat.sub_self,List.replicate_succ,List.set_cons_zero];simp
structure Fi(fs:List Int)(W w':World)(gf i:Nat):Prop where
 row:w'.heap[gf]?=some (.cells (oR (fs.take i)++List.replicate (fs.length - i) (Value.int .i64 0)).toArray 3 (0,0))
 gr:W.grownBy w' (some gf)
theorem Al{p:List (List Ins)}{o:Out}{xs:List Ev}(P:iU p=true)(Y:rF p o xs)(aC:xs.length<=500)(w:World)(pv:Value)(L:ProgAt w pv p)(base:Nat)(J:Option Addr)(M:Nat)
  (hs:w.ownsRow base 76 2 (.slice J xs.length M) xs.length (iR o.steps)) (v0 v1 v2 v3:Int) (ac:Option Addr) (gn gc:Nat):
  Calls Tryz.prog 56 #[pv,.agg #[.int .i64 o.kind,.int .i64 o.thread,.int .i64 o.at_,.slice J xs.length M,.int .i64 v0,.int .i64 v1,.int .i64 v2,.int .i64 v3,.slice ac gn gc]] w fun e w'=>∃ v,e= .returned v/\w'.ownsRow w.heap.size 3 1 v (lH p xs).length (oR (lH p xs))/\w.grownBy w' none:=by
 obtain⟨i0,az,ay,aE,aO⟩:=info_parts rs;obtain⟨ao,cap,rfl⟩:=L.form;have HP:=ij L;have HV:=ij P;have aM:=ij Y;have HR:=ij hs;have n:=m7 p xs;have q0:(xs.length:Int)<=500:=by omega
 have q1:(0:Int)<=(xs.length:Int):=by omega
 clear L P Y hs;go_enter Tryz.func56,Tryz.ntmps56
 go_wp2_with fail
 have C:∀ a b,w.grownBy ((w.alloc a).alloc b) none:=fun a b=>iq (iq (ir _ _))
 refine(D8 HV.out aM.out aC _ _ (HP.out.pres (ip (C _ _))) base J M (iJ (iJ HR.out)) v0 v1 v2 v3 ac gn gc).mono ?_;rintro e N ⟨g,rfl,hg,A,al⟩;have aG:Hid (w.grownBy N none):=il (C _ _) al;have aK:w.heap.size<=g:=by simp at hg;omega
 have F:(jx p xs).length=xs.length:=by unfold jx;rw [List.length_map,jB]
 have B:=ij (Fg (jx p xs) g N A (by omega));rw [F]at B;have U:g<N.heap.size:=(Array.getElem?_eq_some_iff.1 A).1;clear al A hg C;go_wp2_with fail
 refine B.out.mono ?_;clear B;rintro e l ⟨rfl,X,E⟩;have hsl:(nn (jx p xs)).length=xs.length:=by rw [(mC _).length_eq,F]
 have ah:Hid (lH p xs=(nn (jx p xs)).map fun x=>(x.2:Int)):=rfl;generalize nn (jx p xs)=qs at*;have G:=ij X;have ae:Hid (w.grownBy l none):=pJ aG.out E aK;obtain⟨d,y⟩:∃ d,d=lH p xs:=⟨_,rfl⟩;rw [<-y]at ah n;have aF:=ij y;clear y;have aJ:g<l.heap.size:=Nat.lt_of_lt_of_le U E.size;clear X E F;go_upto_region 4 with (at_make;refine wpList_make_full _ rfl _ _ _ rfl l.heap.size 3 i0 _ 1 Tryz.underlying39 az ay aE .i64 .i64 _ _ xs.length rfl rfl rfl rfl (by rw [aO];omega) (by unfold maxLen;omega) (by simp) ?_;intro h Z t)
 have K:h.heap[l.heap.size]?=some (.cells (List.replicate xs.length (Value.int .i64 0)).toArray 3 (0,0)):=by
  rcases Z.2 with ⟨e,_⟩ | ⟨g',cap',cur,hv,_,hh,_,_,hcs,htk⟩
  ·cases e
  ·simp only [Value.slice.injEq,Option.some.injEq,Addr.mk.injEq,true_and,and_true]at hv;obtain⟨rfl,rfl⟩:=hv;rw [hh];have e1:cur.toList=List.replicate xs.length (Value.int .i64 0):=by
    have Q:(madeCells #[Value.int .i64 0] (xs.length*1)).toList=List.replicate (xs.length*1) (Value.int .i64 0):=by
     apply List.ext_getElem (by simp [madeCells]);intro i h1 h2;simp only [madeCells,Array.toList_map,List.getElem_map,List.getElem_replicate,Array.toList_range,List.getElem_range];simp [Nat.mod_one]
    rw [Nat.mul_one]at Q;rw [<-Q];simp only [Value.cells,Nat.mul_one]at htk hcs;rw [<-htk,List.take_of_length_le (by simp;omega)]
   rw [<-e1]
 have aA:Hid (∀ j (hj:j<qs.length),h.cell? ⟨g,j*2,none⟩=some (.int .i64 (qs[j].1:Int))/\h.cell? ⟨g,j*2+1,none⟩=some (.int .i64 (qs[j].2:Int))):=fun j hj=>⟨ip t _ _ (G.out j hj).1,ip t _ _ (G.out j hj).2⟩
 have aH:Hid (w.grownBy h none):=il ae.out t;have D:Hid (Fi d h h l.heap.size 0):=⟨by simpa [oR,n]using K,ir _ _⟩;obtain⟨c,H⟩:∃ c,c=l.heap.size:=⟨_,rfl⟩;have hgf3:c<h.heap.size:=by rw [H];exact(Array.getElem?_eq_some_iff.1 K).1
 have aI:g≠c:=by omega
 have S:w.heap.size<=c:=by have:=ae.out.size;omega
 have au:g<h.heap.size:=by omega
 rw [<-H]at D ⊢;clear Z t K G H U aJ;go_wp2_with fail
 go_loopw [19] (fun iv w'=>∃ i:Nat,i<=xs.length/\iv= .int .i64 i/\Hid (Fi d h w' c i)) (fun iv _=>xs.length - (intOf iv).toNat)
 case atStart=>exact⟨0,Nat.zero_le _,rfl,D⟩
 case round=>
  clear D;obtain⟨i,hi,rfl,k⟩:=hrel;obtain⟨f,ak⟩:∃ f,f=wr:=⟨_,rfl⟩;rw [<-ak]at k ⊢;clear ak;by_cases hlt:i<xs.length
  ·have aL:i<qs.length:=by omega
   obtain⟨c0,c1⟩:=aA.out i aL;have O:=k.out.gr.block g au (by simpa using aI);have d0:f.cell? ⟨g,i*2,none⟩=some (.int .i64 (qs[i].1:Int)):=by rw [World.cell?_of_block O];exact c0
   have d1:f.cell? ⟨g,i*2+1,none⟩=some (.int .i64 (qs[i].2:Int)):=by rw [World.cell?_of_block O];exact c1
   have V:i<d.length:=by omega
   have T:Hid (d.take (i+1)=d.take i++[(qs[i].2:Int)]):=by
    unfold Hid;rw [List.take_succ_eq_append_getElem V];congr 2
    simp [ah.out]
   have hs5:h.heap.size<=f.heap.size:=k.out.gr.size;obtain⟨R,s⟩:∃ R:List Value,R=oR (d.take i)++List.replicate (d.length - i) (Value.int .i64 0):=⟨_,rfl⟩;have aN:R.length=d.length:=by rw [s];simp [oR];omega
   have I:=k.out.row;rw [<-s]at I;clear c0 c1 O;generalize qs[i]=q at*;obtain⟨u,m⟩:=q;simp only at d0 d1 T;have r:(f.alloc (.cells #[.int .i64 (u:Int),.int .i64 (m:Int)] 165)).heap[c]?=some (.cells R.toArray 3 (0,0)):=by
    rw [Below.heap_alloc _ _ _ (by omega)];exact I
   have W:∃ z,(f.alloc (.cells #[.int .i64 (u:Int),.int .i64 (m:Int)] 165)).cell? ⟨c,i,none⟩=some z:=⟨R[i]'(by omega),by simp only [World.cell?,r];simp⟩;obtain⟨z,W⟩:=W;have fz0:(f.alloc (.cells #[.int .i64 (u:Int),.int .i64 (m:Int)] 165)).frozen? ⟨c,i,none⟩=false:=by simp [World.frozen?,r]
   have av:Hid (Fi d h ((f.alloc (.cells #[.int .i64 (u:Int),.int .i64 (m:Int)] 165)).setCell ⟨c,i,none⟩ (.int .i64 (m:Int))) c (i+1)):=by
    refine⟨?_,il k.out.gr (il (iq (ir _ _)) pA)⟩;rw [heap_setCell_same _ c i _ _ _ r,T.out];simp only [List.setIfInBounds_toArray];rw [s,Cn _ _ i d.length (by simp [oR];omega) V];simp [oR]
   have t0:(0:Int)<=(i:Int):=by omega
   have t1:(i:Int)<xs.length:=by omega
   have hne5:c≠f.heap.size:=by omega
   have hne6:f.heap.size≠c:=by omega
   clear I r s aN;go_wp2_with fail
   go_roundw
   case rel=>exact⟨i+1,by omega,by go_num,av⟩
   case measure=>simp [intOf];omega
  ·have t1:(xs.length:Int)<=(i:Int):=by omega
   have ei:i=xs.length:=by omega
   have HE:Hid (f.ownsRow w.heap.size 3 1 (.slice (some ⟨c,0,none⟩) xs.length xs.length) d.length (oR d)/\w.grownBy f none):=by
    have hr:=k.out.row;rw [List.take_of_length_le (by omega),show d.length - i=0 by omega]at hr;refine⟨⟨by simp [oR],Or.inr ⟨c,xs.length,_,by rw [n],S,hr,by omega,by unfold maxLen;omega,by simp [oR,n],?_⟩⟩,pJ aH.out k.out.gr S⟩;simp [oR];rw [List.take_of_length_le (by simp)]
   go_wp2_with fail
   go_ret;refine⟨.slice (some ⟨c,0,none⟩) xs.length xs.length,rfl,?_,HE.out.2⟩;rw [<-aF.out];exact HE.out.1
structure C0(W w':World)(v:Value)(L:List Int):Prop where
 row:w'.ownsRow W.heap.size 3 1 v L.length (iL L)
 gr:W.grownBy w' none
theorem Dx{p:List (List Ins)}{xs:List Ev}(h500:xs.length<=500){W:World}{b T gc sc:Nat}{O:Option Addr}(N:W.cell? ⟨b,10,none⟩=some (.slice O xs.length sc))
  (HL:Hid (∀ i,i<xs.length->∃ g d j,(jx p xs)[i]?=some (d,j)/\O=some ⟨g,0,none⟩/\W.cell? ⟨T,i,none⟩=some (.int .i64 (d:Int))/\W.cell? ⟨g,i*2,none⟩=some (.int .i64 (j:Int))/\d<=500/\j<4))
  {Q:Exit->Act->World->Prop} {c1 c2 c5 c6 c7 c8 c9 dm bd dV cD df d7 aw bf cx dE cm cW eu en aI dZ cb bS eb ab bC cC cN dg cJ br bx ax dj b8 dF b6 a9 ag cp cf bY bK bF ak aT c3 dR cQ bZ dN c4 dW aJ cq bH dT ee aL a8 cj dy dc dB aR bV dt aa b5 aO bA cz dM d8 bR el bq cO cM dx bU am ay dA bk dQ dG bD bE ec Z bO dn ck ct V dU ai bg cZ af ed aH es aQ dq aC cU d9 de d6 cg:Value}
  (HQ:Hid (∀ {z0 z1 z3 z4 z5 z6 z7 X z9 cv b1 eg a0 aD bM aU bT dJ cP bI d5 bQ cw b2 aE bi Y bm bw bJ bb bc b0 cc eq dP cV bo cR eo dv cu av cK ap dI dz cS ei bG aP ad cL cl bt aZ ek cn dp cr aj cE dS be bB cG d4 aS dD aN db dd aG em a5 cI bn dL cX cy bv dl dK aX ae bh bX b9 bz dH a2 aA cA b4 aB a4 dr et du bp cH au ca cB aK dh aW bj cF aV b7 ds dk ep cT b3:Value} (v:Value) (w':World),C0 W w' v (nx (jT xs.length (jx p xs)))->Q .ret ⟨#[z0,z1,v,z3,z4,z5,z6,z7,X,z9,cv,b1,eg,a0,aD,bM,aU,bT,dJ,cP,bI,d5,bQ,cw,b2,aE,bi,Y,bm,bw,bJ,bb,bc,b0,cc,eq,dP,cV,bo,cR,eo,dv,cu,av,cK,ap,dI,dz,cS,ei,bG,aP,ad,cL,cl,bt,aZ,ek,cn,dp,cr,aj,cE,dS,be,bB,cG,d4,aS,dD,aN,db,dd,aG,em,a5,cI,bn,dL,cX,cy,bv,dl,dK,aX,ae,bh,bX,b9,bz,dH,a2,aA,cA,b4,aB,a4,dr,et,du,bp,cH,au,ca,cB,aK,dh,aW,bj,cF,aV,b7,ds,dk,ep,cT,b3],[]⟩ w')):
  Code.wp Tryz.prog (oM Tryz.f57 14) Q ⟨#[.pointer (some ⟨b,0,none⟩),c1,c2,.int .i64 (xs.length:Int),.slice (some ⟨T,0,none⟩) xs.length gc,c5,c6,c7,c8,c9,dm,bd,dV,cD,df,d7,aw,bf,cx,dE,cm,cW,eu,en,aI,dZ,cb,bS,eb,ab,bC,cC,cN,dg,cJ,br,bx,ax,dj,b8,dF,b6,a9,ag,cp,cf,bY,bK,bF,ak,aT,c3,dR,cQ,bZ,dN,c4,dW,aJ,cq,bH,dT,ee,aL,a8,cj,dy,dc,dB,aR,bV,dt,aa,b5,aO,bA,cz,dM,d8,bR,el,bq,cO,cM,dx,bU,am,ay,dA,bk,dQ,dG,bD,bE,ec,Z,bO,dn,ck,ct,V,dU,ai,bg,cZ,af,ed,aH,es,aQ,dq,aC,cU,d9,de,d6,cg],[]⟩ W:=by
 conv=>arg 2;whnf
 obtain⟨i0,dY,bL,cY,dw⟩:=info_parts rs;have q0:(xs.length:Int)<=500:=by omega
 have q1:(0:Int)<=(xs.length:Int):=by omega
 have B:=ro p xs;have E:=ij B;have aF:=ij (fun l t i K M=>D3 (jx p xs) l t i K M (by omega));have F:Hid (C0 W W (.slice none 0 0) (nx (kS (jx p xs) 0 0 0))):=⟨by rw [AL];exact⟨rfl,Or.inl ⟨rfl,rfl⟩⟩,ir _ _⟩;have ej:=ij N;clear B N;go_wp2_with fail
 go_loopw [8,9] (fun ov lv w'=>∃ l:Nat,l<=xs.length/\lv= .int .i64 l/\Hid (C0 W w' ov (nx (kS (jx p xs) l 0 0)))) (fun _ lv _=>xs.length - (intOf lv).toNat)
 case atStart=>exact⟨0,Nat.zero_le _,rfl,F⟩
 case round=>
  clear F;obtain⟨l,K,rfl,s⟩:=hrel;obtain⟨P,G⟩:∃ P,P=wr:=⟨_,rfl⟩;rw [<-G]at s ⊢;clear G;by_cases hlt:l<xs.length
  ·have t0:(0:Int)<=(l:Int):=by omega
   have t1:(l:Int)<xs.length:=by omega
   go_wp2_with fail
   go_loopw [8,10] (fun ov tv w'=>∃ t:Nat,t<=4/\tv= .int .i64 t/\Hid (C0 W w' ov (nx (kS (jx p xs) l t 0)))) (fun _ tv _=>4 - (intOf tv).toNat)
   case atStart=>exact⟨0,Nat.zero_le _,rfl,s⟩
   case round=>
    clear s;obtain⟨t,M,rfl,u⟩:=hrel;obtain⟨C,z⟩:∃ C,C=wr:=⟨_,rfl⟩;rw [<-z]at u ⊢;clear z;by_cases htl:t<4
    ·have t2:(t:Int)<4:=by omega
     go_wp2_with fail
     go_loopw [8,11] (fun ov iv w'=>∃ i:Nat,i<=xs.length/\iv= .int .i64 i/\Hid (C0 W w' ov (nx (kS (jx p xs) l t i)))) (fun _ iv _=>xs.length - (intOf iv).toNat)
     case atStart=>exact⟨0,Nat.zero_le _,rfl,u⟩
     case round=>
      clear u;obtain⟨i,hi,rfl,a⟩:=hrel;obtain⟨k,S⟩:∃ k,k=wr:=⟨_,rfl⟩;rw [<-S]at a ⊢;clear S;by_cases dX:i<xs.length
      ·have t3:(0:Int)<=(i:Int):=by omega
       have t4:(i:Int)<xs.length:=by omega
       obtain⟨g,d,j,w,co,U,A,y,x⟩:=HL.out i dX;subst co;have H:=ip a.out.gr _ _ U;have d2:=ip a.out.gr _ _ A;have d3:=ip a.out.gr _ _ ej.out;have J:i<(jx p xs).length:=by have:=E.out;omega
       have I:(jx p xs)[i]=(d,j):=by rw [List.getElem?_eq_getElem J]at w;simpa using w
       have f:=ij (Bv (jx p xs) l t i J);rw [I]at f;clear w I U A;obtain⟨ao,an,ac,dC⟩:=iw a.out.row;subst dC;have ea:=iB a.out.row;subst ea;by_cases h:d=l
       ·by_cases m:j=t
        ·have c:nx (kS (jx p xs) l t (i+1))=nx (kS (jx p xs) l t i)++[(t:Int)]:=by rw [f.out,h,m];simp
         have o:=ij c;have n:=aF.out l t i (by omega) (by omega);have hle2:(nx (kS (jx p xs) l t i)).length<=2000000:=by unfold nx;rw [List.length_map];exact n
         have cd:(nx (kS (jx p xs) l t i)).length+1<=maxLen:=by unfold maxLen;omega
         have hsz:W.heap.size<=k.heap.size:=a.out.gr.size;rw [h]at H;rw [m]at d2;clear f c n h m y x;go_wp2_with (at_builtin;refine wpList_append_lies _ rfl _ _ _ rfl W.heap.size 3 i0 _ 1 8 Tryz.underlying39 dY bL cY dw rfl (by omega) (.slice ao (nx (kS (jx p xs) l t i)).length ac) (nx (kS (jx p xs) l t i)).length (iL (nx (kS (jx p xs) l t i))) rfl (iJ a.out.row) ⟨k.heap.size,0,none⟩ 1 1 [.int .i64 (t:Int)] rfl rfl (World.news_of_block (cs:= #[.int .i64 (t:Int)]) (t:=3) (fr:=(0,0)) (heap_alloc_new k _)) (by simp [Value.oneCell']) (by omega) cd (by omega) (by simp;omega) (k.heap.size+1) (by simp) ?_;intro g8 cap8 w8 L R er ah;have da:=ij L;have aq:Hid (W.grownBy w8 none):=jG (iq a.out.gr) R (fun q e=>iA a.out.row q e);clear L R er ah)
         go_roundw
         case rel=>exact⟨i+1,by omega,by go_num,⟨by rw [o.out,List.length_append];simpa [iL]using da.out,aq.out⟩⟩
         case measure=>simp [intOf];omega
        ·have c:nx (kS (jx p xs) l t (i+1))=nx (kS (jx p xs) l t i):=by rw [f.out];simp [m]
         have o:=ij c;have e2':((j:Int)==(t:Int))=false:=by simp;omega
         rw [h]at H;clear f c h m y x;go_wp2_with fail
         go_roundw
         case rel=>exact⟨i+1,by omega,by go_num,by rw [o.out];exact a.out⟩
         case measure=>simp [intOf];omega
       ·have c:nx (kS (jx p xs) l t (i+1))=nx (kS (jx p xs) l t i):=by rw [f.out];simp [h]
        have o:=ij c;have e1':((d:Int)==(l:Int))=false:=by simp;omega
        clear f c h y x;go_wp2_with fail
        go_roundw
        case rel=>exact⟨i+1,by omega,by go_num,by rw [o.out];exact a.out⟩
        case measure=>simp [intOf];omega
      ·have t4:(xs.length:Int)<=(i:Int):=by omega
       have r:Hid (kS (jx p xs) l t i=kS (jx p xs) l (t+1) 0):=wj _ _ _ _ (by rw [E.out];omega);go_wp2_with fail
       go_roundw
       case rel=>exact⟨t+1,by omega,by go_num,by rw [<-r.out];exact a.out⟩
       case measure=>simp [intOf];omega
    ·have t2:(4:Int)<=(t:Int):=by omega
     have D:t=4:=by omega
     have r:Hid (kS (jx p xs) l t 0=kS (jx p xs) (l+1) 0 0):=by unfold Hid;rw [D];exact xS _ _
     clear D;go_wp2_with fail
     go_roundw
     case rel=>exact⟨l+1,by omega,by go_num,by rw [<-r.out];exact u.out⟩
     case measure=>simp [intOf];omega
  ·have t1:(xs.length:Int)<=(l:Int):=by omega
   have n:l=xs.length:=by omega
   have r:Hid (kS (jx p xs) l 0 0=jT xs.length (jx p xs)):=by unfold Hid;rw [n];exact C1 _ _
   clear n;go_wp2_with fail
   exact HQ.out _ _ (by rw [<-r.out];exact s.out)
end
end Go.Proofs.YtklenjmfalljgabGreatDoor
