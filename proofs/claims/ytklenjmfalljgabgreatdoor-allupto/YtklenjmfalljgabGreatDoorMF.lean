/- The texts Frr Fha Fhb Fhc Frs Fhd Rdp Rfm Frt Fhe Fhf Fhg. -/
import Derived.Test.YtklenjmfalljgabGreatDoorME
import Derived.Maps.Own
import Derived.Maps.OwnOps
import Derived.Maps.Views
import Derived.DeepKeys4
import Derived.Deep.DeepCutAuto
import Derived.Sort.Grow
import Derived.Deep.Draws
import Derived.Test.YtklenjmfalljgabGreatDoorSrt
namespace Go.Proofs.YtklenjmfalljgabGreatDoor
set_option maxRecDepth 100000
set_option maxHeartbeats 8000000
section
def m9(t:Nat)(i:Ins):List(Nat × Nat × Bool):=(0,t,true)::(if i.op=9\/i.op=10 then [(2,i.a.toNat,true)]else if i.op=2 then [(1,i.b.toNat,false)]else if i.op=3 then [(1,i.a.toNat,true)]else [])
def nE(p:List(List Ins))(e:Ev):List(Nat × Nat × Bool):=m9 e.t(jq p e.t e.k)
def jU(p:List(List Ins)):List(Ev × Nat)->Nat × Nat × Bool->Nat
 | [],_=>0
 | q::r,u=>if u∈nE p q.1 then max(q.2+1)(jU p r u)else jU p r u
def kV(H:Nat × Nat × Bool->Nat):List(Nat × Nat × Bool)->Nat->Nat
 | [],n=>n
 | u::r,n=>kV H r(if u.2.2=true then max(max n(H(u.1,u.2.1,true)))(H(u.1,u.2.1,false))else max n(H(u.1,u.2.1,true)))
theorem BI {α:Type}(d:α->α->Bool)(past:List(α × Nat))(x:α)(n:Nat):jf d past x<=n↔∀ q∈past,d q.1 x=true->q.2+1<=n:=by
 constructor
 ·intro h q hq hd;exact Nat.le_trans(Db d hq hd)h
 ·exact qK d
theorem mK(p:List(List Ins))(u:Nat × Nat × Bool)(n:Nat):∀ past,jU p past u<=n↔∀ q∈past,u∈nE p q.1->q.2+1<=n
 | []=>by simp [jU]
 | q::r=>by
  have ih:=mK p u n r;unfold jU;by_cases h:u∈nE p q.1
  ·rw [if_pos h,Nat.max_le,ih];simp [h]
  ·rw [if_neg h,ih];simp [h]
theorem ti(H:Nat × Nat × Bool->Nat)(n:Nat):∀ (us:List(Nat × Nat × Bool))(m:Nat),kV H us m<=n↔m<=n/\∀ u∈us,H(u.1,u.2.1,true)<=n/\(u.2.2=true->H(u.1,u.2.1,false)<=n)
 | [],m=>by simp [kV]
 | u::r,m=>by
  unfold kV;rw [ti H n r];by_cases h:u.2.2=true
  ·rw [if_pos h,Nat.max_le,Nat.max_le];simp [h,and_assoc]
  ·rw [if_neg h,Nat.max_le];simp [h,and_assoc]
theorem sY(p:List(List Ins)) {x y:Ev}(hx:x.bad=false)(hy:y.bad=false):i6 p y x=true↔∃ u∈nE p x,(u.1,u.2.1,true)∈nE p y\/(u.2.2=true/\(u.1,u.2.1,false)∈nE p y):=by
 unfold i6 nE m9;generalize jq p x.t x.k=i;generalize jq p y.t y.k=j;by_cases i9:i.op=9\/i.op=10
 ·by_cases j9:j.op=9\/j.op=10
  ·simp [md,tou,hx,hy,i9,j9];omega
  ·by_cases j2:j.op=2
   ·have:¬(j.op=9\/j.op=10):=by omega
    simp [md,tou,hx,hy,i9,j2];omega
   ·by_cases j3:j.op=3
    ·simp [md,tou,hx,hy,i9,j3];omega
    ·simp [md,tou,hx,hy,i9,j9,j2,j3];omega
 ·by_cases i2:i.op=2
  ·by_cases j9:j.op=9\/j.op=10
   ·simp [md,tou,hx,hy,i2,j9];omega
   ·by_cases j2:j.op=2
    ·simp [md,tou,hx,hy,i2,j2];omega
    ·by_cases j3:j.op=3
     ·simp [md,tou,hx,hy,i2,j3];omega
     ·simp [md,tou,hx,hy,i2,j9,j2,j3];omega
  ·by_cases i3:i.op=3
   ·by_cases j9:j.op=9\/j.op=10
    ·simp [md,tou,hx,hy,i3,j9];omega
    ·by_cases j2:j.op=2
     ·simp [md,tou,hx,hy,i3,j2];omega
     ·by_cases j3:j.op=3
      ·simp [md,tou,hx,hy,i3,j3];omega
      ·simp [md,tou,hx,hy,i3,j9,j2,j3];omega
   ·by_cases j9:j.op=9\/j.op=10
    ·simp [md,tou,hx,hy,i9,i2,i3,j9];omega
    ·by_cases j2:j.op=2
     ·simp [md,tou,hx,hy,i9,i2,i3,j2];omega
     ·by_cases j3:j.op=3
      ·simp [md,tou,hx,hy,i9,i2,i3,j3];omega
      ·simp [md,tou,hx,hy,i9,i2,i3,j9,j2,j3];omega
theorem Bg(p:List(List Ins)) {past:List(Ev × Nat)} {x:Ev}(hx:x.bad=false)(hp:∀ q∈past,q.1.bad=false):kV(jU p past)(nE p x)0=jf(i6 p)past x:=by
 have key:∀ n,kV(jU p past)(nE p x)0<=n↔jf(i6 p)past x<=n:=by
  intro n;rw [ti,BI];constructor
  ·rintro⟨_,h⟩q hq hd;obtain⟨u,hu,h1⟩:=(sY p hx(hp q hq)).1 hd;have h2:=h u hu;rcases h1 with h1 | ⟨h1,h3⟩
   ·exact(mK p _ n past).1 h2.1 q hq h1
   ·exact(mK p _ n past).1(h2.2 h1)q hq h3
  ·intro h;refine⟨Nat.zero_le _,fun u hu=>⟨(mK p _ n past).2 fun q hq h1=> ?_,fun hw=>(mK p _ n past).2 fun q hq h1=> ?_⟩⟩
   ·exact h q hq((sY p hx(hp q hq)).2⟨u,hu,Or.inl h1⟩)
   ·exact h q hq((sY p hx(hp q hq)).2⟨u,hu,Or.inr⟨hw,h1⟩⟩)
 have h1:=(key(jf(i6 p)past x)).2(Nat.le_refl _);have h2:=(key(kV(jU p past)(nE p x)0)).1(Nat.le_refl _);omega
def mL:List(Ev × Nat)->Nat
 | []=>0
 | q::r=>max(q.2+1)(mL r)
theorem DQ(p:List(List Ins)) {past:List(Ev × Nat)} {x:Ev}(hx:x.bad=true):jf(i6 p)past x=mL past:=by
 induction past with
 | nil=>rfl
 | cons q r ih=>
  unfold jf mL;rw [if_pos(by simp [i6,hx]),ih]
theorem o9 {α:Type}(d:α->α->Bool):∀ (xs:List α)(past:List(α × Nat))(m:Nat),(∀ q∈past,q.2<m)->∀ k q,(tl d past xs)[k]?=some q->q.2<=m+k
 | [],past,m,_,k,q,h=>by simp [tl]at h
 | x::r,past,m,hm,k,q,h=>by
  have hx:jf d past x<=m:=qK d(fun y hy _=>hm y hy);cases k with
  | zero=>simp [tl]at h;subst h;exact hx
  | succ k=>
   simp only [tl,List.getElem?_cons_succ]at h;have:=o9 d r _(m+1)(fun y hy=>by
    rcases List.mem_cons.1 hy with hy | hy
    ·subst hy;simp only;omega
    ·have:=hm y hy;omega)k q h
   omega
def jS(n:Nat)(ks:List(Nat × Nat)):List(Nat × Nat):=(List.range n).flatMap fun l=>(List.range 4).flatMap fun t=>ks.filter fun k=>k.1==l && k.2==t
theorem nS {β:Type} {R:β->β->Prop} {f:Nat->List β} {n:Nat}(h1:∀ l,l<n->(f l).Pairwise R)(h2:∀ l l',l<l'->l'<n->∀ x∈f l,∀ y∈f l',R x y):((List.range n).flatMap f).Pairwise R:=by
 induction n with
 | zero=>simp
 | succ n ih=>
  rw [List.range_succ,List.flatMap_append,List.pairwise_append];refine⟨ih(fun l h=>h1 l(by omega))(fun l l' h h'=>h2 l l' h(by omega)),by simpa using h1 n(by omega),fun x hx y hy=> ?_⟩;obtain⟨l,hl,hx⟩:=List.mem_flatMap.1 hx;simp at hy hl;exact h2 l n hl(by omega)x hx y hy
theorem pX {f:Nat->List(Nat × Nat)}(q:Nat × Nat)(c:Nat):∀ {n:Nat}(_:∀ l,l<n->(f l).count q=if l=c then(f c).count q else 0),((List.range n).flatMap f).count q=if c<n then(f c).count q else 0
 | 0,_=>by simp
 | n+1,h=>by
  rw [List.range_succ,List.flatMap_append,List.count_append,pX q c(fun l hl=>h l(by omega))];have:=h n(by omega);simp only [List.flatMap_cons,List.flatMap_nil,List.append_nil,this];by_cases e:n=c
  ·subst e;simp
  ·rw [if_neg e];by_cases e2:c<n
   ·rw [if_pos e2,if_pos(by omega)];rfl
   ·rw [if_neg e2,if_neg(by omega)]
theorem sV {n:Nat} {ks:List(Nat × Nat)}(h:∀ k∈ks,k.1<n/\k.2<4):(jS n ks).Perm ks:=by
 rw [List.perm_iff_count];intro q;have aa:∀ l t,(ks.filter fun k=>k.1==l && k.2==t).count q=if l=q.1/\t=q.2 then ks.count q else 0:=by
  intro l t;by_cases e:l=q.1/\t=q.2
  ·rw [if_pos e,List.count_filter(by simp [e.1,e.2])]
  ·rw [if_neg e,List.count_eq_zero];intro hm;have:=(List.mem_filter.1 hm).2;simp at this;exact e⟨this.1.symm,this.2.symm⟩
 have h2:∀ l,((List.range 4).flatMap fun t=>ks.filter fun k=>k.1==l && k.2==t).count q=if l=q.1 then(if q.2<4 then ks.count q else 0)else 0:=by
  intro l;rw [pX q q.2(fun t _=>by rw [aa,aa];by_cases e1:l=q.1<;>by_cases e2:t=q.2<;>simp [e1,e2]),aa];by_cases e1:l=q.1<;>simp [e1]
 unfold jS;rw [pX q q.1(fun l _=>by rw [h2,h2];by_cases e1:l=q.1<;>simp [e1]),h2];simp only [if_true];by_cases hm:q∈ks
 ·have:=h q hm;rw [if_pos this.1,if_pos this.2]
 ·have:ks.count q=0:=List.count_eq_zero.2 hm;rw [this];simp
theorem rD(n:Nat)(ks:List(Nat × Nat)):(jS n ks).Pairwise leP:=by
 have hm:∀ l t x,x∈(ks.filter fun k=>k.1==l && k.2==t)->x.1=l/\x.2=t:=fun l t x hx=>by
  have:=(List.mem_filter.1 hx).2;simpa using this
 refine nS(fun l _=>nS(fun t _=> ?_)(fun t t' h _ x hx y hy=> ?_))(fun l l' h _ x hx y hy=> ?_)
 ·refine List.Pairwise.imp_of_mem(R:=fun _ _=>True)(fun {x y} hx hy _=> ?_)(List.pairwise_of_forall(fun _ _=>trivial));have h1:=hm l t x hx;have h2:=hm l t y hy;unfold leP;omega
 ·have h1:=hm l t x hx;have h2:=hm l t' y hy;unfold leP;omega
 ·obtain⟨t,_,hx⟩:=List.mem_flatMap.1 hx;obtain⟨t',_,hy⟩:=List.mem_flatMap.1 hy;have h1:=hm l t x hx;have h2:=hm l' t' y hy;unfold leP;omega
theorem vu {p:List(List Ins)} {xs:List Ev}(ht:∀ e∈xs,e.t<4):lM p xs=(jS xs.length(jt p xs)).map fun x=>(x.2:Int):=by
 unfold lM;rw [uU(sV ?_).symm(rD _ _)];intro k hk;unfold jt at hk;obtain⟨q,hq,rfl⟩:=List.mem_map.1 hk;obtain⟨j,hj,rfl⟩:=List.getElem_of_mem hq;have hj':j<xs.length:=by rwa [jy]at hj
 have:=o9(i6 p)xs []0(by simp)j _(List.getElem?_eq_getElem hj);refine⟨by simp only [zk];omega, ?_⟩;have hm:((tl(i6 p) []xs)[j]).1∈xs:=by
  have h1:((tl(i6 p) []xs)[j]).1∈(tl(i6 p) []xs).map(·.1):=List.mem_map.2⟨_,List.getElem_mem hj,rfl⟩;rwa [tG]at h1
 exact ht _ hm
end
section
open Go.RowKit Go.Maps
abbrev Use:=Nat × Nat × Bool
def vD(u:Use):Value:= .agg #[.int .i64 u.1, .int .i64 u.2.1, .bool u.2.2]
def Fz(u:Use):Lit:= .string(keyBytes [.int .i64 u.1, .int .i64 u.2.1, .bool u.2.2])
def nO(u:Use):Prop:=u.1<=1000/\u.2.1<=1000
theorem vO:Keyed Tryz.prog 240:=Keyed.of_law(deep_law_laid(by kernel_rfl)(m:=Tryz.prog.types.size+1)(of_decide_eq_true(by kernel_rfl))(of_decide_eq_true(by kernel_rfl))(by kernel_rfl)(by kernel_rfl))
theorem B7(w:World):(zeroValue 3).run Tryz.prog w= .ok(.int .i64 0)w:=by kernel_rfl
theorem s7 {n:Nat}(h:n<=1000000):(Lit.int .i64(n:Int)).wf=true:=WalkArith.wf_i64(by omega)
theorem sB {u:Use}(h:nO u):keyOf Tryz.prog 240(vD u)=some(Fz u):=by
 have k1:Tryz.prog.keyType 240=true:=by kernel_rfl
 have ab:=s7(n:=u.1)(by have:=h.1;omega);have ac:=s7(n:=u.2.1)(by have:=h.2;omega);obtain⟨m,hm⟩:∃ m,Tryz.prog.types.size+1=m+2:=⟨Tryz.prog.types.size - 1,by have:2<=Tryz.prog.types.size:=of_decide_eq_true(by kernel_rfl);omega⟩;have c1:Tryz.prog.cellsOf 240=3:=by kernel_rfl
 have c2:Tryz.prog.cellsOf 238=1:=by kernel_rfl
 have c3:Tryz.prog.cellsOf 3=1:=by kernel_rfl
 have c4:Tryz.prog.cellsOf 4=1:=by kernel_rfl
 have l1:Tryz.prog.keyLits(m+1)238 [.int .i64(u.1:Int)]=some [.int .i64(u.1:Int)]:=by
  unfold Program.keyLits;rw [Tryz.underlying238];simp only [ab,and_self,if_true]
 have l2:Tryz.prog.keyLits(m+1)3 [.int .i64(u.2.1:Int)]=some [.int .i64(u.2.1:Int)]:=by
  unfold Program.keyLits;rw [Tryz.underlying3];simp only [ac,and_self,if_true]
 have l3:Tryz.prog.keyLits(m+1)4 [.bool u.2.2]=some [.bool u.2.2]:=by
  unfold Program.keyLits;rw [Tryz.underlying4]
 have aa:Tryz.prog.keyLits(m+2)240 [.int .i64(u.1:Int), .int .i64(u.2.1:Int), .bool u.2.2]=some [.int .i64(u.1:Int), .int .i64(u.2.1:Int), .bool u.2.2]:=by
  unfold Program.keyLits;rw [Tryz.underlying240]
  simp only;rw [if_pos⟨by rw [c1];rfl,by simp⟩];simp only [List.mapM_cons,List.mapM_nil,c2,c3,c4,List.drop_zero,List.drop_succ_cons,List.take_succ_cons,List.take_zero,l1,l2,l3];rfl
 have hf:(vD u).formed Tryz.prog 240=true:=by
  unfold Value.formed vD;rw [Tryz.underlying240];simp only [c1];rfl
 unfold keyOf;rw [Tryz.underlying240];simp only [k1,hf,Bool.and_self,if_true,hm];have hc:(vD u).cells.toList= [.int .i64(u.1:Int), .int .i64(u.2.1:Int), .bool u.2.2]:=rfl;rw [hc,aa];rfl
theorem B5 {u v:Use}(hu:nO u)(hv:nO v)(h:Fz u=Fz v):u=v:=by
 have h1:=sB hu;have h2:=sB hv;rw [<-h]at h2;have:=vO.inj h1 h2;unfold vD at this;simp at this;obtain⟨u1,u2,u3⟩:=u;obtain⟨v1,v2,v3⟩:=v;simp at this ⊢;exact⟨by omega,by omega,this.2.2⟩
def HistAt(w:World)(b n:Nat)(F:Use->Nat):Prop:=
 ∃ D:DataW Unit,w.ownsMap Tryz.prog 240(plainElem Tryz.prog 3)b n D/\∀ u,nO u->D.atKey(Fz u)(.lit(.int .i64 0))= .lit(.int .i64(F u))
theorem HistAt.made(w:World):HistAt(w.alloc(.map #[]0))w.heap.size 0(fun _=>0):=⟨.map [],World.ownsMap_made _ _ _ _,fun _ _=>rfl⟩
theorem HistAt.kept {w w':World} {b n:Nat} {F:Use->Nat}(h:HistAt w b n F)(hg:w.grownBy w' none):HistAt w' b n F:=by
 obtain⟨D,h1,h2⟩:=h;exact⟨D,h1.kept hg(by simp),h2⟩
theorem HistAt.lt {w:World} {b n:Nat} {F:Use->Nat}(h:HistAt w b n F):b<w.heap.size:=by
 obtain⟨D,h1,h2⟩:=h;exact h1.lt
theorem HistAt.look {w:World} {b n:Nat} {F:Use->Nat}(h:HistAt w b n F) {u:Use}(hu:nO u):
  (Instr.lookup 205(.map(some b))(vD u)false).run Tryz.prog w= .ok(.int .i64(F u))w:=by
 obtain⟨D,h1,h2⟩:=h;obtain⟨c,hr,aa,_⟩:=h1.lookup_int vO Tryz.underlying205 Tryz.underlying3(B7 w)(sB hu);rw [h2 u hu]at aa;simp at aa;rw [hr,<-aa]
def Bn(F:Use->Nat)(u:Use)(x:Nat):Use->Nat:=fun v=>if v=u then x else F v
theorem HistAt.put {w:World} {b n:Nat} {F:Use->Nat}(h:HistAt w b n F) {u:Use}(hu:nO u) {x:Nat}(hx:x<=1000000)(hn:n<=1000000):
  ∃ w',(Instr.mapUpdate 205(.map(some b))(vD u)(.int .i64(x:Int))).run Tryz.prog w= .ok()w'/\HistAt w' b(n+1)(Bn F u x)/\w.grownBy w'(some b):=by
 obtain⟨D,h1,h2⟩:=h;obtain⟨w',hr,ho,hg⟩:=h1.update vO Tryz.underlying205(by unfold maxLen;omega)(sB hu)(plainElem_int Tryz.underlying3(s7 hx));refine⟨w',hr,⟨_,ho,fun v hv=> ?_⟩,hg⟩;unfold Bn;by_cases e:v=u
 ·subst e;rw [if_pos rfl];refine atKey_put_same ?_ ?_ _ _
  ·obtain⟨es,_,_,_,_,rfl⟩:=h1;exact⟨_,rfl⟩
  ·exact trivial
 ·rw [if_neg e,atKey_put_other(fun e2=>e(B5 hv hu e2))];exact h2 v hv
end
section
open Go.RowKit Go.Maps
attribute [local go_sem] Go.World.cell?_alloc_some
def UsesAt(w:World)(v:Value)(us:List Use):Prop:=
 ∃ g cap,v= .slice(some⟨g,0,none⟩)us.length cap/\g<w.heap.size/\∀ k(hk:k<us.length),w.cell?⟨g,k*3,none⟩=some(.int .i64(us[k].1:Int))/\w.cell?⟨g,k*3+1,none⟩=some(.int .i64(us[k].2.1:Int))/\w.cell?⟨g,k*3+2,none⟩=some(.bool us[k].2.2)
theorem UsesAt.grown {w w':World} {v:Value} {us:List Use}(h:UsesAt w v us)(hg:w.grownBy w' none):UsesAt w' v us:=by
 obtain⟨g,aa,e,hl,h2⟩:=h;refine⟨g,aa,e,Nat.lt_of_lt_of_le hl hg.size,fun k hk=> ?_⟩;obtain⟨a,b,c⟩:=h2 k hk;exact⟨ie hg _ _ a,ie hg _ _ b,ie hg _ _ c⟩
theorem C7 {W:World} {t:TypeId} {g:Nat} {u:Use}(hg:W.heap.size=g):UsesAt(W.alloc(.cells #[.int .i64(u.1:Int), .int .i64(u.2.1:Int), .bool u.2.2]t))(.slice(some⟨g,0,none⟩)1 1) [u]:=by
 subst hg;have h:=heap_alloc_new W(.cells #[.int .i64(u.1:Int), .int .i64(u.2.1:Int), .bool u.2.2]t);refine⟨W.heap.size,1,rfl,by simp,fun k hk=> ?_⟩;have aa:k=0:=by simp at hk;omega
 subst aa;simp only [World.cell?,h];exact⟨rfl,rfl,rfl⟩
theorem qH {W:World} {t:TypeId} {g:Nat} {u v:Use}(hg:W.heap.size=g):UsesAt(W.alloc(.cells #[.int .i64(u.1:Int), .int .i64(u.2.1:Int), .bool u.2.2, .int .i64(v.1:Int), .int .i64(v.2.1:Int), .bool v.2.2]t))(.slice(some⟨g,0,none⟩)2 2) [u,v]:=by
 subst hg;have h:=heap_alloc_new W(.cells #[.int .i64(u.1:Int), .int .i64(u.2.1:Int), .bool u.2.2, .int .i64(v.1:Int), .int .i64(v.2.1:Int), .bool v.2.2]t);refine⟨W.heap.size,2,rfl,by simp,fun k hk=> ?_⟩;have aa:k=0\/k=1:=by simp at hk;omega
 rcases aa with rfl | rfl
 ·simp only [World.cell?,h];exact⟨rfl,rfl,rfl⟩
 ·simp only [World.cell?,h];exact⟨rfl,rfl,rfl⟩
theorem CU(t:Nat)(i:Ins)(w:World)(ha:0<=i.a)(hb:0<=i.b):
  Calls Tryz.prog 124 #[.int .i64(t:Int), .agg #[.int .i64 i.op, .int .i64 i.a, .int .i64 i.b, .int .i64 i.n]]w fun e w'=>∃ v,e= .returned v/\UsesAt w' v(m9 t i)/\w.grownBy w' none:=by
 obtain⟨op,a,b,n⟩:=i;obtain⟨a,rfl⟩:=Int.eq_ofNat_of_zero_le ha;obtain⟨b,rfl⟩:=Int.eq_ofNat_of_zero_le hb;simp only;have HG:Hid(∀ x y z,w.grownBy(((w.alloc x).alloc y).alloc z)none):=fun x y z=>ij(ij(ij(il _ _)))
 by_cases h9:op=9\/op=10
 ·have HU:Hid(m9 t⟨op,a,b,n⟩= [(0,t,true),(2,a,true)]):=by unfold Hid m9;simp [h9]
  rcases h9 with rfl | rfl
  ·go_enter Tryz.func124,Tryz.ntmps124
   go_wp2_with fail
   go_ret;exact⟨_,rfl,by rw [HU.out];exact qH(u:=(0,t,true))(v:=(2,a,true))(by simp),HG.out _ _ _⟩
  ·go_enter Tryz.func124,Tryz.ntmps124
   go_wp2_with fail
   go_ret;exact⟨_,rfl,by rw [HU.out];exact qH(u:=(0,t,true))(v:=(2,a,true))(by simp),HG.out _ _ _⟩
 ·by_cases h2:op=2
  ·have HU:Hid(m9 t⟨op,a,b,n⟩= [(0,t,true),(1,b,false)]):=by unfold Hid m9;simp [h2]
   subst h2;go_enter Tryz.func124,Tryz.ntmps124
   go_wp2_with fail
   go_ret;exact⟨_,rfl,by rw [HU.out];exact qH(u:=(0,t,true))(v:=(1,b,false))(by simp),HG.out _ _ _⟩
  ·by_cases h3:op=3
   ·have HU:Hid(m9 t⟨op,a,b,n⟩= [(0,t,true),(1,a,true)]):=by unfold Hid m9;simp [h3]
    subst h3;go_enter Tryz.func124,Tryz.ntmps124
    go_wp2_with fail
    go_ret;exact⟨_,rfl,by rw [HU.out];exact qH(u:=(0,t,true))(v:=(1,a,true))(by simp),HG.out _ _ _⟩
   ·have HU:Hid(m9 t⟨op,a,b,n⟩= [(0,t,true)]):=by unfold Hid m9;simp [h9,h2,h3]
    have e2:(op==2)=false:=by simpa using h2
    have e3:(op==3)=false:=by simpa using h3
    have e9:(op==9)=false:=by simp;omega
    have e10:(op==10)=false:=by simp;omega
    clear h9 h2 h3;go_enter Tryz.func124,Tryz.ntmps124
    go_wp2_with fail
    go_ret;exact⟨_,rfl,by rw [HU.out];exact C7(u:=(0,t,true))(by simp),HG.out _ _ _⟩
theorem qX(F:Use->Nat)(hF:∀ u,F u<=1000):∀ (us:List Use)(n:Nat),n<=1000->kV F us n<=1000
 | [],n,h=>h
 | u::r,n,h=>by
  unfold kV;have h1:=hF(u.1,u.2.1,true);have h2:=hF(u.1,u.2.1,false);exact qX F hF r _(by split<;>omega)
theorem Fd {w:World} {b n:Nat} {F:Use->Nat}(hH:HistAt w b n F)(hF:∀ u,F u<=1000)(us:List Use)(ae:∀ u∈us,nO u)(v:Value)(hU:UsesAt w v us)(hl:us.length<=10):
  Calls Tryz.prog 125 #[.map(some b),v]w fun e w'=>e= .returned(.int .i64(kV F us 0:Nat))/\w.grownBy w' none:=by
 obtain⟨g,cap,rfl,hg,hc⟩:=hU;have HH:=hZ hH;have HF:=hZ hF;have HS:=hZ ae;have HC:=hZ hc;have hl':(us.length:Int)<=10:=by omega
 clear hH hF ae hc;go_enter Tryz.func125,Tryz.ntmps125
 go_wp2_with fail
 go_loopw [5,10](fun x i w'=>∃ k m:Nat,k<=us.length/\i= .int .i64 k/\x= .int .i64 m/\m<=1000/\Hid(w.grownBy w' none)/\Hid(kV F us 0=kV F(us.drop k)m))(fun _ i _=>us.length - (intOf i).toNat)
 case atStart=>exact⟨0,0,Nat.zero_le _,rfl,rfl,by omega,il _ _,rfl⟩
 case round=>
  obtain⟨k,m,hk,rfl,rfl,hm,HG,HA⟩:=hrel;obtain⟨w5,af⟩:∃ w5,w5=wr:=⟨_,rfl⟩;rw [<-af]at HG ⊢;clear af;by_cases ac:k<us.length
  ·obtain⟨c0,c1,c2⟩:=HC.out k ac;have d0:=ie HG.out _ _ c0;have d1:=ie HG.out _ _ c1;have d2:=ie HG.out _ _ c2;have aa:Hid(kV F us 0=kV F(us.drop(k+1))(if us[k].2.2=true then max(max m(F(us[k].1,us[k].2.1,true)))(F(us[k].1,us[k].2.1,false))else max m(F(us[k].1,us[k].2.1,true)))):=by
    unfold Hid;rw [HA.out,List.drop_eq_getElem_cons ac,kV]
   have ab:=HS.out _(List.getElem_mem ac);have ad:Hid(∀ u,w5.grownBy u none->(Instr.lookup 205(.map(some b))(.agg #[.int .i64(us[k].1:Int), .int .i64(us[k].2.1:Int), .bool true])false).run Tryz.prog u= .ok(.int .i64(F(us[k].1,us[k].2.1,true)))u):=fun u hu=>((HH.out.kept HG.out).kept hu).look(u:=(us[k].1,us[k].2.1,true))ab
   have ag:Hid(∀ u,w5.grownBy u none->(Instr.lookup 205(.map(some b))(.agg #[.int .i64(us[k].1:Int), .int .i64(us[k].2.1:Int), .bool false])false).run Tryz.prog u= .ok(.int .i64(F(us[k].1,us[k].2.1,false)))u):=fun u hu=>((HH.out.kept HG.out).kept hu).look(u:=(us[k].1,us[k].2.1,false))ab
   have hft:=HF.out(us[k].1,us[k].2.1,true);have hff:=HF.out(us[k].1,us[k].2.1,false);clear c0 c1 c2 ab HA;generalize us[k]=u at*;obtain⟨u1,u2,u3⟩:=u;simp only at*;generalize F(u1,u2,true)=ft at*;generalize F(u1,u2,false)=ff at*;have k0:(0:Int)<=(k:Int):=by omega
   have k1:(k:Int)<us.length:=by omega
   have rt:=ad.out(w5.alloc(.cells #[.int .i64(u1:Int), .int .i64(u2:Int), .bool u3]240))(ij(il _ _));have rf:=ag.out(w5.alloc(.cells #[.int .i64(u1:Int), .int .i64(u2:Int), .bool u3]240))(ij(il _ _));clear ad ag;cases u3
   ·simp only [Bool.false_eq_true,if_false]at aa;go_wp2_with fail
    go_roundw
    case rel=>exact⟨k+1,max m ft,by omega,by go_num,by congr 1;(repeat' split)<;>omega,by omega,ij HG.out,aa⟩
    case measure=>simp [intOf];omega
   ·simp only [if_true]at aa;go_wp2_with fail
    go_roundw
    case rel=>exact⟨k+1,max(max m ft)ff,by omega,by go_num,by congr 1;(repeat' split)<;>omega,by omega,ij HG.out,aa⟩
    case measure=>simp [intOf];omega
  ·have k1:(us.length:Int)<=(k:Int):=by omega
   have HE:Hid(kV F us 0=m):=by
    unfold Hid;rw [HA.out,List.drop_of_length_le(by omega)];rfl
   go_wp2_with fail
   go_ret;exact⟨by rw [HE.out];rfl,HG.out⟩
end
section
open Go.RowKit Go.Maps
attribute [local go_sem] Go.World.cell?_alloc_some
theorem HistAt.nocell {w:World} {b n:Nat} {F:Use->Nat}(h:HistAt w b n F)(o:Nat):w.cell?⟨b,o,none⟩=none:=by
 obtain⟨D,⟨es,cl,hb,_⟩,_⟩:=h;simp [World.cell?,hb]
def lj(x:Nat):List Use->(Use->Nat)->Use->Nat
 | [],F=>F
 | u::r,F=>lj x r(Bn F u(max(F u)x))
theorem rq(x:Nat):∀ (us:List Use)(F:Use->Nat)(v:Use),lj x us F v=if v∈us then max(F v)x else F v
 | [],F,v=>by simp [lj]
 | u::r,F,v=>by
  unfold lj;rw [rq x r];unfold Bn;by_cases e:v=u
  ·subst e;simp
  ·simp [e]
theorem yk(x:Nat)(us:List Use)(u:Use)(F:Use->Nat):lj x(us++ [u])F=Bn(lj x us F)u(max(lj x us F u)x):=by
 induction us generalizing F with
 | nil=>rfl
 | cons a r ih=>simp only [List.cons_append,lj];exact ih _
theorem Fq {w:World} {b n:Nat} {F:Use->Nat}(hH:HistAt w b n F)(hF:∀ u,F u<=1000)(hn:n<=100000)(us:List Use)(ar:∀ u∈us,nO u)(v:Value)(hU:UsesAt w v us)(hl:us.length<=10)(aa:Nat)(hla:aa<=900):
  Calls Tryz.prog 126 #[.map(some b),v, .int .i64(aa:Int)]w fun e w'=>(∃ v,e= .returned v)/\HistAt w' b(n+us.length)(lj(aa+1)us F)/\w.grownBy w'(some b):=by
 obtain⟨g,cap,rfl,hg,hc⟩:=hU;have HH:=hZ hH;have HF:=hZ hF;have HS:=hZ ar;have HC:=hZ hc;have hl':(us.length:Int)<=10:=by omega
 have hla':(aa:Int)<=900:=by omega
 have hla0:(0:Int)<=(aa:Int):=by omega
 have hbw:=hH.lt;clear hH hF ar hc;go_enter Tryz.func126,Tryz.ntmps126
 go_wp2_with fail
 go_loopw [10](fun i w'=>∃ k:Nat,k<=us.length/\i= .int .i64 k/\Hid(HistAt w' b(n+k)(lj(aa+1)(us.take k)F))/\Hid(w.grownBy w'(some b)))(fun i _=>us.length - (intOf i).toNat)
 case atStart=>exact⟨0,Nat.zero_le _,rfl,HH,il _ _⟩
 case round=>
  obtain⟨k,hk,rfl,HI,HG⟩:=hrel;obtain⟨w5,au⟩:∃ w5,w5=wr:=⟨_,rfl⟩;rw [<-au]at HI HG ⊢;clear au;by_cases ah:k<us.length
  ·obtain⟨c0,c1,c2⟩:=HC.out k ah;have av:g≠b:=fun e=>by
    have:=HH.out.nocell(k*3);rw [<-e,c0]at this;cases this
   have ad:=HG.out.block g hg(by simpa using av);have d0:w5.cell?⟨g,k*3,none⟩=some(.int .i64(us[k].1:Int)):=by rw [World.cell?_of_block ad];exact c0
   have d1:w5.cell?⟨g,k*3+1,none⟩=some(.int .i64(us[k].2.1:Int)):=by rw [World.cell?_of_block ad];exact c1
   have d2:w5.cell?⟨g,k*3+2,none⟩=some(.bool us[k].2.2):=by rw [World.cell?_of_block ad];exact c2
   have ao:=HS.out _(List.getElem_mem ah);have ap:Hid(lj(aa+1)(us.take(k+1))F=Bn(lj(aa+1)(us.take k)F)us[k](max(lj(aa+1)(us.take k)F us[k])(aa+1))):=by
    unfold Hid;rw [List.take_succ_eq_append_getElem ah,yk]
   have hfx:lj(aa+1)(us.take k)F us[k]<=1000:=by
    rw [rq];have:=HF.out us[k];split<;>omega
   have hbw5:=HI.out.lt;clear c0 c1 c2 ad;generalize us[k]=u at*;obtain⟨u1,u2,u3⟩:=u;simp only at d0 d1 d2;generalize lj(aa+1)(us.take k)F=G at*;generalize al:G(u1,u2,u3)=fv at*;have ax:=hZ al;clear al;have k0:(0:Int)<=(k:Int):=by omega
   have k1:(k:Int)<us.length:=by omega
   have ai:Hid(HistAt(w5.alloc(.cells #[.int .i64(u1:Int), .int .i64(u2:Int), .bool u3]240)).drew b(n+k)G):=HI.out.kept(ir(ij(il _ _)));obtain⟨w7,an,aq,ak⟩:=ai.out.put(u:=(u1,u2,u3))ao(x:=max fv(aa+1))(by omega)(by omega);have ay:Hid(HistAt w7 b(n+(k+1))(lj(aa+1)(us.take(k+1))F)):=by
    unfold Hid;rw [ap.out];exact aq
   have aw:Hid(w.grownBy w7(some b)):=ic HG.out(ic(ir(ij(il _ _)))ak);have am:(if(fv:Int)<(aa:Int)+1 then((aa:Int)+1)else(fv:Int))=((max fv(aa+1):Nat):Int):=by split<;>omega
   clear aq ak ap;have hX:(w5.alloc(.cells #[.int .i64(u1:Int), .int .i64(u2:Int), .bool u3]240)).drew.heap[w5.heap.size]?=some(.cells #[.int .i64(u1:Int), .int .i64(u2:Int), .bool u3]240):=heap_alloc_new w5 _;go_upto_region 3 with fail
   refine iu(fun u=>(u.cell?⟨w5.heap.size,0,none⟩=some(.int .i64(u1:Int))/\u.cell?⟨w5.heap.size,1,none⟩=some(.int .i64(u2:Int))/\u.cell?⟨w5.heap.size,2,none⟩=some(.bool u3))/\HistAt u b(n+k)G)8(by kernel_rfl)(by kernel_rfl)⟨⟨by simp only [World.cell?,hX];rfl,by simp only [World.cell?,hX];rfl,by simp only [World.cell?,hX];rfl⟩,ai.out⟩ ?_;intro ab;have aj:IntKind.i64.wrap((aa:Int)+1)=(aa:Int)+1:=by rw [IntKind.wrap_i64];omega
   refine hY(i:=0)(v:= ?vva0)rfl(by kernel_rfl)(fun _ _ _ h=>h)(Or.inl⟨by rfl, ?hya0⟩)ab ?resta0
   case hya0=>(rintro u⟨⟨af,ae,ag⟩,ac⟩;go_simp;try with_reducible rfl)
   simp only [Act.put,List.setIfInBounds_toArray];refine hY(i:=1)(v:= ?vva1)rfl(by kernel_rfl)(fun _ _ _ h=>h)(Or.inl⟨by rfl, ?hya1⟩)ab ?resta1
   case hya1=>(rintro u⟨⟨af,ae,ag⟩,ac⟩;go_simp;try with_reducible rfl)
   simp only [Act.put];refine hY(i:=2)(v:= ?vva2)rfl(by kernel_rfl)(fun _ _ _ h=>h)(Or.inl⟨by rfl, ?hya2⟩)ab ?resta2
   case hya2=>(rintro u⟨⟨af,ae,ag⟩,ac⟩;go_simp;try with_reducible rfl)
   simp only [Act.put];refine hY(i:=3)(v:= ?vva3)rfl(by kernel_rfl)(fun _ _ _ h=>h)(Or.inl⟨by rfl, ?hya3⟩)ab ?resta3
   case hya3=>(rintro u⟨⟨af,ae,ag⟩,ac⟩;go_simp;try with_reducible rfl)
   simp only [Act.put];refine hY(i:=4)(v:= .int .i64(fv:Int))rfl(by kernel_rfl)(fun _ _ _ h=>h)(Or.inl⟨by rfl, ?hya4⟩)ab ?resta4
   case hya4=>(rintro u⟨⟨af,ae,ag⟩,ac⟩;have hr:=ac.look(u:=(u1,u2,u3))ao;rw [ax.out]at hr;unfold vD at hr;clear ac;go_simp)
   simp only [Act.put];refine hY(i:=5)(v:= ?vva5)rfl(by kernel_rfl)(fun _ _ _ h=>h)(Or.inl⟨by rfl, ?hya5⟩)ab ?resta5
   case hya5=>(rintro u⟨⟨af,ae,ag⟩,ac⟩;go_simp;try with_reducible rfl)
   simp only [Act.put];refine hY(i:=6)(v:= .int .i64((aa:Int)+1))rfl(by kernel_rfl)(fun _ _ _ h=>h)(Or.inl⟨by rfl, ?hya6⟩)ab ?resta6
   case hya6=>(rintro u⟨⟨af,ae,ag⟩,ac⟩;go_simp;try rw [aj])
   simp only [Act.put];refine hY(i:=7)(v:= .int .i64((max fv(aa+1):Nat):Int))rfl(by kernel_rfl)(fun _ _ _ h=>h)(Or.inl⟨by rfl, ?hya7⟩)ab ?resta7
   case hya7=>(rintro u⟨⟨af,ae,ag⟩,ac⟩;clear ac;go_simp;try rw [am])
   simp only [Act.put];refine iE rfl(by kernel_rfl)(by kernel_rfl)(by rfl) ?_;unfold vD at an;go_simp;clear ab an ai aj am hX;go_wp2_with fail
   go_roundw
   case rel=>exact⟨k+1,by omega,by go_num,ay,aw⟩
   case measure=>simp [intOf];omega
  ·have k1:(us.length:Int)<=(k:Int):=by omega
   have ek:k=us.length:=by omega
   have HE:Hid(HistAt w5 b(n+us.length)(lj(aa+1)us F)):=by
    have:=HI.out;rwa [List.take_of_length_le(by omega),ek]at this
   go_wp2_with fail
   go_end0
   exact⟨⟨_,rfl⟩,HE.out,HG.out⟩
end
section
theorem rY(p:List(List Ins))(q:Ev × Nat)(u:Nat × Nat × Bool):∀ L,jU p(L++ [q])u=if u∈nE p q.1 then max(jU p L u)(q.2+1)else jU p L u
 | []=>by simp [jU]
 | y::r=>by
  simp only [List.cons_append,jU,rY p q u r];split<;>split<;>omega
theorem se(q:Ev × Nat):∀ L,mL(L++ [q])=max(mL L)(q.2+1)
 | []=>by simp [mL]
 | y::r=>by
  simp only [List.cons_append,mL,se q r];omega
theorem AX(p:List(List Ins))(xs:List Ev)(u:Nat × Nat × Bool):jU p(tl(i6 p) []xs)u<=xs.length:=by
 rw [mK];intro q hq _;obtain⟨j,hj,rfl⟩:=List.getElem_of_mem hq;have:=o9(i6 p)xs []0(by simp)j _(List.getElem?_eq_getElem hj);rw [jy]at hj;omega
theorem A7(p:List(List Ins))(xs:List Ev):mL(tl(i6 p) []xs)<=xs.length:=by
 have key:∀ (L:List(Ev × Nat))(n:Nat),(∀ q∈L,q.2+1<=n)->mL L<=n:=by
  intro L n;induction L with
  | nil=>simp [mL]
  | cons y r ih=>
   intro h;unfold mL;have h1:=h y(List.mem_cons_self ..);have h2:=ih(fun q hq=>h q(List.mem_cons_of_mem _ hq));omega
 apply key;intro q hq;obtain⟨j,hj,rfl⟩:=List.getElem_of_mem hq;have:=o9(i6 p)xs []0(by simp)j _(List.getElem?_eq_getElem hj);rw [jy]at hj;omega
theorem Gl(p:List(List Ins))(xs:List Ev)(x:Ev):jf(i6 p)(tl(i6 p) []xs)x<=xs.length:=by
 apply qK;intro q hq _;obtain⟨j,hj,rfl⟩:=List.getElem_of_mem hq;have:=o9(i6 p)xs []0(by simp)j _(List.getElem?_eq_getElem hj);rw [jy]at hj;omega
structure sf(p:List(List Ins))(o:Out)(xs:List Ev):Prop where
 ev:uE o=xs
 st:o.steps=xs.map Ev.pr
 th:∀ e∈xs,e.t<p.length/\0<=e.k/\e.k<(iL p e.t).length
 gd:∀ i(hi:i<xs.length),xs[i].bad=(decide(o.kind=1)&& decide(i+1=xs.length))
theorem tj {p:List(List Ins)}(hp:iR p=true):∀ (xs:List Ev)(s s':St),Inv p s->RunE p s xs s'->∀ e∈xs,e.t<p.length/\0<=e.k/\e.k<(iL p e.t).length
 | [],_,_,_,_,e,he=>by cases he
 | x::r,s,s',hI,⟨hx,hr⟩,e,he=>by
  obtain⟨h1,h2,h3,h4⟩:=hx;have hd:jO p s x.t=false:=by
   cases hd:jO p s x.t with
   | false=>rfl
   | true=>simp [jB,hd]at h2
  rcases List.mem_cons.1 he with he | he
  ·subst he;have hn:=hI e.t h1;have aa:s.next e.t≠((iL p e.t).length:Int):=by simpa [jO]using hd
   rw [h3]at hn aa;exact⟨h1,hn.1,by omega⟩
  ·exact tj hp r _ s'(Inv.step hp hI h1 hd)hr e he
theorem ox {p:List(List Ins)}(hp:iR p=true)(s:List Int):∃ xs,sf p(iF p s)xs:=by
 have hc:=nb p s 0 St.zero [];change ∃ xs s',RunE p St.zero xs s'/\(iF p s).steps= []++xs.map Ev.pr/\(iF p s).st=s'/\((good xs/\xs.map Ev.tI=s/\(iF p s).kind=jN p s'/\(iF p s).thread=0/\(iF p s).at_=0)\/(good xs/\(∃ u r,s=xs.map Ev.tI++u::r/\nh p s' u=false)/\(iF p s).kind=2/\(iF p s).thread=0/\(iF p s).at_=0+xs.length)\/(∃ ys z r,xs=ys++ [z]/\good ys/\z.bad=true/\s=xs.map Ev.tI++r/\(iF p s).kind=1/\(iF p s).thread=z.tI/\(iF p s).at_=z.k))at hc
 obtain⟨xs,s',hr,hs,hst,hc⟩:=hc;rw [List.nil_append]at hs;have ac:=tj hp xs St.zero s'(Inv.zero p)hr;refine⟨xs, ?_⟩;have aa:good xs->(iF p s).kind≠1->sf p(iF p s)xs:=fun g hk=>by
  refine⟨yO hk hs g,hs,ac,fun i hi=> ?_⟩;rw [g _(List.getElem_mem hi)];simp [hk]
 rcases hc with⟨g1,_,g3,_⟩ | ⟨g1,_,g3,_⟩ | ⟨us,z,r,g1,g2,g3,_,g5,_⟩
 ·exact aa g1(by have:=pF p s';omega)
 ·exact aa g1(by omega)
 ·subst g1;refine⟨Bh g5 hs g2 g3,hs,ac,fun i hi=> ?_⟩;by_cases e:i=us.length
  ·subst e;simp [g3,g5]
  ·have ab:i<us.length:=by simp at hi;omega
   rw [List.getElem_append_left ab,g2 _(List.getElem_mem ab)];simp;intro _;omega
theorem Dy {p:List(List Ins)} {o:Out} {xs:List Ev}(h:sf p o xs) {i:Nat}(hi:i<xs.length):
  jf(i6 p)(tl(i6 p) [](xs.take i))xs[i]=if o.kind=1/\i+1=xs.length then mL(tl(i6 p) [](xs.take i))else kV(jU p(tl(i6 p) [](xs.take i)))(nE p xs[i])0:=by
 have hg:=h.gd i hi;by_cases e:o.kind=1/\i+1=xs.length
 ·rw [if_pos e,DQ p(by rw [hg];simp [e])]
 ·rw [if_neg e,Bg p(by rw [hg];simp;omega)];intro q hq;have hm:q.1∈xs.take i:=by
   have h1:q.1∈(tl(i6 p) [](xs.take i)).map(·.1):=List.mem_map.2⟨q,hq,rfl⟩;rwa [tG]at h1
  obtain⟨j,hj,ab⟩:=List.getElem_of_mem hm;have hj':j<i:=by simp at hj;omega
  have aa:j<xs.length:=by omega
  have e1:q.1=xs[j]:=by rw [<-ab];simp
  rw [e1,h.gd j aa];simp;intro _;omega
theorem uJ {p:List(List Ins)} {xs:List Ev} {i:Nat}(hi:i<xs.length):tl(i6 p) [](xs.take(i+1))=tl(i6 p) [](xs.take i)++ [(xs[i],jf(i6 p)(tl(i6 p) [](xs.take i))xs[i])]:=by
 rw [List.take_succ_eq_append_getElem hi,Fi]
end
section
open Go.RowKit Go.Maps
attribute [local go_sem] Go.World.cell?_alloc_some
theorem vT {i:Ins} {len:Int}(h:lL i len=true):0<=i.a/\i.a<4/\0<=i.b/\i.b<4:=by
 obtain⟨h1,h2⟩:=vJ h;obtain⟨h3,h4,h5⟩:=sR h;have hc:i.op=1\/i.op=2\/i.op=3\/i.op=4\/i.op=5\/i.op=6\/i.op=7\/i.op=8\/i.op=9\/i.op=10\/i.op=11:=by omega
 rcases hc with e | e | e | e | e | e | e | e | e | e | e<;>rw [e]at h3 h4 h5<;>simp [shp,mw,jA]at h3 h4 h5<;>omega
theorem yT {t:Nat} {i:Ins}(ht:t<4)(ha:i.a<4)(hb:i.b<4):(∀ u∈m9 t i,nO u)/\(m9 t i).length<=10:=by
 unfold m9 nO;by_cases h9:i.op=9\/i.op=10
 ·simp [h9];omega
 ·by_cases h2:i.op=2
  ·simp [h2];omega
  ·by_cases h3:i.op=3
   ·simp [h3];omega
   ·simp [h9,h2,h3];omega
def kN(q:Nat × Nat):Int × Int:=((q.1:Int),(q.2:Int))
def nN(ks:List(Nat × Nat)):List Value:=iO(ks.map kN)
theorem A3(ks:List(Nat × Nat)):(nN ks).length=ks.length*2:=by
 induction ks with
 | nil=>rfl
 | cons x r ih=>simp only [nN,iO,List.map_cons,List.flatMap_cons,List.length_append]at*;simp at*;omega
theorem zy(ks:List(Nat × Nat))(q:Nat × Nat):nN(ks++ [q])=nN ks++ [.int .i64(q.1:Int), .int .i64(q.2:Int)]:=by
 unfold nN;rw [List.map_append,List.map_cons,List.map_nil,nu];rfl
theorem B2(L:List Value)(x y:Value)(i n:Nat)(hl:L.length=i*2)(hi:i<n):((L++List.replicate((n - i)*2)(Value.int .i64 0)).set(i*2)x).set(i*2+1)y=(L++ [x,y])++List.replicate((n - (i+1))*2)(Value.int .i64 0):=by
 obtain⟨k,hk⟩:∃ k,(n - i)*2=k+2/\(n - (i+1))*2=k:=⟨(n - (i+1))*2,by omega,rfl⟩;rw [hk.1,hk.2,List.set_append,if_neg(by omega),hl,Nat.sub_self,List.replicate_succ,List.set_cons_zero,List.set_append,if_neg(by omega),hl];have e:i*2+1 - i*2=1:=by omega
 rw [e,List.replicate_succ];simp
theorem xp:((Tryz.prog.info? 165).map fun i=>(i.zero,i.size,i.bytes))=some(some(.agg #[.int .i64 0, .int .i64 0]),2,16):=by kernel_rfl
theorem C6(n:Nat):(madeCells #[Value.int .i64 0, .int .i64 0]n).toList=List.replicate n(.int .i64 0):=by
 apply List.ext_getElem(by simp [madeCells]);intro i h1 h2;simp only [madeCells,Array.toList_map,List.getElem_map,List.getElem_replicate];have:i<n:=by simpa using h2
 simp only [Array.toList_range,List.getElem_range];rcases(by omega:i % 2=0\/i % 2=1)with h | h<;>simp [h]
theorem tS:∀ (l:List(Int × Int))(j:Nat)(hj:j<l.length),(iO l)[j*2]?=some(.int .i64 l[j].1)/\(iO l)[j*2+1]?=some(.int .i64 l[j].2)
 | [],j,hj=>by simp at hj
 | x::l,0,hj=>by simp [iO]
 | x::l,j+1,hj=>by
  have h:=tS l j(by simpa using hj);have e:iO(x::l)= [.int .i64 x.1, .int .i64 x.2]++iO l:=by simp [iO]
  have e2:∀ q,(iO(x::l))[(j+1)*2+q]?=(iO l)[j*2+q]?:=fun q=>by
   rw [e,List.getElem?_append_right(by simp;omega)];congr 1
   simp;omega
  refine⟨?_, ?_⟩
  ·have:=e2 0;simp only [Nat.add_zero]at this;rw [this];simpa using h.1
  ·rw [e2 1];simpa using h.2
theorem p9 {w:World} {base:Nat} {ao:Option Addr} {c:Nat} {xs:List Ev} {o:Out}(h:w.ownsRow base 76 2(.slice ao xs.length c)xs.length(iO o.steps))(he:o.steps=xs.map Ev.pr) {j:Nat}(hj:j<xs.length):
  ∃ g,ao=some⟨g,0,none⟩/\w.cell?⟨g,j*2,none⟩=some(.int .i64(xs[j].t:Int))/\w.cell?⟨g,j*2+1,none⟩=some(.int .i64 xs[j].k):=by
 rcases h.2 with⟨_,e⟩ | ⟨g,cap,_,e,_⟩
 ·omega
 ·simp only [Value.slice.injEq,true_and]at e;obtain⟨rfl,rfl⟩:=e;have aa:j<o.steps.length:=by rw [he];simpa using hj
  have q:=tS o.steps j aa;have e1:o.steps[j]=xs[j].pr:=by simp [he]
  rw [e1]at q;exact⟨g,rfl,by rw [h.cellAt _(by omega)];exact q.1,by rw [h.cellAt _(by omega)];exact q.2⟩
theorem zm {w:World} {ao:Option Addr} {aa:Nat} {p:List(List Ins)}(hP:ProgAt w(.agg #[.slice ao p.length aa])p) {t:Nat}(ht:t<p.length) {k:Nat}(hk:k<(iL p t).length):
  ∃ g o ca cc cg co,ao=some⟨g,o,none⟩/\ca=some⟨cg,co,none⟩/\w.cell?⟨g,o+t,none⟩=some(.slice ca(iL p t).length cc)/\w.cell?⟨cg,co+k*4,none⟩=some(.int .i64(jq p t k).op)/\w.cell?⟨cg,co+k*4+1,none⟩=some(.int .i64(jq p t k).a)/\w.cell?⟨cg,co+k*4+2,none⟩=some(.int .i64(jq p t k).b)/\w.cell?⟨cg,co+k*4+3,none⟩=some(.int .i64(jq p t k).n):=by
 obtain⟨ao',cap',e,h⟩:=hP;simp at e;obtain⟨rfl,rfl⟩:=e;obtain⟨g,o,e1,rv,c0,ca,cc,e2,h2⟩:=h t ht;have ec:=nw ht;rw [<-ec]at h2 e2;obtain⟨cg,co,e3,k0,k1,k2,k3⟩:=h2 k hk;have ei:jq p t(k:Int)=(iL p t)[k]:=by rw [mJ(by simpa using hk)];simp
 rw [ei];exact⟨g,o,ca,cc,cg,co,e1,e3,by rw [c0,e2],k0,k1,k2,k3⟩
theorem HistAt.keptRow {w w':World} {b n r:Nat} {F:Use->Nat}(h:HistAt w b n F)(hg:w.grownBy w'(some r))(hr:r≠b):HistAt w' b n F:=by
 obtain⟨D,h1,h2⟩:=h;exact⟨D,h1.kept hg(by simpa using Ne.symm hr),h2⟩
theorem HistAt.mono {w:World} {b n n':Nat} {F:Use->Nat}(h:HistAt w b n F)(hn:n<=n'):HistAt w b n' F:=by
 obtain⟨D,h1,h2⟩:=h;exact⟨D,h1.mono hn,h2⟩
theorem pM {w:World} {g o:Nat} {v:Value}:w.grownBy(w.setCell⟨g,o,none⟩v)(some g):=⟨rfl,rfl,rfl,by simp,fun k _ hk=>Below.heap_setCell _ _ _ _(by simp at hk ⊢;omega)⟩
structure Gi(p:List(List Ins))(xs:List Ev)(W w':World)(gl gm i h:Nat):Prop where
 row:w'.heap[gl]?=some(.cells(nN((tl(i6 p) [](xs.take i)).map zk)++List.replicate((xs.length - i)*2)(Value.int .i64 0)).toArray 165(0,0))
 his:HistAt w' gm(i*10)(jU p(tl(i6 p) [](xs.take i)))
 hgh:h=mL(tl(i6 p) [](xs.take i))
 gr:∀ k,k<W.heap.size->w'.heap[k]?=W.heap[k]?
 sz:W.heap.size<=w'.heap.size
 os:w'.os=W.os/\w'.tape=W.tape/\w'.output=W.output
theorem Fl {p:List(List Ins)} {o:Out} {xs:List Ev}(hp:iR p=true)(bp:sf p o xs)(h500:xs.length<=500)(w:World)(pv:Value)(hP:ProgAt w pv p)(base:Nat)(ag:Option Addr)(ae:Nat)
  (hs:w.ownsRow base 76 2(.slice ag xs.length ae)xs.length(iO o.steps))(v0 v1 v2 v3:Int)(aB:Option Addr)(gn gc:Nat):
  Calls Tryz.prog 85 #[pv, .agg #[.int .i64 o.kind, .int .i64 o.thread, .int .i64 o.at_, .slice ag xs.length ae, .int .i64 v0, .int .i64 v1, .int .i64 v2, .int .i64 v3, .slice aB gn gc]]w fun e w'=>∃ g,e= .returned(.slice(some⟨g,0,none⟩)xs.length xs.length)/\w.heap.size<=g/\w'.heap[g]?=some(.cells(nN(jt p xs)).toArray 165(0,0))/\w.grownBy w' none:=by
 obtain⟨i0,cd,bY,b3,bT⟩:=info_parts xp;obtain⟨ao,av,rfl⟩:=hP.form;have HP:=hZ hP;have HV:=hZ hp;have a7:=hZ bp;have HR:=hZ hs;have hlen:=ju hp;have q0:(xs.length:Int)<=500:=by omega
 have q1:(0:Int)<=(xs.length:Int):=by omega
 clear hP hp bp hs;go_enter Tryz.func85,Tryz.ntmps85
 go_upto_region 1 with fail
 have bt:w.grownBy((w.alloc(.cells #[.slice ao p.length av]37)).alloc(.cells #[.int .i64 o.kind, .int .i64 o.thread, .int .i64 o.at_, .slice ag xs.length ae, .int .i64 v0, .int .i64 v1, .int .i64 v2, .int .i64 v3, .slice aB gn gc]31))none:=ij(ij(il _ _));have bG:((w.alloc(.cells #[.slice ao p.length av]37)).alloc(.cells #[.int .i64 o.kind, .int .i64 o.thread, .int .i64 o.at_, .slice ag xs.length ae, .int .i64 v0, .int .i64 v1, .int .i64 v2, .int .i64 v3, .slice aB gn gc]31)).heap[w.heap.size]?=some(.cells #[.slice ao p.length av]37(0,0)):=by
  rw [Below.heap_alloc _ _ _(by simp)];exact heap_alloc_new _ _
 have a0:((w.alloc(.cells #[.slice ao p.length av]37)).alloc(.cells #[.int .i64 o.kind, .int .i64 o.thread, .int .i64 o.at_, .slice ag xs.length ae, .int .i64 v0, .int .i64 v1, .int .i64 v2, .int .i64 v3, .slice aB gn gc]31)).heap[w.heap.size+1]?=some(.cells #[.int .i64 o.kind, .int .i64 o.thread, .int .i64 o.at_, .slice ag xs.length ae, .int .i64 v0, .int .i64 v1, .int .i64 v2, .int .i64 v3, .slice aB gn gc]31(0,0)):=by
  have:=heap_alloc_new(w.alloc(.cells #[.slice ao p.length av]37))(.cells #[.int .i64 o.kind, .int .i64 o.thread, .int .i64 o.at_, .slice ag xs.length ae, .int .i64 v0, .int .i64 v1, .int .i64 v2, .int .i64 v3, .slice aB gn gc]31);simpa using this
 have aD:((w.alloc(.cells #[.slice ao p.length av]37)).alloc(.cells #[.int .i64 o.kind, .int .i64 o.thread, .int .i64 o.at_, .slice ag xs.length ae, .int .i64 v0, .int .i64 v1, .int .i64 v2, .int .i64 v3, .slice aB gn gc]31)).heap.size=w.heap.size+2:=by simp
 generalize(w.alloc(.cells #[.slice ao p.length av]37)).alloc(.cells #[.int .i64 o.kind, .int .i64 o.thread, .int .i64 o.at_, .slice ag xs.length ae, .int .i64 v0, .int .i64 v1, .int .i64 v2, .int .i64 v3, .slice aB gn gc]31)=w1 at*;have b9:=hZ bG;have cf:=hZ a0;have aF:=hZ bt;have r3:w1.cell?⟨w.heap.size+1,3,none⟩=some(.slice ag xs.length ae):=by simp [World.cell?,a0]
 clear bG a0 bt;go_upto_region 2 with(at_make;refine wpList_make_full _ rfl _ _ _ rfl w1.heap.size 165 i0 _ 2 Tryz.underlying161 cd bY b3 .i64 .i64 _ _ xs.length rfl rfl rfl rfl(by rw [bT];omega)(by unfold maxLen;omega)(by simp) ?_;intro w2 az bg)
 have ai:w2.heap[w1.heap.size]?=some(.cells(List.replicate(xs.length*2)(Value.int .i64 0)).toArray 165(0,0)):=by
  rcases az.2 with⟨e,_⟩ | ⟨g',cap',cur,hv,_,hh,_,_,hcs,htk⟩
  ·cases e
  ·simp only [Value.slice.injEq,Option.some.injEq,Addr.mk.injEq,true_and,and_true]at hv;obtain⟨rfl,rfl⟩:=hv;rw [hh];have e1:cur.toList=List.replicate(xs.length*2)(Value.int .i64 0):=by
    rw [<-C6];simp only [Value.cells]at htk;rw [<-htk,List.take_of_length_le(by simp;omega)]
   rw [<-e1]
 have a2:w1.heap.size<w2.heap.size:=(Array.getElem?_eq_some_iff.1 ai).1;have aE:Hid(w1.grownBy w2 none):=bg;have a4:=hZ ai;rw [aD]at a2 a4;clear az bg ai;have bS:= @run_makeMap Tryz.prog;have r4:w2.cell?⟨w.heap.size+1,3,none⟩=some(.slice ag xs.length ae):=ie aE.out _ _ r3;go_upto_region 4 with fail
 have H0:Hid(Gi p xs w1(w2.alloc(.map #[]0))(w.heap.size+2)w2.heap.size 0 0):=by
  refine⟨?_, ?_,rfl,fun k hk=> ?_, ?_,aE.out.os,aE.out.tape,aE.out.output⟩
  ·rw [Below.heap_alloc _ _ _ a2];simpa [tl,nN,iO]using a4.out
  ·have e:jU p(tl(i6 p) [](xs.take 0))=fun _=>0:=by funext u;simp [tl,jU]
   rw [e];have:=HistAt.made w2;simpa using this
  ·rw [Below.heap_alloc _ _ _(by have:=aE.out.size;omega)];exact aE.out.block k hk(by simp)
  ·have:=aE.out.size;simp;omega
 obtain⟨gm,bM⟩:∃ gm,gm=w2.heap.size:=⟨_,rfl⟩;obtain⟨gl,a8⟩:∃ gl,gl=w.heap.size+2:=⟨_,rfl⟩;have aR:Hid(gl=w1.heap.size/\w1.heap.size=w.heap.size+2/\gl<gm):=⟨by omega,aD,by omega⟩;rw [<-bM,<-a8]at H0 ⊢;clear bM a8 bS a2 a4 aD;go_wp2_with fail
 go_loopw [7,20](fun hv iv w'=>∃ (i h:Nat),i<=xs.length/\iv= .int .i64 i/\hv= .int .i64 h/\Hid(Gi p xs w1 w' gl gm i h))(fun _ iv _=>xs.length - (intOf iv).toNat)
 case atStart=>exact⟨0,0,Nat.zero_le _,rfl,rfl,H0⟩
 case round=>
  clear H0 r3 r4;obtain⟨i,h,hi,rfl,rfl,HI⟩:=hrel;obtain⟨w5,ba⟩:∃ w5,w5=wr:=⟨_,rfl⟩;rw [<-ba]at HI ⊢;clear ba;have aU:Hid(∀ a v,w1.cell? a=some v->w5.cell? a=some v):=fun a v hc=>by
   rw [World.cell?_of_block(HI.out.gr a.block(World.block_lt_of_cell? w1 _ hc))];exact hc
  by_cases aL:i<xs.length
  ·have aK:=List.getElem_mem aL;obtain⟨ht,bD,b8⟩:=a7.out.th _ aK;obtain⟨g,rfl,s0,s1⟩:=p9 HR.out a7.out.st aL;obtain⟨kn,a9⟩:=Int.eq_ofNat_of_zero_le bD;have bq:kn<(iL p xs[i].t).length:=by omega
   obtain⟨pg,po,ca,cc,cg,co,rfl,rfl,m0,m1,m2,m3,m4⟩:=zm HP.out ht bq;have bv:=mh HV.out ht(k:=(kn:Int))(by simpa using bq);obtain⟨bF,bo,bJ,bC⟩:=vT bv;obtain⟨bn,bA⟩:=yT(t:=xs[i].t)(i:=jq p xs[i].t kn)(by omega)bo bC;have bN:Hid(nE p xs[i]=m9 xs[i].t(jq p xs[i].t kn)):=by unfold Hid nE;rw [a9]
   have aN:=hZ(Dy a7.out aL);rw [bN.out]at aN;have bW:=hZ(uJ(p:=p)aL);have bu:=b9.out;have aY:=cf.out;have up:∀ a v,w.cell? a=some v->w5.cell? a=some v:=fun a v hc=>aU.out _ _(ie aF.out _ _ hc)
   have b7:=up _ _ s0;have bz:=up _ _ s1;have bf:=up _ _ m0;have bb:=up _ _ m1;have bi:=up _ _ m2;have bE:=up _ _ m3;have bw:=up _ _ m4;rw [a9]at bz;have n0:w5.cell?⟨w.heap.size,0,none⟩=some(.slice(some⟨pg,po,none⟩)p.length av):=aU.out _ _(by simp [World.cell?,bu]);have n1:w5.cell?⟨w.heap.size+1,0,none⟩=some(.int .i64 o.kind):=aU.out _ _(by simp [World.cell?,aY]);have n3:w5.cell?⟨w.heap.size+1,3,none⟩=some(.slice(some⟨g,0,none⟩)xs.length ae):=aU.out _ _(by simp [World.cell?,aY]);have bk:=hZ(fun u:World=>CU xs[i].t(jq p xs[i].t kn)u bF bJ);have HTB:Hid(xs[i].t<4):=by unfold Hid;omega
   have hcl:(iL p xs[i].t).length<=16:=lh(kl HV.out ht);clear s0 s1 m0 m1 m2 m3 m4 bv bu aY up bD b8 aK bF bo bJ bC;generalize ce:jq p xs[i].t(kn:Int)=ix at*;generalize cb:(iL p xs[i].t).length=cl at*;generalize bR:m9 xs[i].t ix=us at*;generalize hxi:xs[i]=x at*;obtain⟨xt,xk,xb⟩:=x;simp only at*;clear ce cb bR;have t0:(0:Int)<=(i:Int):=by omega
   have t1:(i:Int)<xs.length:=by omega
   have t2:(0:Int)<=(xt:Int):=by omega
   have t3:(xt:Int)<p.length:=by omega
   have t4:(0:Int)<=(kn:Int):=by omega
   have t5:(kn:Int)<cl:=by omega
   go_upto_region 7 with fail
   have hX:=heap_alloc_new w5(.cells #[.int .i64(xt:Int), .int .i64(kn:Int)]76);have aA:w5.grownBy(w5.alloc(.cells #[.int .i64(xt:Int), .int .i64(kn:Int)]76))none:=ij(il _ _);have bx:(w5.alloc(.cells #[.int .i64(xt:Int), .int .i64(kn:Int)]76)).heap.size=w5.heap.size+1:=by simp
   generalize w5.alloc(.cells #[.int .i64(xt:Int), .int .i64(kn:Int)]76)=w6 at*;have b0:w6.cell?⟨w5.heap.size,0,none⟩=some(.int .i64(xt:Int)):=by simp only [World.cell?,hX];rfl
   have b1:w6.cell?⟨w5.heap.size,1,none⟩=some(.int .i64(kn:Int)):=by simp only [World.cell?,hX];rfl
   have bU:=hZ hX;have bQ:=hZ aA;have ch:=hZ bx;have am:w6.drew.cell?⟨w5.heap.size,0,none⟩=some(.int .i64(xt:Int))/\w6.drew.cell?⟨w5.heap.size,1,none⟩=some(.int .i64(kn:Int))/\w6.drew.cell?⟨w.heap.size,0,none⟩=some(.slice(some⟨pg,po,none⟩)p.length av)/\w6.drew.cell?⟨pg,po+xt,none⟩=some(.slice(some⟨cg,co,none⟩)cl cc)/\w6.drew.cell?⟨cg,co+kn*4,none⟩=some(.int .i64 ix.op)/\w6.drew.cell?⟨cg,co+kn*4+1,none⟩=some(.int .i64 ix.a)/\w6.drew.cell?⟨cg,co+kn*4+2,none⟩=some(.int .i64 ix.b)/\w6.drew.cell?⟨cg,co+kn*4+3,none⟩=some(.int .i64 ix.n):=
    ⟨b0,b1,ie aA _ _ n0,ie aA _ _ bf,ie aA _ _ bb,ie aA _ _ bi,ie aA _ _ bE,ie aA _ _ bw⟩
   clear hX bx aA b0 b1;refine iu(fun u=>u.cell?⟨w5.heap.size,0,none⟩=some(.int .i64(xt:Int))/\u.cell?⟨w5.heap.size,1,none⟩=some(.int .i64(kn:Int))/\u.cell?⟨w.heap.size,0,none⟩=some(.slice(some⟨pg,po,none⟩)p.length av)/\u.cell?⟨pg,po+xt,none⟩=some(.slice(some⟨cg,co,none⟩)cl cc)/\u.cell?⟨cg,co+kn*4,none⟩=some(.int .i64 ix.op)/\u.cell?⟨cg,co+kn*4+1,none⟩=some(.int .i64 ix.a)/\u.cell?⟨cg,co+kn*4+2,none⟩=some(.int .i64 ix.b)/\u.cell?⟨cg,co+kn*4+3,none⟩=some(.int .i64 ix.n))13(by kernel_rfl)(by kernel_rfl)am ?_;intro aa;refine hY(i:=0)(v:= ?vva0)rfl(by kernel_rfl)(fun _ _ _ h=>h)(Or.inl⟨by rfl, ?hya0⟩)aa ?resta0
   case hya0=>(rintro u⟨ak,aj,ap,aq,al,an,ar,au⟩;go_simp;try with_reducible rfl)
   simp only [Act.put,List.setIfInBounds_toArray];refine hY(i:=1)(v:= ?vva1)rfl(by kernel_rfl)(fun _ _ _ h=>h)(Or.inl⟨by rfl, ?hya1⟩)aa ?resta1
   case hya1=>(rintro u⟨ak,aj,ap,aq,al,an,ar,au⟩;go_simp;try with_reducible rfl)
   simp only [Act.put];refine hY(i:=2)(v:= ?vva2)rfl(by kernel_rfl)(fun _ _ _ h=>h)(Or.inl⟨by rfl, ?hya2⟩)aa ?resta2
   case hya2=>(rintro u⟨ak,aj,ap,aq,al,an,ar,au⟩;go_simp;try with_reducible rfl)
   simp only [Act.put];refine hY(i:=3)(v:= ?vva3)rfl(by kernel_rfl)(fun _ _ _ h=>h)(Or.inl⟨by rfl, ?hya3⟩)aa ?resta3
   case hya3=>(rintro u⟨ak,aj,ap,aq,al,an,ar,au⟩;go_simp;try with_reducible rfl)
   simp only [Act.put];refine hY(i:=4)(v:= ?vva4)rfl(by kernel_rfl)(fun _ _ _ h=>h)(Or.inl⟨by rfl, ?hya4⟩)aa ?resta4
   case hya4=>(rintro u⟨ak,aj,ap,aq,al,an,ar,au⟩;go_simp;try with_reducible rfl)
   simp only [Act.put];refine hY(i:=5)(v:= ?vva5)rfl(by kernel_rfl)(fun _ _ _ h=>h)(Or.inl⟨by rfl, ?hya5⟩)aa ?resta5
   case hya5=>(rintro u⟨ak,aj,ap,aq,al,an,ar,au⟩;go_simp;try with_reducible rfl)
   simp only [Act.put];refine hY(i:=6)(v:= ?vva6)rfl(by kernel_rfl)(fun _ _ _ h=>h)(Or.inl⟨by rfl, ?hya6⟩)aa ?resta6
   case hya6=>(rintro u⟨ak,aj,ap,aq,al,an,ar,au⟩;go_simp;try with_reducible rfl)
   simp only [Act.put];refine hY(i:=7)(v:= ?vva7)rfl(by kernel_rfl)(fun _ _ _ h=>h)(Or.inl⟨by rfl, ?hya7⟩)aa ?resta7
   case hya7=>(rintro u⟨ak,aj,ap,aq,al,an,ar,au⟩;go_simp;try with_reducible rfl)
   simp only [Act.put];refine hY(i:=8)(v:= ?vva8)rfl(by kernel_rfl)(fun _ _ _ h=>h)(Or.inl⟨by rfl, ?hya8⟩)aa ?resta8
   case hya8=>(rintro u⟨ak,aj,ap,aq,al,an,ar,au⟩;go_simp;try with_reducible rfl)
   simp only [Act.put];refine hY(i:=9)(v:= ?vva9)rfl(by kernel_rfl)(fun _ _ _ h=>h)(Or.inl⟨by rfl, ?hya9⟩)aa ?resta9
   case hya9=>(rintro u⟨ak,aj,ap,aq,al,an,ar,au⟩;go_simp;try with_reducible rfl)
   simp only [Act.put];refine hY(i:=10)(v:= ?vva10)rfl(by kernel_rfl)(fun _ _ _ h=>h)(Or.inl⟨by rfl, ?hya10⟩)aa ?resta10
   case hya10=>(rintro u⟨ak,aj,ap,aq,al,an,ar,au⟩;go_simp;try with_reducible rfl)
   simp only [Act.put];refine hY(i:=11)(v:= ?vva11)rfl(by kernel_rfl)(fun _ _ _ h=>h)(Or.inl⟨by rfl, ?hya11⟩)aa ?resta11
   case hya11=>(rintro u⟨ak,aj,ap,aq,al,an,ar,au⟩;go_simp;try with_reducible rfl)
   simp only [Act.put];refine ip(i:=12)rfl(by kernel_rfl)(by kernel_rfl)(by rfl) ?_;intro K12 aQ;have aM:=hZ aQ;clear aQ;go_simp;refine(bk.out _).mono ?_;rintro e w7⟨uv,rfl,br,ac⟩;have aO:Hid(w6.grownBy w7 none):=⟨ac.os,ac.tape,ac.output,ac.size,ac.block⟩;refine aM.out _ _⟨ie ac _ _ aa.1,ie ac _ _ aa.2.1,ie ac _ _ aa.2.2.1,ie ac _ _ aa.2.2.2.1,ie ac _ _ aa.2.2.2.2.1,ie ac _ _ aa.2.2.2.2.2.1,ie ac _ _ aa.2.2.2.2.2.2.1,ie ac _ _ aa.2.2.2.2.2.2.2⟩ ?_;clear aM ac aa am bk;try simp only [Act.put,List.setIfInBounds_toArray]
   refine iE rfl(by kernel_rfl)(by kernel_rfl)(by rfl) ?_;go_simp;have aP:us.length<=10:=bA;have aS:=hZ br;have aw:Hid(w5.grownBy w7 none):=ic bQ.out aO.out;have a5:Hid(HistAt w7 gm(i*10)(jU p(tl(i6 p) [](xs.take i)))):=HI.out.his.kept aw.out;have a6:∀ u,jU p(tl(i6 p) [](xs.take i))u<=1000:=fun u=>by have:=AX p(xs.take i)u;simp at this;omega
   have bL:=hZ a6;have bm:=hZ bn;have hhi:h<=500:=by rw [HI.out.hgh];have:=A7 p(xs.take i);simp at this;omega
   have b6:Hid(jf(i6 p)(tl(i6 p) [](xs.take i))⟨xt,xk,xb⟩<=500):=by
    unfold Hid;have:=Gl p(xs.take i)⟨xt,xk,xb⟩;simp at this;omega
   have b5:Hid(kV(jU p(tl(i6 p) [](xs.take i)))us 0<=1000):=qX _ a6 us 0(by omega);have bj:=ie aw.out _ _ n1;have bh:=ie aw.out _ _ n3;clear br bn bA a6 n0 n1 n3 bf bb bi bE bw b7 bz;obtain⟨ug,uc,b2⟩:∃ ug uc,uv= .slice(some⟨ug,0,none⟩)us.length uc:=by
    obtain⟨ug,uc,e,_⟩:=aS.out;exact⟨ug,uc,e⟩
   subst b2;go_wp2_with fail
   refine(Fd a5.out bL.out us bm.out _ aS.out aP).mono ?_;rintro e w8⟨rfl,aT⟩;have ay:=hZ aT;have k1:=ie aT _ _ bj;have k3:=ie aT _ _ bh;clear aT bj bh;generalize bH:jf(i6 p)(tl(i6 p) [](xs.take i))⟨xt,xk,xb⟩=lx at*;generalize bV:kV(jU p(tl(i6 p) [](xs.take i)))us 0=ah at*;have HLX:=hZ bH;have bO:=hZ HI.out.hgh;rw [<-bO.out]at aN;have hah0:(ah:Int)<=1000:=by have:=b5.out;omega
   clear bH bV;go_upto_region 9 with fail
   obtain⟨bl,bd⟩:∃ bl:Bool,bl=decide(o.kind=1/\i+1=xs.length):=⟨_,rfl⟩;have aJ:=hZ bd;clear bd;go_cut [52](fun q w'=>q= .bool bl/\w'=w8)
   case first=>
    by_cases e1:i+1=xs.length
    ·have e3:(xs.length:Int) - 1=(i:Int):=by omega
     by_cases e2:o.kind=1
     ·have hb:bl=true:=by rw [aJ.out];simp [e1,e2]
      rw [e2]at k1;go_wp2_with fail
      all_goals first | (go_meet;exact⟨by rw [hb],rfl⟩) | (exfalso;omega)
     ·have hb:bl=false:=by rw [aJ.out];simp [e2]
      have hb2:(o.kind==1)=false:=by simpa using e2
      go_wp2_with fail
      all_goals first | (go_meet;exact⟨by rw [hb],rfl⟩) | (exfalso;omega)
    ·have hb:bl=false:=by rw [aJ.out];simp [e1]
     have e3:(i:Int)<(xs.length:Int) - 1:=by omega
     have e4:((i:Int)==(xs.length:Int) - 1)=false:=by simp;omega
     go_wp2_with fail
     all_goals first | (go_meet;exact⟨by rw [hb],rfl⟩) | (exfalso;omega)
   case rest=>
   obtain⟨rfl,aZ⟩:=hcut;have aG:=aZ.symm;subst aG;go_upto_if 52 with fail
   go_cut [11](fun q w'=>q= .int .i64(lx:Int)/\w'=w8)
   case first=>
    cases bl with
    | true=>
     have hl:lx=h:=by rw [aN.out,if_pos(by have:=aJ.out.symm;simpa using this)]
     go_wp2_with fail
     go_meet
     exact⟨by rw [hl],rfl⟩
    | false=>
     have hl:lx=ah:=by rw [aN.out,if_neg(by have:=aJ.out.symm;simpa using this)]
     go_wp2_with fail
     go_meet
     exact⟨by rw [hl],rfl⟩
   case rest=>
   obtain⟨rfl,aZ⟩:=hcut;have aG:=aZ.symm;subst aG;clear aN aJ;have aW:lx<=900:=by have:=b6.out;omega
   have hlx':(lx:Int)<=900:=by omega
   have hlx0:(0:Int)<=(lx:Int):=by omega
   have hh':(h:Int)<=500:=by omega
   have hh0:(0:Int)<=(h:Int):=by omega
   have bB:Hid(HistAt w8 gm(i*10)(jU p(tl(i6 p) [](xs.take i)))):=a5.out.kept ay.out;have bc:Hid(UsesAt w8(.slice(some⟨ug,0,none⟩)us.length uc)us):=aS.out.grown ay.out;have ab:Hid(w5.grownBy w8 none):=ic aw.out ay.out;go_wp2_with fail
   refine(Fq bB.out bL.out(by omega)us bm.out _ bc.out aP lx aW).mono ?_;rintro e w9⟨⟨rv9,rfl⟩,be,ax⟩;have hgm5:gm<w5.heap.size:=HI.out.his.lt;have bK:w9.heap[w5.heap.size]?=some(.cells #[.int .i64(xt:Int), .int .i64(kn:Int)]76(0,0)):=by
    have bI:=ic aO.out ay.out;have hs:=ch.out;rw [ax.block _(by have:=bI.size;omega)(by simp;omega),bI.block _(by omega)(by simp)];exact bU.out
   have aC:w9.heap[gl]?=some(.cells(nN((tl(i6 p) [](xs.take i)).map zk)++List.replicate((xs.length - i)*2)(Value.int .i64 0)).toArray 165(0,0)):=by
    have a3:=(Array.getElem?_eq_some_iff.1 HI.out.row).1;rw [ax.block _(by have:=ab.out.size;omega)(by have:=aR.out;simp;omega),ab.out.block _ a3(by simp)];exact HI.out.row
   have b4:=hZ aC;have y0:w9.cell?⟨w5.heap.size,0,none⟩=some(.int .i64(xt:Int)):=by simp [World.cell?,bK]
   obtain⟨R,hR⟩:∃ R:List Value,R=nN((tl(i6 p) [](xs.take i)).map zk)++List.replicate((xs.length - i)*2)(Value.int .i64 0):=⟨_,rfl⟩;have aH:(nN((tl(i6 p) [](xs.take i)).map zk)).length=i*2:=by
    rw [A3,List.length_map,jy];simp;omega
   have bP:R.length=xs.length*2:=by rw [hR,List.length_append,aH,List.length_replicate];omega
   rw [<-hR]at aC;obtain⟨z0,hz0'⟩:∃ z,w9.cell?⟨gl,i*2,none⟩=some z:=⟨R[i*2]'(by omega),by simp only [World.cell?,aC];simp⟩;obtain⟨z1,hz1'⟩:∃ z,(w9.setCell⟨gl,i*2,none⟩(.int .i64(lx:Int))).cell?⟨gl,i*2+1,none⟩=some z:=by
    have af:=heap_setCell_same w9 gl(i*2)_ _(.int .i64(lx:Int))aC;exact⟨_,by simp only [World.cell?,af];exact Array.getElem?_eq_getElem(by simp;omega)⟩
   have fz0:w9.frozen?⟨gl,i*2,none⟩=false:=by simp [World.frozen?,aC]
   have fz1:(w9.setCell⟨gl,i*2,none⟩(.int .i64(lx:Int))).frozen?⟨gl,i*2+1,none⟩=false:=by
    have af:=heap_setCell_same w9 gl(i*2)_ _(.int .i64(lx:Int))aC;simp [World.frozen?,af]
   have aX:Hid(Gi p xs w1((w9.setCell⟨gl,i*2,none⟩(.int .i64(lx:Int))).setCell⟨gl,i*2+1,none⟩(.int .i64(xt:Int)))gl gm(i+1)(max h(lx+1))):=by
    have aI:=bW.out;have ad:w9.grownBy((w9.setCell⟨gl,i*2,none⟩(.int .i64(lx:Int))).setCell⟨gl,i*2+1,none⟩(.int .i64(xt:Int)))(some gl):=ic pM pM;have a1:=aR.out;have hs5:=HI.out.sz;refine⟨?_, ?_, ?_,fun k hk=> ?_, ?_, ?_⟩
    ·have af:=heap_setCell_same w9 gl(i*2)_ _(.int .i64(lx:Int))b4.out;have aV:=heap_setCell_same _ gl(i*2+1)_ _(.int .i64(xt:Int))af;rw [aV];simp only [List.setIfInBounds_toArray];rw [B2 _ _ _ i xs.length aH aL,aI,List.map_append,List.map_cons,List.map_nil,zy];rfl
    ·have h9:=(be.keptRow ad(by omega)).mono(n':=(i+1)*10)(by omega);have e:lj(lx+1)us(jU p(tl(i6 p) [](xs.take i)))=jU p(tl(i6 p) [](xs.take(i+1))):=by
      funext u
      rw [rq,aI,rY,bN.out]
     rw [e]at h9;exact h9
    ·rw [aI,se,<-bO.out]
    ·rw [ad.block k(by have:=ax.size;have:=ab.out.size;omega)(by simp;omega),ax.block k(by have:=ab.out.size;omega)(by simp;omega),ab.out.block k(by omega)(by simp)];exact HI.out.gr k hk
    ·have h1:=ad.size;have h2:=ax.size;have h3:=ab.out.size;omega
    ·exact⟨ad.os.trans(ax.os.trans(ab.out.os.trans HI.out.os.1)),ad.tape.trans(ax.tape.trans(ab.out.tape.trans HI.out.os.2.1)),ad.output.trans(ax.output.trans(ab.out.output.trans HI.out.os.2.2))⟩
   have hne:gl≠w5.heap.size:=by have:=(Array.getElem?_eq_some_iff.1 HI.out.row).1;omega
   clear aC bK hR bP aH be ax bB bc k1 k3 a5 aS;go_wp2_with fail
   go_roundw
   case rel=>exact⟨i+1,max h(lx+1),by omega,by go_num,by congr 1;(repeat' split)<;>omega,aX⟩
   case measure=>simp [intOf];omega
  ·have t1:(xs.length:Int)<=(i:Int):=by omega
   have ei:i=xs.length:=by omega
   have bX:Hid(w5.heap[gl]?=some(.cells(nN(jt p xs)).toArray 165(0,0))):=by
    have:=HI.out.row;rw [ei,List.take_length,Nat.sub_self]at this;unfold Hid jt;simpa using this
   have bZ:Hid(w.grownBy w5 none):=by
    have a1:=aR.out;refine⟨HI.out.os.1.trans aF.out.os,HI.out.os.2.1.trans aF.out.tape,HI.out.os.2.2.trans aF.out.output,Nat.le_trans aF.out.size HI.out.sz,fun k hk _=> ?_⟩;rw [HI.out.gr k(Nat.lt_of_lt_of_le hk aF.out.size)];exact aF.out.block k hk(by simp)
   have a1:w.heap.size<=gl:=by have:=aR.out;omega
   go_wp2_with fail
   go_ret;exact⟨gl,rfl,a1,bX.out,bZ.out⟩
end
section
open Go.RowKit
attribute [local go_sem] Go.World.cell?_alloc_some
def oh(i j:Ins):Bool:=
 if(i.op=9\/i.op=10)/\(j.op=9\/j.op=10)then i.a==j.a
 else if i.op=3/\j.op=3 then i.a==j.a
 else if i.op=3/\j.op=2 then i.a==j.b
 else if i.op=2/\j.op=3 then i.b==j.a
 else false
theorem zi {i j:Ins}(h1:0<=i.a)(h2:0<=i.b)(h3:0<=j.a)(h4:0<=j.b):oh i j=md(tou i)(tou j):=by
 unfold oh md tou;rw [Bool.eq_iff_iff];by_cases i9:i.op=9\/i.op=10
 ·by_cases j9:j.op=9\/j.op=10
  ·simp [i9,j9];omega
  ·have n3:¬i.op=3:=by omega
   have n2:¬i.op=2:=by omega
   by_cases j2:j.op=2
   ·simp [i9,n3,n2,j2]
   ·by_cases j3:j.op=3
    ·simp [i9,n3,n2,j3]
    ·simp [i9,n3,n2,j9,j2,j3]
 ·by_cases i2:i.op=2
  ·by_cases j9:j.op=9\/j.op=10
   ·have m3:¬j.op=3:=by omega
    simp [i2,j9,m3]
   ·by_cases j2:j.op=2
    ·simp [i2,j2]
    ·by_cases j3:j.op=3
     ·simp [i2,j3];omega
     ·simp [i2,j9,j2,j3]
  ·by_cases i3:i.op=3
   ·by_cases j9:j.op=9\/j.op=10
    ·have m3:¬j.op=3:=by omega
     have m2:¬j.op=2:=by omega
     simp [i3,j9,m3,m2]
    ·by_cases j2:j.op=2
     ·simp [i3,j2];omega
     ·by_cases j3:j.op=3
      ·simp [i3,j3];omega
      ·simp [i3,j9,j2,j3]
   ·simp [i9,i2,i3]
theorem rS {w:World} {g:Nat} {x0 x1 x2 x3:Value} {t:TypeId}(h:w.heap[g]?=some(.cells #[x0,x1,x2,x3]t(0,0))):
  w.cell?⟨g,0,none⟩=some x0/\w.cell?⟨g,1,none⟩=some x1/\w.cell?⟨g,2,none⟩=some x2/\w.cell?⟨g,3,none⟩=some x3/\w.frozen?⟨g,0,none⟩=false/\w.frozen?⟨g,1,none⟩=false/\w.frozen?⟨g,2,none⟩=false/\w.frozen?⟨g,3,none⟩=false:=by
 simp [World.cell?,World.frozen?,h]
theorem Di {p:List(List Ins)}(w:World)(pv:Value)(hP:ProgAt w pv p)(_hp:p.length<=4)(t1 k1 t2 k2:Nat)(h1:t1<p.length)(h2:k1<(iL p t1).length)(h3:t2<p.length)(h4:k2<(iL p t2).length)(_hl1:(iL p t1).length<=16)(_hl2:(iL p t2).length<=16):
  Calls Tryz.prog 88 #[pv, .agg #[.int .i64(t1:Int), .int .i64(k1:Int)], .agg #[.int .i64(t2:Int), .int .i64(k2:Int)]]w fun e w'=>e= .returned(.bool(t1==t2 || oh(jq p t1 k1)(jq p t2 k2)))/\w.grownBy w' none:=by
 obtain⟨ao,am,rfl⟩:=hP.form;obtain⟨pg,po,ca,cc,cg,co,rfl,rfl,m0,m1,m2,m3,m4⟩:=zm hP h1 h2;obtain⟨pg',po',da,dc,dg,dq,he,rfl,n0,n1,n2,n3,n4⟩:=zm hP h3 h4;simp only [Option.some.injEq,Addr.mk.injEq,and_true]at he;obtain⟨rfl,rfl⟩:=he;have HM:=hZ(an.intro m0(an.intro m1(an.intro m2(an.intro m3 m4))));have HN:=hZ(an.intro n0(an.intro n1(an.intro n2(an.intro n3 n4))));clear m0 m1 m2 m3 m4 n0 n1 n2 n3 n4 hP;generalize hcl:(iL p t1).length=cl at*;generalize aG:(iL p t2).length=dl at*;generalize aM:jq p t1(k1:Int)=i at*;generalize aL:jq p t2(k2:Int)=j at*;clear hcl aG aM aL;have q1:(t1:Int)<p.length:=by omega
 have q2:(k1:Int)<cl:=by omega
 have q3:(t2:Int)<p.length:=by omega
 have q4:(k2:Int)<dl:=by omega
 have q5:(0:Int)<=(t1:Int):=by omega
 have q6:(0:Int)<=(k1:Int):=by omega
 have q7:(0:Int)<=(t2:Int):=by omega
 have q8:(0:Int)<=(k2:Int):=by omega
 have HA:Hid(∀ a b c,w.grownBy(((w.alloc a).alloc b).alloc c)none):=fun a b c=>ij(ij(ij(il _ _)))
 by_cases ht:t1=t2
 ·subst ht;go_enter Tryz.func88,Tryz.ntmps88
  go_wp2_with fail
  go_ret;exact⟨by simp,HA.out _ _ _⟩
 ·have hti:((t1:Int)==(t2:Int))=false:=by simp;omega
  have HT:Hid((t1==t2)=false):=by unfold Hid;simpa using ht
  clear ht;go_enter Tryz.func88,Tryz.ntmps88
  go_upto_region 3 with fail
  obtain⟨w3,aq⟩:∃ w3,w3=((w.alloc(.cells #[.slice(some⟨pg,po,none⟩)p.length am]37)).alloc(.cells #[.int .i64(t1:Int), .int .i64(k1:Int)]76)).alloc(.cells #[.int .i64(t2:Int), .int .i64(k2:Int)]76):=⟨_,rfl⟩;have az:Hid(w.grownBy w3 none):=by unfold Hid;rw [aq];exact HA.out _ _ _
  have aH:w3.heap.size=w.heap.size+3:=by rw [aq];simp
  have b0:w3.heap[w.heap.size]?=some(.cells #[.slice(some⟨pg,po,none⟩)p.length am]37(0,0)):=by
   rw [aq,Below.heap_alloc _ _ _(by simp;omega),Below.heap_alloc _ _ _(by simp)];exact heap_alloc_new _ _
  have b1:w3.heap[w.heap.size+1]?=some(.cells #[.int .i64(t1:Int), .int .i64(k1:Int)]76(0,0)):=by
   rw [aq,Below.heap_alloc _ _ _(by simp)];have:=heap_alloc_new(w.alloc(.cells #[.slice(some⟨pg,po,none⟩)p.length am]37))(.cells #[.int .i64(t1:Int), .int .i64(k1:Int)]76);simpa using this
  have b2:w3.heap[w.heap.size+2]?=some(.cells #[.int .i64(t2:Int), .int .i64(k2:Int)]76(0,0)):=by
   have:=heap_alloc_new((w.alloc(.cells #[.slice(some⟨pg,po,none⟩)p.length am]37)).alloc(.cells #[.int .i64(t1:Int), .int .i64(k1:Int)]76))(.cells #[.int .i64(t2:Int), .int .i64(k2:Int)]76);rw [aq];simpa using this
  rw [<-aq];clear aq;have ax:Hid(∀ u,w3.grownBy u none->u.cell?⟨w.heap.size+1,0,none⟩=some(.int .i64(t1:Int))/\u.cell?⟨w.heap.size+1,1,none⟩=some(.int .i64(k1:Int))/\u.cell?⟨w.heap.size,0,none⟩=some(.slice(some⟨pg,po,none⟩)p.length am)/\u.cell?⟨pg,po+t1,none⟩=some(.slice(some⟨cg,co,none⟩)cl cc)/\u.cell?⟨cg,co+k1*4,none⟩=some(.int .i64 i.op)/\u.cell?⟨cg,co+k1*4+1,none⟩=some(.int .i64 i.a)/\u.cell?⟨cg,co+k1*4+2,none⟩=some(.int .i64 i.b)/\u.cell?⟨cg,co+k1*4+3,none⟩=some(.int .i64 i.n)):=fun u hu=>by
   have up:∀ x v,w.cell? x=some v->u.cell? x=some v:=fun x v h=>ie(ic az.out hu)_ _ h
   have bl:∀ k,k<w3.heap.size->u.heap[k]?=w3.heap[k]?:=fun k hk=>hu.block k hk(by simp)
   refine⟨?_, ?_, ?_,up _ _ HM.out.1,up _ _ HM.out.2.1,up _ _ HM.out.2.2.1,up _ _ HM.out.2.2.2.1,up _ _ HM.out.2.2.2.2⟩
   ·simp only [World.cell?,bl _(by omega:w.heap.size+1<w3.heap.size),b1];rfl
   ·simp only [World.cell?,bl _(by omega:w.heap.size+1<w3.heap.size),b1];rfl
   ·simp only [World.cell?,bl _(by omega:w.heap.size<w3.heap.size),b0];rfl
  have aw:Hid(∀ u,w3.grownBy u none->u.cell?⟨w.heap.size+2,0,none⟩=some(.int .i64(t2:Int))/\u.cell?⟨w.heap.size+2,1,none⟩=some(.int .i64(k2:Int))/\u.cell?⟨w.heap.size,0,none⟩=some(.slice(some⟨pg,po,none⟩)p.length am)/\u.cell?⟨pg,po+t2,none⟩=some(.slice(some⟨dg,dq,none⟩)dl dc)/\u.cell?⟨dg,dq+k2*4,none⟩=some(.int .i64 j.op)/\u.cell?⟨dg,dq+k2*4+1,none⟩=some(.int .i64 j.a)/\u.cell?⟨dg,dq+k2*4+2,none⟩=some(.int .i64 j.b)/\u.cell?⟨dg,dq+k2*4+3,none⟩=some(.int .i64 j.n)):=fun u hu=>by
   have up:∀ x v,w.cell? x=some v->u.cell? x=some v:=fun x v h=>ie(ic az.out hu)_ _ h
   have bl:∀ k,k<w3.heap.size->u.heap[k]?=w3.heap[k]?:=fun k hk=>hu.block k hk(by simp)
   refine⟨?_, ?_, ?_,up _ _ HN.out.1,up _ _ HN.out.2.1,up _ _ HN.out.2.2.1,up _ _ HN.out.2.2.2.1,up _ _ HN.out.2.2.2.2⟩
   ·simp only [World.cell?,bl _(by omega:w.heap.size+2<w3.heap.size),b2];rfl
   ·simp only [World.cell?,bl _(by omega:w.heap.size+2<w3.heap.size),b2];rfl
   ·simp only [World.cell?,bl _(by omega:w.heap.size<w3.heap.size),b0];rfl
  clear b0 b1 b2 aH HM HN HA;refine iu(fun u=>u.cell?⟨w.heap.size+1,0,none⟩=some(.int .i64(t1:Int))/\u.cell?⟨w.heap.size+1,1,none⟩=some(.int .i64(k1:Int))/\u.cell?⟨w.heap.size,0,none⟩=some(.slice(some⟨pg,po,none⟩)p.length am)/\u.cell?⟨pg,po+t1,none⟩=some(.slice(some⟨cg,co,none⟩)cl cc)/\u.cell?⟨cg,co+k1*4,none⟩=some(.int .i64 i.op)/\u.cell?⟨cg,co+k1*4+1,none⟩=some(.int .i64 i.a)/\u.cell?⟨cg,co+k1*4+2,none⟩=some(.int .i64 i.b)/\u.cell?⟨cg,co+k1*4+3,none⟩=some(.int .i64 i.n))11(by kernel_rfl)(by kernel_rfl)(ax.out w3.drew(ir(il _ _))) ?_;intro aa;refine hY(i:=0)(v:= ?vva0)rfl(by kernel_rfl)(fun _ _ _ h=>h)(Or.inl⟨by rfl, ?hya0⟩)aa ?resta0
  case hya0=>(rintro u⟨ab,ad,af,ag,ac,ae,ah,ai⟩;go_simp;try with_reducible rfl)
  simp only [Act.put,List.setIfInBounds_toArray];refine hY(i:=1)(v:= ?vva1)rfl(by kernel_rfl)(fun _ _ _ h=>h)(Or.inl⟨by rfl, ?hya1⟩)aa ?resta1
  case hya1=>(rintro u⟨ab,ad,af,ag,ac,ae,ah,ai⟩;go_simp;try with_reducible rfl)
  simp only [Act.put];refine hY(i:=2)(v:= ?vva2)rfl(by kernel_rfl)(fun _ _ _ h=>h)(Or.inl⟨by rfl, ?hya2⟩)aa ?resta2
  case hya2=>(rintro u⟨ab,ad,af,ag,ac,ae,ah,ai⟩;go_simp;try with_reducible rfl)
  simp only [Act.put];refine hY(i:=3)(v:= ?vva3)rfl(by kernel_rfl)(fun _ _ _ h=>h)(Or.inl⟨by rfl, ?hya3⟩)aa ?resta3
  case hya3=>(rintro u⟨ab,ad,af,ag,ac,ae,ah,ai⟩;go_simp;try with_reducible rfl)
  simp only [Act.put];refine hY(i:=4)(v:= ?vva4)rfl(by kernel_rfl)(fun _ _ _ h=>h)(Or.inl⟨by rfl, ?hya4⟩)aa ?resta4
  case hya4=>(rintro u⟨ab,ad,af,ag,ac,ae,ah,ai⟩;go_simp;try with_reducible rfl)
  simp only [Act.put];refine hY(i:=5)(v:= ?vva5)rfl(by kernel_rfl)(fun _ _ _ h=>h)(Or.inl⟨by rfl, ?hya5⟩)aa ?resta5
  case hya5=>(rintro u⟨ab,ad,af,ag,ac,ae,ah,ai⟩;go_simp;try with_reducible rfl)
  simp only [Act.put];refine hY(i:=6)(v:= ?vva6)rfl(by kernel_rfl)(fun _ _ _ h=>h)(Or.inl⟨by rfl, ?hya6⟩)aa ?resta6
  case hya6=>(rintro u⟨ab,ad,af,ag,ac,ae,ah,ai⟩;go_simp;try with_reducible rfl)
  simp only [Act.put];refine hY(i:=7)(v:= ?vva7)rfl(by kernel_rfl)(fun _ _ _ h=>h)(Or.inl⟨by rfl, ?hya7⟩)aa ?resta7
  case hya7=>(rintro u⟨ab,ad,af,ag,ac,ae,ah,ai⟩;go_simp;try with_reducible rfl)
  simp only [Act.put];refine hY(i:=8)(v:= ?vva8)rfl(by kernel_rfl)(fun _ _ _ h=>h)(Or.inl⟨by rfl, ?hya8⟩)aa ?resta8
  case hya8=>(rintro u⟨ab,ad,af,ag,ac,ae,ah,ai⟩;go_simp;try with_reducible rfl)
  simp only [Act.put];refine hY(i:=9)(v:= ?vva9)rfl(by kernel_rfl)(fun _ _ _ h=>h)(Or.inl⟨by rfl, ?hya9⟩)aa ?resta9
  case hya9=>(rintro u⟨ab,ad,af,ag,ac,ae,ah,ai⟩;go_simp;try with_reducible rfl)
  simp only [Act.put];refine ip(i:=10)rfl(by kernel_rfl)(by kernel_rfl)(by rfl) ?_;intro Ka aB;have aC:=hZ aB;clear aB;go_simp;refine aC.out _ _(ax.out(w3.drew.alloc(.cells #[.int .i64 0, .int .i64 0, .int .i64 0, .int .i64 0]65))(ic(il _ _)(ic(ir(il _ _))(ij(il _ _))))) ?_;clear aC;try simp only [Act.put,List.setIfInBounds_toArray]
  refine iE rfl(by kernel_rfl)(by kernel_rfl)(by rfl) ?_;go_simp;clear aa;have aE:Hid((w3.alloc(.cells #[.int .i64 i.op, .int .i64 i.a, .int .i64 i.b, .int .i64 i.n]65)).drew.heap[w3.heap.size]?=some(.cells #[.int .i64 i.op, .int .i64 i.a, .int .i64 i.b, .int .i64 i.n]65(0,0))):=heap_alloc_new w3(.cells #[.int .i64 i.op, .int .i64 i.a, .int .i64 i.b, .int .i64 i.n]65);have ap:Hid(w3.grownBy(w3.alloc(.cells #[.int .i64 i.op, .int .i64 i.a, .int .i64 i.b, .int .i64 i.n]65)).drew none):=ir(ij(il _ _));generalize(w3.alloc(.cells #[.int .i64 i.op, .int .i64 i.a, .int .i64 i.b, .int .i64 i.n]65)).drew=w4 at*;go_wp2_with fail
  refine iu(fun u=>u.cell?⟨w.heap.size+2,0,none⟩=some(.int .i64(t2:Int))/\u.cell?⟨w.heap.size+2,1,none⟩=some(.int .i64(k2:Int))/\u.cell?⟨w.heap.size,0,none⟩=some(.slice(some⟨pg,po,none⟩)p.length am)/\u.cell?⟨pg,po+t2,none⟩=some(.slice(some⟨dg,dq,none⟩)dl dc)/\u.cell?⟨dg,dq+k2*4,none⟩=some(.int .i64 j.op)/\u.cell?⟨dg,dq+k2*4+1,none⟩=some(.int .i64 j.a)/\u.cell?⟨dg,dq+k2*4+2,none⟩=some(.int .i64 j.b)/\u.cell?⟨dg,dq+k2*4+3,none⟩=some(.int .i64 j.n))11(by kernel_rfl)(by kernel_rfl)(aw.out w4.drew(ir ap.out)) ?_;intro aa;refine hY(i:=0)(v:= ?vvb0)rfl(by kernel_rfl)(fun _ _ _ h=>h)(Or.inl⟨by rfl, ?hyb0⟩)aa ?restb0
  case hyb0=>(rintro u⟨ab,ad,af,ag,ac,ae,ah,ai⟩;go_simp;try with_reducible rfl)
  simp only [Act.put,List.setIfInBounds_toArray];refine hY(i:=1)(v:= ?vvb1)rfl(by kernel_rfl)(fun _ _ _ h=>h)(Or.inl⟨by rfl, ?hyb1⟩)aa ?restb1
  case hyb1=>(rintro u⟨ab,ad,af,ag,ac,ae,ah,ai⟩;go_simp;try with_reducible rfl)
  simp only [Act.put];refine hY(i:=2)(v:= ?vvb2)rfl(by kernel_rfl)(fun _ _ _ h=>h)(Or.inl⟨by rfl, ?hyb2⟩)aa ?restb2
  case hyb2=>(rintro u⟨ab,ad,af,ag,ac,ae,ah,ai⟩;go_simp;try with_reducible rfl)
  simp only [Act.put];refine hY(i:=3)(v:= ?vvb3)rfl(by kernel_rfl)(fun _ _ _ h=>h)(Or.inl⟨by rfl, ?hyb3⟩)aa ?restb3
  case hyb3=>(rintro u⟨ab,ad,af,ag,ac,ae,ah,ai⟩;go_simp;try with_reducible rfl)
  simp only [Act.put];refine hY(i:=4)(v:= ?vvb4)rfl(by kernel_rfl)(fun _ _ _ h=>h)(Or.inl⟨by rfl, ?hyb4⟩)aa ?restb4
  case hyb4=>(rintro u⟨ab,ad,af,ag,ac,ae,ah,ai⟩;go_simp;try with_reducible rfl)
  simp only [Act.put];refine hY(i:=5)(v:= ?vvb5)rfl(by kernel_rfl)(fun _ _ _ h=>h)(Or.inl⟨by rfl, ?hyb5⟩)aa ?restb5
  case hyb5=>(rintro u⟨ab,ad,af,ag,ac,ae,ah,ai⟩;go_simp;try with_reducible rfl)
  simp only [Act.put];refine hY(i:=6)(v:= ?vvb6)rfl(by kernel_rfl)(fun _ _ _ h=>h)(Or.inl⟨by rfl, ?hyb6⟩)aa ?restb6
  case hyb6=>(rintro u⟨ab,ad,af,ag,ac,ae,ah,ai⟩;go_simp;try with_reducible rfl)
  simp only [Act.put];refine hY(i:=7)(v:= ?vvb7)rfl(by kernel_rfl)(fun _ _ _ h=>h)(Or.inl⟨by rfl, ?hyb7⟩)aa ?restb7
  case hyb7=>(rintro u⟨ab,ad,af,ag,ac,ae,ah,ai⟩;go_simp;try with_reducible rfl)
  simp only [Act.put];refine hY(i:=8)(v:= ?vvb8)rfl(by kernel_rfl)(fun _ _ _ h=>h)(Or.inl⟨by rfl, ?hyb8⟩)aa ?restb8
  case hyb8=>(rintro u⟨ab,ad,af,ag,ac,ae,ah,ai⟩;go_simp;try with_reducible rfl)
  simp only [Act.put];refine hY(i:=9)(v:= ?vvb9)rfl(by kernel_rfl)(fun _ _ _ h=>h)(Or.inl⟨by rfl, ?hyb9⟩)aa ?restb9
  case hyb9=>(rintro u⟨ab,ad,af,ag,ac,ae,ah,ai⟩;go_simp;try with_reducible rfl)
  simp only [Act.put];refine ip(i:=10)rfl(by kernel_rfl)(by kernel_rfl)(by rfl) ?_;intro Kb aA;have aF:=hZ aA;clear aA;go_simp;refine aF.out _ _(aw.out(w4.drew.alloc(.cells #[.int .i64 0, .int .i64 0, .int .i64 0, .int .i64 0]65))(ic ap.out(ic(ir(il _ _))(ij(il _ _))))) ?_;clear aF;try simp only [Act.put,List.setIfInBounds_toArray]
  refine iE rfl(by kernel_rfl)(by kernel_rfl)(by rfl) ?_;go_simp;clear aa;have aK:Hid((w4.alloc(.cells #[.int .i64 j.op, .int .i64 j.a, .int .i64 j.b, .int .i64 j.n]65)).drew.heap[w4.heap.size]?=some(.cells #[.int .i64 j.op, .int .i64 j.a, .int .i64 j.b, .int .i64 j.n]65(0,0))):=heap_alloc_new w4(.cells #[.int .i64 j.op, .int .i64 j.a, .int .i64 j.b, .int .i64 j.n]65);have ar:Hid(w4.grownBy(w4.alloc(.cells #[.int .i64 j.op, .int .i64 j.a, .int .i64 j.b, .int .i64 j.n]65)).drew none):=ir(ij(il _ _));generalize(w4.alloc(.cells #[.int .i64 j.op, .int .i64 j.a, .int .i64 j.b, .int .i64 j.n]65)).drew=w5 at*;have aJ:Hid(w5.heap[w3.heap.size]?=some(.cells #[.int .i64 i.op, .int .i64 i.a, .int .i64 i.b, .int .i64 i.n]65(0,0))):=by
   unfold Hid;rw [ar.out.block _(Array.getElem?_eq_some_iff.1 aE.out).1(by simp)];exact aE.out
  have aj:Hid(w.grownBy w5 none):=ic az.out(ic ap.out ar.out);obtain⟨i0,i1,i2,i3, -⟩:=rS aJ.out;obtain⟨j0,j1,j2,j3, -⟩:=rS aK.out;clear ax aw;have HR:Hid((t1==t2 || oh i j)=oh i j):=by unfold Hid;rw [HT.out];rfl
  go_upto_region 5 with fail
  obtain⟨bl,aD⟩:∃ bl:Bool,bl=decide((i.op=9\/i.op=10)/\(j.op=9\/j.op=10)):=⟨_,rfl⟩;have al:=hZ aD;clear aD;go_cut [51](fun q w'=>q= .bool bl/\w'=w5)
  case first=>
   by_cases i9:i.op=9
   ·rw [i9]at i0;by_cases j9:j.op=9
    ·rw [j9]at j0;go_wp2_with fail
     go_meet
     exact⟨by rw [al.out];simp [i9,j9],rfl⟩
    ·have e9:(j.op==9)=false:=by simpa using j9
     by_cases ak:j.op=10
     ·rw [ak]at j0;go_wp2_with fail
      go_meet
      exact⟨by rw [al.out];simp [i9,ak],rfl⟩
     ·have aN:(j.op==10)=false:=by simpa using ak
      go_wp2_with fail
      go_meet
      exact⟨by rw [al.out];simp [j9,ak],rfl⟩
   ·have d9:(i.op==9)=false:=by simpa using i9
    by_cases av:i.op=10
    ·rw [av]at i0;clear d9;by_cases j9:j.op=9
     ·rw [j9]at j0;go_wp2_with fail
      go_meet
      exact⟨by rw [al.out];simp [av,j9],rfl⟩
     ·have e9:(j.op==9)=false:=by simpa using j9
      by_cases ak:j.op=10
      ·rw [ak]at j0;clear e9;go_wp2_with fail
       go_meet
       exact⟨by rw [al.out];simp [av,ak],rfl⟩
      ·have aN:(j.op==10)=false:=by simpa using ak
       go_wp2_with fail
       go_meet
       exact⟨by rw [al.out];simp [j9,ak],rfl⟩
    ·have d10:(i.op==10)=false:=by simpa using av
     go_wp2_with fail
     go_meet
     exact⟨by rw [al.out];simp [i9,av],rfl⟩
  case rest=>
  obtain⟨rfl,aI⟩:=hcut;have ay:=aI.symm;subst ay;cases bl with
  | true=>
   have hh:(i.op=9\/i.op=10)/\(j.op=9\/j.op=10):=by have:=al.out.symm;simpa using this
   have HL:Hid(oh i j=(i.a==j.a)):=by unfold Hid oh;simp [hh]
   by_cases he:i.a=j.a
   ·have hb:(i.a==j.a)=true:=by simpa using he
    clear he;go_wp2_with fail
    all_goals(go_ret;exact⟨by rw [HR.out,HL.out,hb];first | rfl | simp [*],aj.out⟩)
   ·have hb:(i.a==j.a)=false:=by simpa using he
    clear he;go_wp2_with fail
    all_goals(go_ret;exact⟨by rw [HR.out,HL.out,hb];first | rfl | simp [*],aj.out⟩)
  | false=>
   have hn:¬((i.op=9\/i.op=10)/\(j.op=9\/j.op=10)):=by have:=al.out.symm;simpa using this
   by_cases i3:i.op=3
   ·rw [i3]at i0;by_cases j3:j.op=3
    ·rw [j3]at j0;have HL:Hid(oh i j=(i.a==j.a)):=by unfold Hid oh;simp [i3,j3]
     by_cases he:i.a=j.a
     ·have hb:(i.a==j.a)=true:=by simpa using he
      clear he;go_wp2_with fail
      all_goals(go_ret;exact⟨by rw [HR.out,HL.out,hb];first | rfl | simp [*],aj.out⟩)
     ·have hb:(i.a==j.a)=false:=by simpa using he
      clear he;go_wp2_with fail
      all_goals(go_ret;exact⟨by rw [HR.out,HL.out,hb];first | rfl | simp [*],aj.out⟩)
    ·have e3:(j.op==3)=false:=by simpa using j3
     by_cases j2:j.op=2
     ·rw [j2]at j0;clear e3;have HL:Hid(oh i j=(i.a==j.b)):=by unfold Hid oh;simp [i3,j2]
      by_cases he:i.a=j.b
      ·have hb:(i.a==j.b)=true:=by simpa using he
       clear he;go_wp2_with fail
       all_goals(go_ret;exact⟨by rw [HR.out,HL.out,hb];first | rfl | simp [*],aj.out⟩)
      ·have hb:(i.a==j.b)=false:=by simpa using he
       clear he;go_wp2_with fail
       all_goals(go_ret;exact⟨by rw [HR.out,HL.out,hb];first | rfl | simp [*],aj.out⟩)
     ·have e2:(j.op==2)=false:=by simpa using j2
      have HL:Hid(oh i j=false):=by unfold Hid oh;simp [i3,j3,j2]
      go_wp2_with fail
      go_ret;exact⟨by rw [HR.out,HL.out];rfl,aj.out⟩
   ·have d3:(i.op==3)=false:=by simpa using i3
    by_cases au:i.op=2
    ·rw [au]at i0;clear d3;by_cases j3:j.op=3
     ·rw [j3]at j0;have HL:Hid(oh i j=(i.b==j.a)):=by unfold Hid oh;simp [au,j3]
      by_cases he:i.b=j.a
      ·have hb:(i.b==j.a)=true:=by simpa using he
       clear he;go_wp2_with fail
       all_goals(go_ret;exact⟨by rw [HR.out,HL.out,hb];first | rfl | simp [*],aj.out⟩)
      ·have hb:(i.b==j.a)=false:=by simpa using he
       clear he;go_wp2_with fail
       all_goals(go_ret;exact⟨by rw [HR.out,HL.out,hb];first | rfl | simp [*],aj.out⟩)
     ·have e3:(j.op==3)=false:=by simpa using j3
      have HL:Hid(oh i j=false):=by unfold Hid oh;simp [au,j3]
      go_wp2_with fail
      go_ret;exact⟨by rw [HR.out,HL.out];rfl,aj.out⟩
    ·have d2:(i.op==2)=false:=by simpa using au
     have HL:Hid(oh i j=false):=by unfold Hid oh;rw [if_neg hn];simp [i3,au]
     go_wp2_with fail
     go_ret;exact⟨by rw [HR.out,HL.out];rfl,aj.out⟩
end
section
theorem AH(d:Ev->Ev->Bool)(L:List(Ev × Nat))(x:Ev)(k:Nat)(hk:k<L.length):jf d(L.take(k+1))x=if d L[k].1 x=true then max(jf d(L.take k)x)(L[k].2+1)else jf d(L.take k)x:=by
 rw [List.take_succ_eq_append_getElem hk,vb];have e:jf d [L[k]]x=if d L[k].1 x=true then L[k].2+1 else 0:=by simp [jf]
 rw [e];by_cases h:d L[k].1 x=true
 ·rw [if_pos h,if_pos h]
 ·rw [if_neg h,if_neg h];omega
theorem vC(p:List(List Ins))(xs:List Ev)(x:Ev)(k:Nat):jf(i6 p)((tl(i6 p) []xs).take k)x<=xs.length:=by
 apply qK;intro q hq _;have aa:q∈tl(i6 p) []xs:=List.mem_of_mem_take hq;obtain⟨j,hj,rfl⟩:=List.getElem_of_mem aa;have:=o9(i6 p)xs []0(by simp)j _(List.getElem?_eq_getElem hj);rw [jy]at hj;omega
theorem Bi {p:List(List Ins)} {o:Out} {xs:List Ev}(h:sf p o xs) {k i:Nat}(hki:k<i)(hi:i<xs.length):
  i6 p(xs[k]'(by omega))xs[i]=((decide(o.kind=1)&& decide(i+1=xs.length)) || ((xs[k]'(by omega)).t==xs[i].t || md(tou(jq p(xs[k]'(by omega)).t(xs[k]'(by omega)).k))(tou(jq p xs[i].t xs[i].k)))):=by
 have h1:=h.gd k(by omega);have h2:=h.gd i hi;have e1:(xs[k]'(by omega)).bad=false:=by rw [h1];simp;intro _;omega
 unfold i6;rw [e1,h2];simp [Bool.or_assoc]
end
section
def oW(ks:List(Nat × Nat))(l t:Nat):List(Nat × Nat):=ks.filter fun k=>k.1==l && k.2==t
def kZ(ks:List(Nat × Nat))(l t i:Nat):List(Nat × Nat):=jS l ks++((List.range t).flatMap(oW ks l)++oW(ks.take i)l t)
theorem Bu(ks:List(Nat × Nat)):kZ ks 0 0 0= []:=by simp [kZ,jS,oW]
theorem AL(ks:List(Nat × Nat))(l t i:Nat)(hi:i<ks.length):kZ ks l t(i+1)=kZ ks l t i++(if ks[i].1==l && ks[i].2==t then [ks[i]]else []):=by
 unfold kZ oW;rw [List.take_succ_eq_append_getElem hi,List.filter_append];simp only [List.append_assoc,List.filter_cons,List.filter_nil]
theorem xM(ks:List(Nat × Nat))(l t i:Nat)(hi:ks.length<=i):kZ ks l t i=kZ ks l(t+1)0:=by
 unfold kZ;rw [List.take_of_length_le hi,List.range_succ,List.flatMap_append];simp [oW]
theorem zd(ks:List(Nat × Nat))(l:Nat):kZ ks l 4 0=kZ ks(l+1)0 0:=by
 have e:jS(l+1)ks=jS l ks++(List.range 4).flatMap(oW ks l):=by
  unfold jS;rw [List.range_succ(n:=l),List.flatMap_append];congr 1
  rw [List.flatMap_cons,List.flatMap_nil,List.append_nil];rfl
 unfold kZ;rw [e];simp [oW]
theorem Ds(ks:List(Nat × Nat))(n:Nat):kZ ks n 0 0=jS n ks:=by simp [kZ,oW]
theorem wF(ks:List(Nat × Nat))(l t:Nat):(oW ks l t).length<=ks.length:=List.length_filter_le ..
theorem qD {f:Nat->List(Nat × Nat)} {m:Nat}(h:∀ l,(f l).length<=m):∀ n,((List.range n).flatMap f).length<=n*m
 | 0=>by simp
 | n+1=>by
  rw [List.range_succ,List.flatMap_append,List.length_append];have h1:=qD h n;have h2:=h n;have h3:(n+1)*m=n*m+m:=by rw [Nat.add_mul];omega
  simp only [List.flatMap_cons,List.flatMap_nil,List.append_nil];omega
theorem Et(ks:List(Nat × Nat))(l t i:Nat)(hl:l<=500)(ht:t<=4)(hk:ks.length<=500):(kZ ks l t i).length<=2000000:=by
 unfold kZ;rw [List.length_append,List.length_append];have h1:(jS l ks).length<=l*(4*ks.length):=by
  unfold jS;exact qD(fun _=>qD(fun _=>List.length_filter_le ..)4)l
 have h2:((List.range t).flatMap(oW ks l)).length<=t*ks.length:=qD(fun _=>wF ..)t;have h3:(oW(ks.take i)l t).length<=ks.length:=Nat.le_trans(wF ..)(by simp;omega);have h4:l*(4*ks.length)<=500*(4*500):=Nat.mul_le_mul hl(by omega);have h5:t*ks.length<=4*500:=Nat.mul_le_mul ht hk;omega
def nD(L:List(Nat × Nat)):List Int:=L.map fun x=>(x.2:Int)
theorem CX(ks:List(Nat × Nat))(l t i:Nat)(hi:i<ks.length):nD(kZ ks l t(i+1))=if ks[i].1==l && ks[i].2==t then nD(kZ ks l t i)++ [(t:Int)]else nD(kZ ks l t i):=by
 rw [AL ks l t i hi];unfold nD;by_cases h:(ks[i].1==l && ks[i].2==t)=true
 ·rw [if_pos h,if_pos h,List.map_append];simp at h;simp [h.2]
 ·rw [if_neg h,if_neg h];simp
def kr(p:List(List Ins))(xs:List Ev)(i:Nat):List Nat:=(tl(i6 p) [](xs.take i)).map(·.2)
theorem pu(p:List(List Ins))(xs:List Ev)(i:Nat)(h:i<=xs.length):(kr p xs i).length=i:=by unfold kr;rw [List.length_map,jy];simp;omega
theorem yF(p:List(List Ins))(xs:List Ev)(i:Nat)(h:i<xs.length):kr p xs(i+1)=kr p xs i++ [jf(i6 p)((tl(i6 p) [](xs.take i)).take i)xs[i]]:=by
 unfold kr;have e:(tl(i6 p) [](xs.take i)).take i=tl(i6 p) [](xs.take i):=List.take_of_length_le(by rw [jy];simp;omega);rw [uJ h,List.map_append,e];rfl
theorem rG(p:List(List Ins))(xs:List Ev):(jt p xs).length=xs.length:=by unfold jt;rw [List.length_map,jy]
theorem Em(p:List(List Ins))(xs:List Ev)(i:Nat)(h:i<xs.length):(jt p xs)[i]'(by rw [rG];exact h)=((kr p xs xs.length)[i]'(by rw [pu _ _ _(Nat.le_refl _)];exact h),xs[i].t):=by
 have hL:i<(tl(i6 p) []xs).length:=by rw [jy];exact h
 have e2:((tl(i6 p) []xs)[i]'hL).1=xs[i]:=by
  have h1:=tG(i6 p) []xs;have h2:((tl(i6 p) []xs).map(·.1))[i]'(by rw [h1];exact h)=xs[i]:=by congr 1
  simpa using h2
 simp [jt,kr,zk,e2]
theorem Ep(p:List(List Ins))(xs:List Ev)(i:Nat)(h:i<xs.length):(kr p xs xs.length)[i]'(by rw [pu _ _ _(Nat.le_refl _)];exact h)<=xs.length:=by
 have hL:i<(tl(i6 p) []xs).length:=by rw [jy];exact h
 have:=o9(i6 p)xs []0(by simp)i _(List.getElem?_eq_getElem hL);simp [kr];omega
end
section
open Go.RowKit
attribute [local go_sem] Go.World.cell?_alloc_some
theorem yx(W:World)(a b c:Obj):((W.alloc a).alloc b).drew.alloc c=Sort.grow(W.drewN 1) #[a,b,c]:=by
 have d:∀ (w:World)os,(Sort.grow w os).drew=Sort.grow w.drew os:=fun _ _=>rfl
 rw [Sort.alloc_eq_grow W a,Sort.alloc_eq_grow _ b,Sort.grow_grow,d,Sort.alloc_eq_grow _ c,Sort.grow_grow];rfl
def mW(x y:Int):Int:=if x<y then -1 else if y<x then 1 else 0
def orI(x y:Int):Int:=if x=0 then y else x
def AE(x y:Int × Int):Int:=orI(mW x.1 y.1)(mW x.2 y.2)
theorem vg(x:Int)(w:World):Calls Tryz.prog 168 #[.int .i64 x]w fun e w'=>e= .returned(.bool false)/\w'=w:=by
 go_enter Tryz.func168,Tryz.ntmps168
 go_wp2
 go_ret;exact⟨rfl,rfl⟩
theorem qJ(x y:Int)(w:World):Calls Tryz.prog 130 #[.int .i64 x, .int .i64 y]w fun e w'=>e= .returned(.int .i64(mW x y))/\w'=w:=by
 by_cases h1:x<y
 ·have HE:Hid(mW x y= -1):=by unfold Hid mW;simp [h1]
  go_enter Tryz.func130,Tryz.ntmps130
  go_wp2_with(go_at_call 168;refine(vg _ _).mono ?_;rintro e w'⟨rfl,rfl⟩)
  go_ret;exact⟨by rw [HE.out];rfl,rfl⟩
 ·by_cases h2:y<x
  ·have HE:Hid(mW x y=1):=by unfold Hid mW;simp [h1,h2]
   go_enter Tryz.func130,Tryz.ntmps130
   go_wp2_with(go_at_call 168;refine(vg _ _).mono ?_;rintro e w'⟨rfl,rfl⟩)
   go_ret;exact⟨by rw [HE.out];rfl,rfl⟩
  ·have HE:Hid(mW x y=0):=by unfold Hid mW;simp [h1,h2]
   have h3:x<=y:=by omega
   have h4:y<=x:=by omega
   go_enter Tryz.func130,Tryz.ntmps130
   go_wp2_with(go_at_call 168;refine(vg _ _).mono ?_;rintro e w'⟨rfl,rfl⟩)
   go_ret;exact⟨by rw [HE.out];rfl,rfl⟩
theorem FD(x y:Int)(g:Nat)(w:World)(h0:w.cell?⟨g,0,none⟩=some(.int .i64 x))(h1:w.cell?⟨g,1,none⟩=some(.int .i64 y)):
  Calls Tryz.prog 129 #[.slice(some⟨g,0,none⟩)2 2]w fun e w'=>e= .returned(.int .i64(orI x y))/\w'=w:=by
 have HA:=hZ h0;have HB:=hZ h1;go_enter Tryz.func129,Tryz.ntmps129
 go_wp2_with fail
 go_loopw [8](fun i w'=>∃ k:Nat,k<=2/\i= .int .i64 k/\Hid(w'=w)/\Hid((0<k->x=0)/\(1<k->y=0)))(fun i _=>2 - (intOf i).toNat)
 case atStart=>exact⟨0,by omega,rfl,rfl,by omega,by omega⟩
 case round=>
  obtain⟨k,hk,rfl,HW,HZ⟩:=hrel;obtain rfl:=HW.out.symm;clear HW;rcases(by omega:k=0\/k=1\/k=2)with rfl | rfl | rfl
  ·by_cases hx:x=0
   ·subst hx;go_wp2_with fail
    go_roundw
    case rel=>exact⟨1,by omega,by go_num,(by first | exact trivial | rfl),by unfold Hid;simp⟩
    case measure=>simp [intOf]
   ·have hb:(x !=0)=true:=by simpa using hx
    have HE:Hid(orI x y=x):=by unfold Hid orI;rw [if_neg hx]
    clear hx;go_wp2_with fail
    go_ret;exact⟨by rw [HE.out];rfl,rfl⟩
  ·have HE:Hid(orI x y=y):=by unfold Hid orI;rw [if_pos(HZ.out.1(by omega))]
   by_cases hy:y=0
   ·subst hy;have HX:=hZ(HZ.out.1(by omega));go_wp2_with fail
    go_roundw
    case rel=>exact⟨2,by omega,by go_num,(by first | exact trivial | rfl),by unfold Hid;simp [HX.out]⟩
    case measure=>simp [intOf]
   ·have hb:(y !=0)=true:=by simpa using hy
    clear hy;go_wp2_with fail
    go_ret;exact⟨by rw [HE.out];rfl,rfl⟩
  ·have HE:Hid(orI x y=0):=by unfold Hid orI;rw [if_pos(HZ.out.1(by omega))];exact HZ.out.2(by omega)
   go_wp2_with fail
   go_ret;exact⟨by rw [HE.out];rfl,rfl⟩
theorem BH(x y:Int × Int)(W:World):
  Calls Tryz.prog 87 #[.agg #[.int .i64 x.1, .int .i64 x.2], .agg #[.int .i64 y.1, .int .i64 y.2]]W fun e w'=>e= .returned(.int .i64(AE x y))/\∃ q os',w'=Sort.grow(W.drewN q)os':=by
 go_enter Tryz.func87,Tryz.ntmps87
 go_upto_region 1 with fail
 have HA:=hZ(heap_alloc_new W(.cells #[.int .i64 x.1, .int .i64 x.2]165));have HB:=hZ(heap_alloc_new(W.alloc(.cells #[.int .i64 x.1, .int .i64 x.2]165))(.cells #[.int .i64 y.1, .int .i64 y.2]165));have ao:(W.alloc(.cells #[.int .i64 x.1, .int .i64 x.2]165)).heap.size=W.heap.size+1:=by simp
 rw [ao]at HB;have am:Hid(((W.alloc(.cells #[.int .i64 x.1, .int .i64 x.2]165)).alloc(.cells #[.int .i64 y.1, .int .i64 y.2]165)).heap[W.heap.size]?=some(.cells #[.int .i64 x.1, .int .i64 x.2]165(0,0))):=by
  unfold Hid;rw [Below.heap_alloc _ _ _(by simp)];exact HA.out
 have al:Hid(∀ c,∃ q os',((((W.alloc(.cells #[.int .i64 x.1, .int .i64 x.2]165)).alloc(.cells #[.int .i64 y.1, .int .i64 y.2]165)).drew).alloc c)=Sort.grow(W.drewN q)os'):=fun c=>by
  exact⟨1,_,yx _ _ _ _⟩
 have ab:((W.alloc(.cells #[.int .i64 x.1, .int .i64 x.2]165)).alloc(.cells #[.int .i64 y.1, .int .i64 y.2]165)).drew.cell?⟨W.heap.size,0,none⟩=some(.int .i64 x.1)/\((W.alloc(.cells #[.int .i64 x.1, .int .i64 x.2]165)).alloc(.cells #[.int .i64 y.1, .int .i64 y.2]165)).drew.cell?⟨W.heap.size,1,none⟩=some(.int .i64 x.2)/\((W.alloc(.cells #[.int .i64 x.1, .int .i64 x.2]165)).alloc(.cells #[.int .i64 y.1, .int .i64 y.2]165)).drew.cell?⟨W.heap.size+1,0,none⟩=some(.int .i64 y.1)/\((W.alloc(.cells #[.int .i64 x.1, .int .i64 x.2]165)).alloc(.cells #[.int .i64 y.1, .int .i64 y.2]165)).drew.cell?⟨W.heap.size+1,1,none⟩=some(.int .i64 y.2):=by
  have ha:((W.alloc(.cells #[.int .i64 x.1, .int .i64 x.2]165)).alloc(.cells #[.int .i64 y.1, .int .i64 y.2]165)).drew.heap[W.heap.size]?=some(.cells #[.int .i64 x.1, .int .i64 x.2]165(0,0)):=am.out;have hb:((W.alloc(.cells #[.int .i64 x.1, .int .i64 x.2]165)).alloc(.cells #[.int .i64 y.1, .int .i64 y.2]165)).drew.heap[W.heap.size+1]?=some(.cells #[.int .i64 y.1, .int .i64 y.2]165(0,0)):=HB.out;refine⟨?_, ?_, ?_, ?_⟩
  ·simp only [World.cell?,ha];rfl
  ·simp only [World.cell?,ha];rfl
  ·simp only [World.cell?,hb];rfl
  ·simp only [World.cell?,hb];rfl
 generalize((W.alloc(.cells #[.int .i64 x.1, .int .i64 x.2]165)).alloc(.cells #[.int .i64 y.1, .int .i64 y.2]165))=w2 at*;have ax:Hid((w2.drew.alloc(.cells #[.int .i64(mW x.1 y.1), .int .i64(mW x.2 y.2)]3)).cell?⟨w2.heap.size,0,none⟩=some(.int .i64(mW x.1 y.1))):=by
  have h:=heap_alloc_new w2.drew(.cells #[.int .i64(mW x.1 y.1), .int .i64(mW x.2 y.2)]3);unfold Hid;have h2:(w2.drew.alloc(.cells #[.int .i64(mW x.1 y.1), .int .i64(mW x.2 y.2)]3)).heap[w2.heap.size]?=_:=h;simp only [World.cell?,h2];rfl
 have aw:Hid((w2.drew.alloc(.cells #[.int .i64(mW x.1 y.1), .int .i64(mW x.2 y.2)]3)).cell?⟨w2.heap.size,1,none⟩=some(.int .i64(mW x.2 y.2))):=by
  have h:=heap_alloc_new w2.drew(.cells #[.int .i64(mW x.1 y.1), .int .i64(mW x.2 y.2)]3);unfold Hid;have h2:(w2.drew.alloc(.cells #[.int .i64(mW x.1 y.1), .int .i64(mW x.2 y.2)]3)).heap[w2.heap.size]?=_:=h;simp only [World.cell?,h2];rfl
 clear HA HB am ao;refine iu(fun u=>u.cell?⟨W.heap.size,0,none⟩=some(.int .i64 x.1)/\u.cell?⟨W.heap.size,1,none⟩=some(.int .i64 x.2)/\u.cell?⟨W.heap.size+1,0,none⟩=some(.int .i64 y.1)/\u.cell?⟨W.heap.size+1,1,none⟩=some(.int .i64 y.2))12(by kernel_rfl)(by kernel_rfl)ab ?_;intro aa;refine hY(i:=0)(v:= ?vva0)rfl(by kernel_rfl)(fun _ _ _ h=>h)(Or.inl⟨by rfl, ?hya0⟩)aa ?resta0
 case hya0=>(rintro u⟨ad,ac,ae,af⟩;go_simp;try with_reducible rfl)
 simp only [Act.put,List.setIfInBounds_toArray];refine hY(i:=1)(v:= ?vva1)rfl(by kernel_rfl)(fun _ _ _ h=>h)(Or.inl⟨by rfl, ?hya1⟩)aa ?resta1
 case hya1=>(rintro u⟨ad,ac,ae,af⟩;go_simp;try with_reducible rfl)
 simp only [Act.put];refine hY(i:=2)(v:= ?vva2)rfl(by kernel_rfl)(fun _ _ _ h=>h)(Or.inl⟨by rfl, ?hya2⟩)aa ?resta2
 case hya2=>(rintro u⟨ad,ac,ae,af⟩;go_simp;try with_reducible rfl)
 simp only [Act.put];refine hY(i:=3)(v:= ?vva3)rfl(by kernel_rfl)(fun _ _ _ h=>h)(Or.inl⟨by rfl, ?hya3⟩)aa ?resta3
 case hya3=>(rintro u⟨ad,ac,ae,af⟩;go_simp;try with_reducible rfl)
 simp only [Act.put];refine hY(i:=5)(v:= ?vva5)rfl(by kernel_rfl)(fun _ _ _ h=>h)(Or.inl⟨by rfl, ?hya5⟩)aa ?resta5
 case hya5=>(rintro u⟨ad,ac,ae,af⟩;go_simp;try with_reducible rfl)
 simp only [Act.put];refine hY(i:=6)(v:= ?vva6)rfl(by kernel_rfl)(fun _ _ _ h=>h)(Or.inl⟨by rfl, ?hya6⟩)aa ?resta6
 case hya6=>(rintro u⟨ad,ac,ae,af⟩;go_simp;try with_reducible rfl)
 simp only [Act.put];refine hY(i:=7)(v:= ?vva7)rfl(by kernel_rfl)(fun _ _ _ h=>h)(Or.inl⟨by rfl, ?hya7⟩)aa ?resta7
 case hya7=>(rintro u⟨ad,ac,ae,af⟩;go_simp;try with_reducible rfl)
 simp only [Act.put];refine hY(i:=8)(v:= ?vva8)rfl(by kernel_rfl)(fun _ _ _ h=>h)(Or.inl⟨by rfl, ?hya8⟩)aa ?resta8
 case hya8=>(rintro u⟨ad,ac,ae,af⟩;go_simp;try with_reducible rfl)
 simp only [Act.put];refine ip(i:=4)rfl(by kernel_rfl)(by kernel_rfl)(by rfl) ?_;intro K4 an;have ap:=hZ an;clear an;go_simp;refine(qJ x.1 y.1 _).mono ?_;rintro e w4⟨rfl,au⟩;obtain rfl:=au.symm;refine ap.out _ _ aa ?_;clear ap;try simp only [Act.put,List.setIfInBounds_toArray]
 refine ip(i:=9)rfl(by kernel_rfl)(by kernel_rfl)(by rfl) ?_;intro K9 aq;have ar:=hZ aq;clear aq;go_simp;refine(qJ x.2 y.2 _).mono ?_;rintro e w9⟨rfl,av⟩;obtain rfl:=av.symm;refine ar.out _ _ aa ?_;clear ar;try simp only [Act.put,List.setIfInBounds_toArray]
 refine ip(i:=10)rfl(by kernel_rfl)(by kernel_rfl)(by rfl) ?_;intro Kpa ah;have ai:=hZ ah;clear ah;go_simp;refine ai.out _ _⟨ie(ij(il _ _))_ _ aa.1,ie(ij(il _ _))_ _ aa.2.1,ie(ij(il _ _))_ _ aa.2.2.1,ie(ij(il _ _))_ _ aa.2.2.2⟩ ?_;clear ai;try simp only [Act.put,List.setIfInBounds_toArray]
 refine ip(i:=11)rfl(by kernel_rfl)(by kernel_rfl)(by rfl) ?_;intro Kpb ag;have aj:=hZ ag;clear ag;go_simp;refine(FD(mW x.1 y.1)(mW x.2 y.2)_ _(ax.out)(aw.out)).mono ?_;rintro e wpb⟨rfl,ak⟩;obtain rfl:=ak.symm;refine aj.out _ _⟨ie(ij(il _ _))_ _ aa.1,ie(ij(il _ _))_ _ aa.2.1,ie(ij(il _ _))_ _ aa.2.2.1,ie(ij(il _ _))_ _ aa.2.2.2⟩ ?_;clear aj;try simp only [Act.put,List.setIfInBounds_toArray]
 refine iE rfl(by kernel_rfl)(by kernel_rfl)(by rfl) ?_;go_simp;go_wp2_with fail
 go_ret;exact⟨rfl,al.out _⟩
end
section
open Go.RowKit
def pE(x:Int × Int):List Value:= [.int .i64 x.1, .int .i64 x.2]
theorem ltP(x y:Int × Int):ltOf AE x y=decide(x.1<y.1\/(x.1=y.1/\x.2<y.2)):=by
 unfold ltOf AE orI mW;rw [Bool.eq_iff_iff];simp only [decide_eq_true_eq];repeat' split
 all_goals omega
theorem GS:Sort.SWO(ltOf AE)where
 irrefl x:=by rw [ltP];simp
 trans x y z h1 h2:=by rw [ltP]at*;simp only [decide_eq_true_eq]at*;omega
 ntrans x y z h1 h2:=by rw [ltP]at*;simp only [decide_eq_false_iff_not]at*;omega
theorem wx {ks:List(Nat × Nat)} {d':Array(Int × Int)}(hp:Sort.PermIn 0(ks.map kN).toArray.size(ks.map kN).toArray d')(hs:Sort.SortedIn(ltOf AE)0(ks.map kN).toArray.size d'):d'.toList=(nB ks).map kN:=by
 obtain⟨h1,_,h3⟩:=hp;have ac:d'.size=ks.length:=by rw [h1];simp
 have ab:d'.toList.Perm(ks.map kN):=by
  have e1:(d'.extract 0(ks.map kN).toArray.size).toList=d'.toList:=by rw [Array.toList_extract];simp [List.extract];rw [List.take_of_length_le(by simp [ac])]
  have e2:((ks.map kN).toArray.extract 0(ks.map kN).toArray.size).toList=ks.map kN:=by rw [Array.toList_extract];simp [List.extract];rw [List.take_of_length_le(by simp)]
  rw [e1,e2]at h3;exact h3
 have aa:∀ x∈d'.toList,kN(x.1.toNat,x.2.toNat)=x:=fun x hx=>by
  obtain⟨q,_,rfl⟩:=List.mem_map.1(ab.mem_iff.1 hx);simp [kN]
 have ae:(d'.toList.map fun x=>(x.1.toNat,x.2.toNat)).map kN=d'.toList:=by
  rw [List.map_map];conv=>rhs;rw [<-List.map_id d'.toList]
  exact List.map_congr_left(fun x hx=>aa x hx)
 have ag:(d'.toList.map fun x=>(x.1.toNat,x.2.toNat)).Perm ks:=by
  have:=ab.map(fun x:Int × Int=>(x.1.toNat,x.2.toNat));have e:(ks.map kN).map(fun x:Int × Int=>(x.1.toNat,x.2.toNat))=ks:=by
   rw [List.map_map];conv=>rhs;rw [<-List.map_id ks]
   exact List.map_congr_left(fun x _=>by simp [kN])
  rw [e]at this;exact this
 have af:(d'.toList.map fun x=>(x.1.toNat,x.2.toNat)).Pairwise leP:=by
  rw [List.pairwise_map,List.pairwise_iff_getElem];intro i j hi hj ad;have ah:i<d'.size:=by simpa using hi
  have ai:j<d'.size:=by simpa using hj
  have:=hs i j(Nat.zero_le _)ad(by simp;omega);rw [ltP,getElem!_pos d' i ah,getElem!_pos d' j ai]at this;have b1:=aa d'[i](by simp);have b2:=aa d'[j](by simp);simp only [decide_eq_false_iff_not]at this;simp only [kN,Prod.ext_iff]at b1 b2;unfold leP;simp only [Array.getElem_toList];omega
 rw [uU ag.symm af,ae]
theorem pS {w0 w w':World} {g:Nat}(h:w0.grownBy w none)(hg:w.grownBy w'(some g))(hl:w0.heap.size<=g):w0.grownBy w' none:=
 ⟨hg.os.trans h.os,hg.tape.trans h.tape,hg.output.trans h.output,Nat.le_trans h.size hg.size,fun k hk _=>by
  rw [hg.block k(Nat.lt_of_lt_of_le hk h.size)(by simp;omega)];exact h.block k hk(by simp)⟩
theorem FY(ks:List(Nat × Nat))(g:Nat)(w:World)(hb:w.heap[g]?=some(.cells(nN ks).toArray 165(0,0)))(hn:ks.length<=1000000):
  Calls Tryz.prog 86 #[.slice(some⟨g,0,none⟩)ks.length ks.length, .func(.func 87) #[] #[]]w fun e w'=>e= .returned(.tuple #[])/\(∀ j(hj:j<(nB ks).length),w'.cell?⟨g,j*2,none⟩=some(.int .i64((nB ks)[j].1:Int))/\w'.cell?⟨g,j*2+1,none⟩=some(.int .i64((nB ks)[j].2:Int)))/\w.grownBy w'(some g):=by
 have ac:g<w.heap.size:=(Array.getElem?_eq_some_iff.1 hb).1;have eg:∀ args w,(callFunc 87 args).run Tryz.prog w= .ok(.enter 87 args)w:=enters_of Tryz.func87(by kernel_rfl)rfl;have aa:(ks.map kN).toArray.size=ks.length:=by simp
 have hH:Sort.HoldsK pE 2 w g 0(ks.map kN).toArray:=by
  intro t ht;rw [Sort.size_flatK,aa]at ht;rw [Sort.get_flatK _ _ _ _(by rw [aa];exact ht)];refine⟨?_,by simp [World.frozen?,hb]⟩;have hj:t / 2<(ks.map kN).length:=by simp;omega
  have hq:=tS(ks.map kN)(t / 2)hj;have e1:((ks.map kN).toArray)[t / 2]! =(ks.map kN)[t / 2]:=by rw [getElem!_pos _ _(by simpa using hj)];simp
  rw [e1];simp only [World.cell?,hb];unfold nN;rcases(by omega:t % 2=0\/t % 2=1)with h | h
  ·have et:0+t=t / 2*2:=by omega
   rw [h,et];simpa [pE]using hq.1
  ·have et:0+t=t / 2*2+1:=by omega
   rw [h,et];simpa [pE]using hq.2
 have ab:=AnyQ.slices_SortFunc Tryz.srt 2 Tryz.isAgg165 Tryz.sizeOf165 pE(fun _=>rfl)(fun x v hv=>by simp [pE]at hv;rcases hv with rfl | rfl<;>rfl)AE GS 87 #[]g 0 ks.length(ks.map kN).toArray w eg(fun _ _ _ _ x y=>BH x y _)hH ac(by rw [aa];omega);change Calls Tryz.prog 86 _ _ _ at ab
 rw [aa]at ab;refine ab.mono ?_;rintro e w'⟨rfl,d',n,os,hp,hs,rfl⟩;have hd:=wx(by rw [aa];exact hp)(by rw [aa];exact hs);have af:d'.size=ks.length:=by have:=congrArg List.length hd;simpa [(mG ks).length_eq]using this
 have ah:Sort.HoldsK pE 2(Sort.ahead w n)g 0(ks.map kN).toArray:=hH;have ag:Sort.HoldsK pE 2(Sort.putRowK pE 2(Sort.ahead w n)g 0 d')g 0 d':=Sort.holdsK_putRowK pE 2 _ _ _ _ _ ah(by rw [aa,af]);have ad:(Sort.putRowK pE 2(Sort.ahead w n)g 0 d').heap.size=w.heap.size:=by unfold Sort.putRowK;rw [Sort.size_putRow];rfl
 refine⟨rfl,fun j hj=> ?_, ?_⟩
 ·have ae:j<d'.size:=by rw [af,<-(mG ks).length_eq];exact hj
  have hx:d'[j]! =kN(nB ks)[j]:=by
   rw [getElem!_pos d' j ae];have e1:d'.toList[j]'(by simpa using ae)=((nB ks).map kN)[j]'(by simpa using hj):=by congr 1
   simpa using e1
  have up:∀ o v,(Sort.putRowK pE 2(Sort.ahead w n)g 0 d').cell?⟨g,o,none⟩=some v->(sortWorldK pE 2 w g 0 n d' os).cell?⟨g,o,none⟩=some v:=fun o v hc=>by
   unfold sortWorldK;rw [World.cell?_of_block(w:=Sort.putRowK pE 2(Sort.ahead w n)g 0 d')(by
    show((Sort.putRowK pE 2(Sort.ahead w n)g 0 d').heap++os)[g]?=_
    rw [Array.getElem?_append_left(by rw [ad];exact ac)])]
   exact hc
  have k0:=(ag(j*2)(by rw [Sort.size_flatK];omega)).1;have k1:=(ag(j*2+1)(by rw [Sort.size_flatK];omega)).1;rw [Sort.get_flatK _ _ _ _(by omega)]at k0 k1;have d0:j*2 / 2=j:=by omega
  have d1:(j*2+1)/ 2=j:=by omega
  have m0:j*2 % 2=0:=by omega
  have m1:(j*2+1) % 2=1:=by omega
  rw [d0,m0,hx]at k0;rw [d1,m1,hx]at k1;simp only [Nat.zero_add]at k0 k1;exact⟨up _ _ k0,up _ _ k1⟩
 ·refine⟨rfl,rfl,rfl, ?_,fun k hk hne=> ?_⟩
  ·show w.heap.size<=((Sort.putRowK pE 2(Sort.ahead w n)g 0 d').heap++os).size
   rw [Array.size_append,ad];omega
  ·show((Sort.putRowK pE 2(Sort.ahead w n)g 0 d').heap++os)[k]?=w.heap[k]?
   rw [Array.getElem?_append_left(by rw [ad];exact hk)];show(w.heap.modify g _)[k]?=w.heap[k]?
   rw [Array.getElem?_modify,if_neg(fun e=>hne(by rw [e]))]
end
section
open Go.RowKit
attribute [local go_sem] Go.World.cell?_alloc_some
theorem rK:((Tryz.prog.info? 3).map fun i=>(i.zero,i.size,i.bytes))=some(some(.int .i64 0),1,8):=by kernel_rfl
def oV(a:List Int):List Value:=a.map fun x=> .int .i64 x
theorem Cn(L:List Value)(x:Value)(i n:Nat)(hl:L.length=i)(hi:i<n):(L++List.replicate(n - i)(Value.int .i64 0)).set i x=(L++ [x])++List.replicate(n - (i+1))(Value.int .i64 0):=by
 obtain⟨k,hk⟩:∃ k,n - i=k+1/\n - (i+1)=k:=⟨n - (i+1),by omega,rfl⟩;rw [hk.1,hk.2,List.set_append,if_neg(by omega),hl,Nat.sub_self,List.replicate_succ,List.set_cons_zero];simp
structure Gn(fs:List Int)(W w':World)(gf i:Nat):Prop where
 row:w'.heap[gf]?=some(.cells(oV(fs.take i)++List.replicate(fs.length - i)(Value.int .i64 0)).toArray 3(0,0))
 gr:W.grownBy w'(some gf)
theorem A2 {p:List(List Ins)} {o:Out} {xs:List Ev}(hp:iR p=true)(aJ:sf p o xs)(al:xs.length<=500)(w:World)(pv:Value)(hP:ProgAt w pv p)(base:Nat)(ar:Option Addr)(aA:Nat)
  (hs:w.ownsRow base 76 2(.slice ar xs.length aA)xs.length(iO o.steps))(v0 v1 v2 v3:Int)(aC:Option Addr)(gn gc:Nat):
  Calls Tryz.prog 56 #[pv, .agg #[.int .i64 o.kind, .int .i64 o.thread, .int .i64 o.at_, .slice ar xs.length aA, .int .i64 v0, .int .i64 v1, .int .i64 v2, .int .i64 v3, .slice aC gn gc]]w fun e w'=>∃ v,e= .returned v/\w'.ownsRow w.heap.size 3 1 v(lM p xs).length(oV(lM p xs))/\w.grownBy w' none:=by
 obtain⟨i0,aT,aV,aX,aQ⟩:=info_parts rK;obtain⟨ao,cap,rfl⟩:=hP.form;have HP:=hZ hP;have HV:=hZ hp;have aW:=hZ aJ;have HR:=hZ hs;have aj:=nj p xs;have q0:(xs.length:Int)<=500:=by omega
 have q1:(0:Int)<=(xs.length:Int):=by omega
 clear hP hp aJ hs;go_enter Tryz.func56,Tryz.ntmps56
 go_wp2_with fail
 have ak:∀ a b,w.grownBy((w.alloc a).alloc b)none:=fun a b=>ij(ij(il _ _))
 refine(Fl HV.out aW.out al _ _(HP.out.pres(ie(ak _ _)))base ar aA(iG(iG HR.out))v0 v1 v2 v3 aC gn gc).mono ?_;rintro e w1⟨g,rfl,hg,ab,aG⟩;have aR:Hid(w.grownBy w1 none):=ic(ak _ _)aG;have aU:w.heap.size<=g:=by simp at hg;omega
 have ay:(jt p xs).length=xs.length:=by unfold jt;rw [List.length_map,jy]
 have ap:=hZ(FY(jt p xs)g w1 ab(by omega));rw [ay]at ap;have aI:g<w1.heap.size:=(Array.getElem?_eq_some_iff.1 ab).1;clear aG ab hg ak;go_wp2_with fail
 refine ap.out.mono ?_;clear ap;rintro e w2⟨rfl,aD,au⟩;have hsl:(nB(jt p xs)).length=xs.length:=by rw [(mG _).length_eq,ay]
 have aK:Hid(lM p xs=(nB(jt p xs)).map fun x=>(x.2:Int)):=rfl;generalize nB(jt p xs)=qs at*;have am:=hZ aD;have aB:Hid(w.grownBy w2 none):=pS aR.out au aU;obtain⟨fs,an⟩:∃ fs,fs=lM p xs:=⟨_,rfl⟩;rw [<-an]at aK aj;have aO:=hZ an;clear an;have aw:g<w2.heap.size:=Nat.lt_of_lt_of_le aI au.size;clear aD au ay;go_upto_region 4 with(at_make;refine wpList_make_full _ rfl _ _ _ rfl w2.heap.size 3 i0 _ 1 Tryz.underlying39 aT aV aX .i64 .i64 _ _ xs.length rfl rfl rfl rfl(by rw [aQ];omega)(by unfold maxLen;omega)(by simp) ?_;intro w3 ac ag)
 have aa:w3.heap[w2.heap.size]?=some(.cells(List.replicate xs.length(Value.int .i64 0)).toArray 3(0,0)):=by
  rcases ac.2 with⟨e,_⟩ | ⟨g',cap',cur,hv,_,hh,_,_,hcs,htk⟩
  ·cases e
  ·simp only [Value.slice.injEq,Option.some.injEq,Addr.mk.injEq,true_and,and_true]at hv;obtain⟨rfl,rfl⟩:=hv;rw [hh];have e1:cur.toList=List.replicate xs.length(Value.int .i64 0):=by
    have e2:(madeCells #[Value.int .i64 0](xs.length*1)).toList=List.replicate(xs.length*1)(Value.int .i64 0):=by
     apply List.ext_getElem(by simp [madeCells]);intro i h1 h2;simp only [madeCells,Array.toList_map,List.getElem_map,List.getElem_replicate,Array.toList_range,List.getElem_range];simp [Nat.mod_one]
    rw [Nat.mul_one]at e2;rw [<-e2];simp only [Value.cells,Nat.mul_one]at htk hcs;rw [<-htk,List.take_of_length_le(by simp;omega)]
   rw [<-e1]
 have aN:Hid(∀ j(hj:j<qs.length),w3.cell?⟨g,j*2,none⟩=some(.int .i64(qs[j].1:Int))/\w3.cell?⟨g,j*2+1,none⟩=some(.int .i64(qs[j].2:Int))):=fun j hj=>⟨ie ag _ _(am.out j hj).1,ie ag _ _(am.out j hj).2⟩
 have aM:Hid(w.grownBy w3 none):=ic aB.out ag;have H0:Hid(Gn fs w3 w3 w2.heap.size 0):=⟨by simpa [oV,aj]using aa,il _ _⟩;obtain⟨gf,ax⟩:∃ gf,gf=w2.heap.size:=⟨_,rfl⟩;have hgf3:gf<w3.heap.size:=by rw [ax];exact(Array.getElem?_eq_some_iff.1 aa).1
 have av:g≠gf:=by omega
 have ae:w.heap.size<=gf:=by have:=aB.out.size;omega
 have az:g<w3.heap.size:=by omega
 rw [<-ax]at H0 ⊢;clear ac ag aa am ax aI aw;go_wp2_with fail
 go_loopw [19](fun iv w'=>∃ i:Nat,i<=xs.length/\iv= .int .i64 i/\Hid(Gn fs w3 w' gf i))(fun iv _=>xs.length - (intOf iv).toNat)
 case atStart=>exact⟨0,Nat.zero_le _,rfl,H0⟩
 case round=>
  clear H0;obtain⟨i,hi,rfl,HI⟩:=hrel;obtain⟨w5,aF⟩:∃ w5,w5=wr:=⟨_,rfl⟩;rw [<-aF]at HI ⊢;clear aF;by_cases hlt:i<xs.length
  ·have aS:i<qs.length:=by omega
   obtain⟨c0,c1⟩:=aN.out i aS;have ad:=HI.out.gr.block g az(by simpa using av);have d0:w5.cell?⟨g,i*2,none⟩=some(.int .i64(qs[i].1:Int)):=by rw [World.cell?_of_block ad];exact c0
   have d1:w5.cell?⟨g,i*2+1,none⟩=some(.int .i64(qs[i].2:Int)):=by rw [World.cell?_of_block ad];exact c1
   have aH:i<fs.length:=by omega
   have aE:Hid(fs.take(i+1)=fs.take i++ [(qs[i].2:Int)]):=by
    unfold Hid;rw [List.take_succ_eq_append_getElem aH];congr 2
    simp [aK.out]
   have hs5:w3.heap.size<=w5.heap.size:=HI.out.gr.size;obtain⟨R,hR⟩:∃ R:List Value,R=oV(fs.take i)++List.replicate(fs.length - i)(Value.int .i64 0):=⟨_,rfl⟩;have aL:R.length=fs.length:=by rw [hR];simp [oV];omega
   have aq:=HI.out.row;rw [<-hR]at aq;clear c0 c1 ad;generalize qs[i]=q at*;obtain⟨ah,af⟩:=q;simp only at d0 d1 aE;have ai:(w5.alloc(.cells #[.int .i64(ah:Int), .int .i64(af:Int)]165)).heap[gf]?=some(.cells R.toArray 3(0,0)):=by
    rw [Below.heap_alloc _ _ _(by omega)];exact aq
   have z0:∃ z,(w5.alloc(.cells #[.int .i64(ah:Int), .int .i64(af:Int)]165)).cell?⟨gf,i,none⟩=some z:=⟨R[i]'(by omega),by simp only [World.cell?,ai];simp⟩;obtain⟨z,z0⟩:=z0;have fz0:(w5.alloc(.cells #[.int .i64(ah:Int), .int .i64(af:Int)]165)).frozen?⟨gf,i,none⟩=false:=by simp [World.frozen?,ai]
   have aP:Hid(Gn fs w3((w5.alloc(.cells #[.int .i64(ah:Int), .int .i64(af:Int)]165)).setCell⟨gf,i,none⟩(.int .i64(af:Int)))gf(i+1)):=by
    refine⟨?_,ic HI.out.gr(ic(ij(il _ _))pM)⟩;rw [heap_setCell_same _ gf i _ _ _ ai,aE.out];simp only [List.setIfInBounds_toArray];rw [hR,Cn _ _ i fs.length(by simp [oV];omega)aH];simp [oV]
   have t0:(0:Int)<=(i:Int):=by omega
   have t1:(i:Int)<xs.length:=by omega
   have hne5:gf≠w5.heap.size:=by omega
   have hne6:w5.heap.size≠gf:=by omega
   clear aq ai hR aL;go_wp2_with fail
   go_roundw
   case rel=>exact⟨i+1,by omega,by go_num,aP⟩
   case measure=>simp [intOf];omega
  ·have t1:(xs.length:Int)<=(i:Int):=by omega
   have ei:i=xs.length:=by omega
   have HE:Hid(w5.ownsRow w.heap.size 3 1(.slice(some⟨gf,0,none⟩)xs.length xs.length)fs.length(oV fs)/\w.grownBy w5 none):=by
    have hr:=HI.out.row;rw [List.take_of_length_le(by omega),show fs.length - i=0 by omega]at hr;refine⟨⟨by simp [oV],Or.inr⟨gf,xs.length,_,by rw [aj],ae,hr,by omega,by unfold maxLen;omega,by simp [oV,aj], ?_⟩⟩,pS aM.out HI.out.gr ae⟩;simp [oV];rw [List.take_of_length_le(by simp)]
   go_wp2_with fail
   go_ret;refine⟨.slice(some⟨gf,0,none⟩)xs.length xs.length,rfl, ?_,HE.out.2⟩;rw [<-aO.out];exact HE.out.1
end
end Go.Proofs.YtklenjmfalljgabGreatDoor
