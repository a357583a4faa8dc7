/- The texts Ala. -/
import Derived.Test.YtklenjmfalljgabGreatDoorM12
import Derived.Test.YtklenjmfalljgabGreatDoorM17
import Derived.Test.YtklenjmfalljgabGreatDoorM19
import Derived.Test.YtklenjmfalljgabGreatDoorM20
import Derived.Test.YtklenjmfalljgabGreatDoorM32
import Derived.Test.YtklenjmfalljgabGreatDoorM33
namespace Go.Proofs.YtklenjmfalljgabGreatDoor
set_option maxRecDepth 100000
set_option maxHeartbeats 8000000
section
open Go.RowKit
def HX(W:World)(B b q:Nat)(w:World)(X:Nat->Prop):Prop:=∃ who n f K,Hz B w b who n f K/\W.grownBy w none/\0<=n/\n<=(q:Int)/\(∀ c,c<5->(K c).length<=q)/\∀ g,X g->g<w.heap.size/\who g= .other
def Tru(W:World)(B b q:Nat)(w:World)(X:Nat->Prop)(e:Ending)(w':World):Prop:=e= .returned (.bool true)/\HX W B b q w' X/\∀ g,X g->w'.heap[g]?=w.heap[g]?
theorem HX.grown{W w w':World}{B b q:Nat}{X:Nat->Prop}(h:HX W B b q w X)(a:w.grownBy w' none):HX W B b q w' X:=by
 obtain⟨who,n,f,K,c,e,i,j,k,d⟩:=h;exact⟨who,n,f,K,⟨c.1.grown a,c.2⟩,il e a,i,j,k,fun g hx=>⟨Nat.lt_of_lt_of_le (d g hx).1 a.size,(d g hx).2⟩⟩
theorem HX.mono{W w:World}{B b q a:Nat}{X:Nat->Prop}(h:HX W B b q w X)(l:q<=a):HX W B b a w X:=by
 obtain⟨who,n,f,K,d,e,i,h4,j,k⟩:=h;exact⟨who,n,f,K,d,e,i,by omega,fun c hc=>Nat.le_trans (j c hc) l,k⟩
theorem HX.less{W w:World}{B b q:Nat}{X Y:Nat->Prop}(h:HX W B b q w X)(k:∀ g,Y g->X g):HX W B b q w Y:=by
 obtain⟨who,n,f,K,a,c,d,e,i,j⟩:=h;exact⟨who,n,f,K,a,c,d,e,i,fun g hg=>j g (k g hg)⟩
theorem HX.made{W w:World}{B b q:Nat}{X:Nat->Prop}(h:HX W B b q w X)(o:Obj):HX W B b q (w.alloc o) (fun g=>X g\/g=w.heap.size):=by
 obtain⟨who,n,f,K,a,i,j,k,l,d⟩:=h;have c:w.grownBy (w.alloc o) none:=iq (ir _ _);refine⟨who,n,f,K,⟨a.1.grown c,a.2⟩,il i c,j,k,l,fun g hx=>?_⟩;rcases hx with hx | rfl
 ·exact⟨Nat.lt_of_lt_of_le (d g hx).1 c.size,(d g hx).2⟩
 ·refine⟨by simp,?_⟩;by_cases e:who w.heap.size= .other
  ·exact e
  ·exact absurd (a.1.1.dom _ e).2 (by omega)
theorem HX.base{W w:World}{B b q:Nat}{X:Nat->Prop}(h:HX W B b q w X):W.grownBy w none:=by
 obtain⟨_,_,_,_,_,a,_⟩:=h;exact a
theorem HX.start{W w:World}(h:w.heap[W.heap.size]?=some (.cells (hcl f00) 45 (0,0)))(hg:W.grownBy w none):HX W W.heap.size W.heap.size 0 w (fun _=>False):=
 ⟨_,_,_,_,Hz.start h,hg,Int.le_refl _,Int.le_refl _,fun _c _=>Nat.le_refl _,fun _ e=>e.elim⟩
section
variable {W w : World} {B b q : Nat} {X : Nat -> Prop} {pv sv tv : Value} {p : List (List Ins)} {s t : List Int}
theorem uu(h:HX W B b q w X)(hq:q<=4800000000000)(y:W.heap.size<=B)(x:ShpAt W)(v:ProgAt W pv p)(u:IntsAt W.heap.size W sv s)(hpl:p.length<=1048576)(A:∀ c∈p,c.length<=1048576)(hsl:s.length<=1048576):
  Calls Tryz.prog 6 #[pt b,pv,sv] w (Tru W B b (q+4) w X):=by
 obtain⟨who,n,f,K,o,r,t,h4,i,a⟩:=h;refine(ut W B w b who n f K pv sv p s o r y x v u (by omega) (fun c hc=>by have:=A c hc;omega) (by omega) t (by omega) (fun c hc=>by have:=i c hc;omega)).mono ?_;rintro e w' ⟨z,C,l,k,g1,g2,m,d⟩;have j:=fun g hg=>d.oth g (a g hg).1 (a g hg).2 (by have:=(a g hg).1;omega)
 exact⟨z,⟨C,_,l,k,g1,g2,by omega,by omega,fun c hc=>by have:=m c hc;have:=i c hc;omega,fun g hg=>⟨Nat.lt_of_lt_of_le (a g hg).1 d.size,(j g hg).2⟩⟩,fun g hg=>(j g hg).1⟩
theorem x6(h:HX W B b q w X)(hq:q<=4800000000000)(y:W.heap.size<=B)(x:ShpAt W)(v:ProgAt W pv p)(u:IntsAt W.heap.size W sv s)(hpl:p.length<=1048576)(A:∀ c∈p,c.length<=1048576)(hsl:s.length<=1048576):
  Calls Tryz.prog 7 #[pt b,pv,sv] w (Tru W B b (q+4) w X):=by
 obtain⟨who,n,f,K,o,r,t,h4,i,a⟩:=h;refine(xZ W B w b who n f K pv sv p s o r y x v u (by omega) (fun c hc=>by have:=A c hc;omega) (by omega) t (by omega) (fun c hc=>by have:=i c hc;omega)).mono ?_;rintro e w' ⟨z,C,l,k,g1,g2,m,d⟩;have j:=fun g hg=>d.oth g (a g hg).1 (a g hg).2 (by have:=(a g hg).1;omega)
 exact⟨z,⟨C,_,l,k,g1,g2,by omega,by omega,fun c hc=>by have:=m c hc;have:=i c hc;omega,fun g hg=>⟨Nat.lt_of_lt_of_le (a g hg).1 d.size,(j g hg).2⟩⟩,fun g hg=>(j g hg).1⟩
theorem tj{fuel:Int}(h:HX W B b q w X)(hq:q<=4800000000000)(y:W.heap.size<=B)(x:ShpAt W)(v:ProgAt W pv p)(u:IntsAt W.heap.size W sv s)(C:nilOk sv)(A:fuel<=9223372036854775807)(hpl:p.length<=1048576)(D:∀ c∈p,c.length<=1048576)(hsl:s.length<=1048576):
  Calls Tryz.prog 8 #[pt b,pv,sv,.int .i64 fuel] w (Tru W B b (q+4) w X):=by
 obtain⟨who,n,f,K,o,r,t,h4,i,a⟩:=h;refine(ti W B w b who n f K pv sv p s fuel o r y x v u C A (by omega) (fun c hc=>by have:=D c hc;omega) (by omega) t (by omega) (fun c hc=>by have:=i c hc;omega)).mono ?_;rintro e w' ⟨z,E,l,k,g1,g2,m,d⟩;have j:=fun g hg=>d.oth g (a g hg).1 (a g hg).2 (by have:=(a g hg).1;omega)
 exact⟨z,⟨E,_,l,k,g1,g2,by omega,by omega,fun c hc=>by have:=m c hc;have:=i c hc;omega,fun g hg=>⟨Nat.lt_of_lt_of_le (a g hg).1 d.size,(j g hg).2⟩⟩,fun g hg=>(j g hg).1⟩
theorem tE(h:HX W B b q w X)(l:W.heap.size<=B)(z:ShpAt W)(y:ProgAt W pv p)(x:IntsAt W.heap.size W sv s)(hpl:p.length<=1048576)(C:∀ c∈p,c.length<=1048576)(hsl:s.length<=1048576)(k:IntsAt W.heap.size W tv t)(htl:t.length<=1048576):
  Calls Tryz.prog 9 #[pt b,pv,sv,tv] w (Tru W B b q w X):=by
 obtain⟨who,n,f,K,j,d,r,u,v,a⟩:=h;refine(tD W B w b who n f K pv sv tv p s t j d l z y x ((k.pres (ip d)).mono d.size) (kg j.1 l k) (by omega) (fun c hc=>by have:=C c hc;omega) (by omega) (by omega)).mono ?_;rintro e w' ⟨A,D,o,g1,g2,i⟩;have m:=fun g hg=>i.oth g (a g hg).1 (a g hg).2 (by have:=(a g hg).1;omega)
 exact⟨A,⟨D,_,o,K,g1,g2,r,u,v,fun g hg=>⟨Nat.lt_of_lt_of_le (a g hg).1 i.size,(m g hg).2⟩⟩,fun g hg=>(m g hg).1⟩
theorem vO{rv:Value}{k0 k1 k2:Int}(h:HX W B b q w X)(y:W.heap.size<=B)(x:ShpAt W)(v:ProgAt W (.agg #[rv]) p)(u:IntsAt W.heap.size W sv s)(hpl:p.length<=1048576)(C:∀ c∈p,c.length<=1048576)(hsl:s.length<=1048576)(A:∀ c∈p,∀ i∈c,nInt i):
  Calls Tryz.prog 11 #[pt b,.agg #[rv,sv,.int .i64 k0,.int .i64 k1,.int .i64 k2]] w (Tru W B b q w X):=by
 obtain⟨who,n,f,K,l,m,o,r,t,a⟩:=h;refine(vN W B w b who n f K rv sv p s k0 k1 k2 l m y x v u (by omega) (fun c hc=>by have:=C c hc;omega) (by omega) A).mono ?_;rintro e w' ⟨z,D,k,g1,g2,d⟩;have j:=fun g hg=>d.oth g (a g hg).1 (a g hg).2 (by have:=(a g hg).1;omega)
 exact⟨z,⟨D,_,k,K,g1,g2,o,r,t,fun g hg=>⟨Nat.lt_of_lt_of_le (a g hg).1 d.size,(j g hg).2⟩⟩,fun g hg=>(j g hg).1⟩
theorem vK{x:ByteArray}(h:HX W B b q w X)(hq:q<=4800000000000)(p:W.heap.size<=B)(o:ShpAt W)(s:x.size<=9223372036854775000):
  Calls Tryz.prog 12 #[pt b,.string x] w (Tru W B b (q+16) w (fun _=>False)):=by
 obtain⟨who,n,f,K,k,l,m,h4,a,_⟩:=h;refine(vJ W B w b who n f K x k l p o s m (by omega) (fun c hc=>by have:=a c hc;omega)).mono ?_;rintro e w' ⟨r,n',t,i,d,g0,g0',g1,g2,j⟩;exact⟨r,⟨t,n',i,d,g1,g2,by omega,by omega,fun c hc=>by have:=j c hc;have:=a c hc;omega,fun _ e=>e.elim⟩,fun _ e=>e.elim⟩
theorem wG(h:HX W B b q w X)(o:W.heap.size<=B)(m:Tab W)(l:IntsAt W.heap.size W sv s)(r:s.length<=1048576):
  Calls Tryz.prog 14 #[pt b,sv] w (Tru W B b q w (fun _=>False)):=by
 obtain⟨who,n,f,K,c,d,i,j,k,_⟩:=h;refine(wF W B w b who n f K sv s c d o m l r).mono ?_;rintro e w' ⟨p,t,a,g1,g2,_⟩;exact⟨p,⟨t,_,a,K,g1,g2,i,j,k,fun _ e=>e.elim⟩,fun _ e=>e.elim⟩
theorem yM{x:ByteArray}(h:HX W B b q w X)(hq:q<=4800000000000)(o:W.heap.size<=B)(r:x.size<=1048576):
  Calls Tryz.prog 13 #[pt b,.string x] w (Tru W B b (q+16) w (fun _=>False)):=by
 obtain⟨who,n,f,K,k,l,m,h4,a,_⟩:=h;refine(yL W B w b who n f K x k l o r m (by omega) (fun c hc=>by have:=a c hc;omega)).mono ?_;rintro e w' ⟨p,s,i,d,g1,g2,j⟩;exact⟨p,⟨s,_,i,d,g1,g2,by omega,by omega,fun c hc=>by have:=j c hc;have:=a c hc;omega,fun _ e=>e.elim⟩,fun _ e=>e.elim⟩
end
end
end Go.Proofs.YtklenjmfalljgabGreatDoor
