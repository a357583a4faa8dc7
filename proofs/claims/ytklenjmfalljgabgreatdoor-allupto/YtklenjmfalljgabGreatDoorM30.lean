/- The texts Nil Arg Arh Ari Arj. -/
import Derived.Test.YtklenjmfalljgabGreatDoorM01
import Derived.Test.YtklenjmfalljgabGreatDoorM02
import Derived.Test.YtklenjmfalljgabGreatDoorM24
import Derived.Test.YtklenjmfalljgabGreatDoorRows
import Derived.Deep.Slices
import Derived.Deep.DeepHandedRow
import Derived.Deep.DeepWitnessRowRef
import Derived.LaidMore
import Derived.Carry
import Derived.ProofKit
import Derived.OpenShut
import Derived.Lib.SmallJoins
import Derived.Deep.Strs
namespace Go.Proofs.YtklenjmfalljgabGreatDoor
set_option maxRecDepth 100000
set_option maxHeartbeats 8000000
section
def yW(x:Value):Prop:=∀ n c,x= .slice none n c->n=0/\c=0
def D1(W:World)(pv:Value):Prop:=∀ g o n cap t rv,pv= .agg #[.slice (some ⟨g,o,none⟩) n cap]->t<n->W.cell? ⟨g,o+t,none⟩=some rv->yW rv
end
section
open Go.ChangeShapes Go.WideShapes Go.ChangeAt Go.RowKit
theorem own:ownKnob Tryz.prog.godebug=none:=by kernel_rfl
theorem qr:laidOutB Tryz.prog=true:=by kernel_rfl
theorem Gl:Tryz.prog.globalNamed "rerun/machine.shapes" =some 0:=by kernel_rfl
theorem Gk:(Tryz.prog.globals[0]?).map (·.type)=some 236:=by kernel_rfl
theorem FZ:Tryz.prog.cellsOf 3=1:=by kernel_rfl
theorem F4:Tryz.prog.cellsOf 39=1:=by kernel_rfl
theorem FC:Tryz.prog.cellsOf 235=3:=by kernel_rfl
theorem B6:Tryz.prog.cellsOf 233=1:=by kernel_rfl
theorem wM{w w':World}(h:w.grownBy w' none):Below w.heap.size w w':=⟨h.os,h.tape,h.output,h.size,fun k hk=>h.block k hk (by simp)⟩
theorem DH{w:World}{a:Addr}{v:Value}(h:w.cell? a=some v):a.block<w.heap.size:=by
 unfold World.cell? at h;split at h
 ·rename_i hh;exact(Array.getElem?_eq_some_iff.1 hh).1
 ·cases h
theorem kE{w:World}{a:Addr}{j:Nat}{v:Value}(c:a.spot=none)(h:w.cell? (a.add j)=some v):w.cell? ⟨a.block,a.off+j,none⟩=some v:=by
 have e:a.add j=⟨a.block,a.off+j,none⟩:=by
  obtain⟨b,o,s⟩:=a;simp only at c;subst c;unfold Addr.add;split<;>simp_all
 rw [e]at h;exact h
section
variable {H : Type} {enc : TypeId × Value -> H} {W : World}
theorem EF{v:Value}{d:DataW H}{a:List MemPlace}{base:Nat}(c:Value.okWide Tryz.prog W .any base 3 v)(h:DataW.Trod enc Tryz.prog W 0 (fun _=>true) true 3 v d a):
  ∃ n,v= .int .i64 n/\oM n:=by
 obtain⟨n,rfl,_,_,b⟩:=open_int Tryz.underlying3 c h;exact⟨n,rfl,by simpa [Lit.wf,IntKind.min,IntKind.max,IntKind.signed,IntKind.bits,oM]using b⟩
end
theorem EH(o j:Nat)(ho:o<12)(hj:j<3)(l:List (DataW Unit))(h:(DataW.agg l:DataW Unit)=(match (Rows.laid_rerun_machine_shapes:DataW Unit)with | .agg l=>l[o]?.getD .nil | _=> .nil)):l[j]?=some (.lit (.int .i64 (shp o j))):=by
 have a:o=0\/o=1\/o=2\/o=3\/o=4\/o=5\/o=6\/o=7\/o=8\/o=9\/o=10\/o=11:=by omega
 have b:j=0\/j=1\/j=2:=by omega
 rcases a with rfl | rfl | rfl | rfl | rfl | rfl | rfl | rfl | rfl | rfl | rfl | rfl<;>(simp [Rows.laid_rerun_machine_shapes]at h;subst h;rcases b with rfl | rfl | rfl<;>rfl)
theorem DP{W:World}{h:Nat}{n:TypeId}{c:Array Value}{J:Nat}{D:List MemPlace}(q:Tryz.prog.globalNamed "rerun/machine.shapes" =some h)(C:(Tryz.prog.globals[h]?).map (·.type)=some n)(F:W.var? Tryz.prog "rerun/machine.shapes" =some c)
  (A:DataW.trod (fun _=>()) Tryz.prog W 0 (fun _=>true) false J n c.toList=some (Rows.laid_rerun_machine_shapes,D)):ShpAt W:=by
 obtain rfl:=Option.some.inj (Gl.symm.trans q);obtain rfl:=Option.some.inj (Gk.symm.trans C);obtain⟨xs,m1,rfl,r,hlen,hn12,E⟩:=DataW.trod_array Tryz.underlying236 A;simp only [Prod.mk.injEq]at r;intro o j m d;have f:o<xs.length:=by omega
 have i:=E o m;rw [FC,List.getElem?_eq_getElem f]at i;obtain⟨a,u,rfl,w,hylen,G,e⟩:=DataW.trod_struct Tryz.underlying235 i;have v:(DataW.agg (a.map (·.1)):DataW Unit)=xs[o].1:=by rw [w]
 have hxo:(xs.map (·.1))[o]?=some xs[o].1:=by simp [f]
 have I:(DataW.agg (a.map (·.1)):DataW Unit)=(match (Rows.laid_rerun_machine_shapes:DataW Unit)with | .agg l=>l[o]?.getD .nil | _=> .nil):=by
  rw [v,r.1];simp [f]
 have s:=EH o j m d _ I;have b:j<a.length:=by rw [G];simpa using d
 have z:DataW.trod (fun _=>()) Tryz.prog W 0 (fun _=>true) false u 233 ((((c.toList.drop (o*3)).take 3).drop j).take 1)=some a[j]:=by
  have x:j=0\/j=1\/j=2:=by omega
  rcases x with rfl | rfl | rfl
  ·have:=e 0 _ rfl;rw [List.getElem?_eq_getElem b]at this;simpa [B6]using this
  ·have:=e 1 _ rfl;rw [List.getElem?_eq_getElem b]at this;simpa [B6]using this
  ·have:=e 2 _ rfl;rw [List.getElem?_eq_getElem b]at this;simpa [B6]using this
 obtain⟨k,y,B,_⟩:=DataW.trod_int Tryz.underlying233 z;have t:k=shp o j:=by
  rw [List.getElem?_map,List.getElem?_eq_getElem b,B]at s;simpa using s
 have H:=World.var?_cell q F (o*3+j);have hc:c[o*3+j]?=some (.int .i64 k):=by
  have p:=congrArg (fun l=>l[0]?) y;simp [d]at p;exact p
 rw [t]at hc;rw [H];exact hc
end
section
open Go.ChangeShapes Go.WideShapes Go.ChangeAt Go.RowKit Go.Joins
theorem zI{H:Type}(d:DataW H):1<=Rows.uptoBulk d:=by
 cases d with
 | lit l=>cases l<;>simp [Rows.uptoBulk]
 | nil=>simp [Rows.uptoBulk]
 | ptr d=>simp [Rows.uptoBulk]
 | slice elems spare=>simp [Rows.uptoBulk]
 | agg parts=>simp [Rows.uptoBulk]
 | iface t d=>simp [Rows.uptoBulk]
 | map entries=>simp [Rows.uptoBulk]
 | held h=>simp [Rows.uptoBulk]
theorem qu{H:Type}(l:List (DataW H)):l.length<=Rows.uptoBulkAll l:=by
 induction l with
 | nil=>simp [Rows.uptoBulkAll]
 | cons x r ih=>have:=zI x;simp only [Rows.uptoBulkAll,List.length_cons];omega
theorem ve{H:Type}(l:List (DataW H))(d:DataW H)(h:d∈l):Rows.uptoBulk d<=Rows.uptoBulkAll l:=by
 induction l with
 | nil=>cases h
 | cons x r ih=>
  simp only [Rows.uptoBulkAll];rcases List.mem_cons.1 h with rfl | h
  ·omega
  ·have:=ih h;omega
theorem FY:Tryz.prog.cellsOf 65=4:=by kernel_rfl
theorem F1:Tryz.prog.cellsOf 66=1:=by kernel_rfl
theorem Gc:Tryz.prog.cellsOf 35=1:=by kernel_rfl
theorem Gg:Tryz.prog.cellsOf 37=1:=by kernel_rfl
section
variable {H : Type} {enc : TypeId × Value -> H} {W : World}
theorem FO{fuel:Nat}{cs:List Value}{x:DataW H × List MemPlace}(h:DataW.trod enc Tryz.prog W 0 (fun _=>true) true fuel 65 cs=some x):∃ i:Ins,cs=[.int .i64 i.op,.int .i64 i.a,.int .i64 i.b,.int .i64 i.n]/\oM i.n:=by
 obtain⟨y0,y1,y2,y3,n,_,m,l,j,e,c⟩:=trod_struct4 Tryz.underlying65 h;rw [FY]at m;match cs,m with
 | [v0,v1,v2,v3],_=>
  simp only [FZ,List.drop_zero,List.drop_succ_cons,List.take_succ_cons,List.take_zero]at l j e c;obtain⟨k0,d,_⟩:=DataW.trod_int Tryz.underlying3 l;obtain⟨k1,k,_⟩:=DataW.trod_int Tryz.underlying3 j;obtain⟨k2,f,_⟩:=DataW.trod_int Tryz.underlying3 e;obtain⟨q,o,_,p⟩:=DataW.trod_int Tryz.underlying3 c;simp only [List.cons.injEq,and_true]at d k f o;subst d k f o;exact⟨⟨k0,k1,k2,q⟩,rfl,by simpa [Lit.wf,IntKind.min,IntKind.max,IntKind.signed,IntKind.bits,oM]using p⟩
theorem Ay{fuel:Nat}{v:Value}{x:DataW H × List MemPlace}(h:DataW.trod enc Tryz.prog W 0 (fun _=>true) true fuel 66 [v]=some x):∃ c,CodeAt W v c/\yW v/\c.length<=Rows.uptoBulk x.1/\∀ i∈c,oM i.n:=by
 rcases Deep.open_slice Tryz.underlying66 h with ⟨e,_⟩ | ⟨a,len,cap,m,n,D,Pl,e,_,hl,_,hm,hx,hel⟩
 ·simp only [List.cons.injEq,and_true]at e;subst e;exact⟨[],⟨none,0,rfl,fun k l=>by simp at l⟩,fun n c e=>by simp at e;omega,by simp,fun i hi=>by cases hi⟩
 ·simp only [List.cons.injEq,and_true]at e;subst e;simp only [if_true]at hm;rw [FY]at hel;have hinh:Inhabited Ins:=⟨⟨0,0,0,0⟩⟩;obtain⟨f,t⟩:=Deep.choose_lt (α:=Ins) (n:=len) (p:=fun k i=>W.cell? (a.add (k*4))=some (.int .i64 i.op)/\W.cell? (a.add (k*4+1))=some (.int .i64 i.a)/\W.cell? (a.add (k*4+2))=some (.int .i64 i.b)/\W.cell? (a.add (k*4+3))=some (.int .i64 i.n)/\oM i.n) (fun k l=>by
   obtain⟨cs',r,q⟩:=hel k (by omega);obtain⟨i,rfl,y⟩:=FO q;obtain⟨_,_,d⟩:=World.cells?_some r;refine⟨i,?_,?_,?_,?_,y⟩
   ·have:=d 0 (by omega);rw [Deep.add_add]at this;simpa using this
   ·have:=d 1 (by omega);rw [Deep.add_add]at this;simpa using this
   ·have:=d 2 (by omega);rw [Deep.add_add]at this;simpa using this
   ·have:=d 3 (by omega);rw [Deep.add_add]at this;simpa using this)
  have u:((List.range len).map f).length=len:=by simp
  refine⟨(List.range len).map f,⟨some a,cap,by rw [u],fun k l=>?_⟩,fun n c e=>by simp at e,?_,fun i hi=>?_⟩
  ·have z:k<len:=by omega
   obtain⟨A,r,q,d,_⟩:=t k z;have j:a.spot=none:=by
    have:=(t 0 (by omega)).1;exact World.cell?_spot (w:=W) (by simpa [Addr.add]using this)
   refine⟨a.block,a.off,?_,?_,?_,?_,?_⟩
   ·obtain⟨b,o,s⟩:=a;simp only at j;subst j;rfl
   ·simpa using kE j A
   ·simpa [Nat.add_assoc]using kE j r
   ·simpa [Nat.add_assoc]using kE j q
   ·simpa [Nat.add_assoc]using kE j d
  ·rw [u,hx];have:=qu ((List.range len).map D);simp only [Rows.uptoBulk];simp at this;omega
  ·obtain⟨k,l,rfl⟩:=List.mem_map.1 hi;exact(t k (by simpa using l)).2.2.2.2
theorem AI{fuel:Nat}{v:Value}{x:DataW H × List MemPlace}(h:DataW.trod enc Tryz.prog W 0 (fun _=>true) true fuel 35 [v]=some x):
  ∃ p,ProgAt W (.agg #[v]) p/\D1 W (.agg #[v])/\p.length<=Rows.uptoBulk x.1/\∀ c∈p,c.length<=Rows.uptoBulk x.1/\∀ i∈c,oM i.n:=by
 rcases Deep.open_slice1 Tryz.underlying35 F1 h with ⟨e,_⟩ | ⟨a,len,cap,m,n,V,D,Pl,e,_,hl,_,hm,hx,hel⟩
 ·simp only [List.cons.injEq,and_true]at e;subst e;exact⟨[],⟨none,0,rfl,fun k d=>by simp at d⟩,fun g o n cap t rv e=>by simp at e,by simp,fun c hc=>by cases hc⟩
 ·simp only [List.cons.injEq,and_true]at e;subst e;simp only [if_true]at hm;obtain⟨f,r⟩:=Deep.choose_lt (α:=List Ins) (n:=len) (p:=fun k c=>CodeAt W (V k) c/\yW (V k)/\c.length<=Rows.uptoBulk (D k)/\∀ i∈c,oM i.n) (fun k d=>Ay (hel k (by omega)).2);have u:((List.range len).map f).length=len:=by simp
  have z:0<len->a.spot=none:=fun j=>by
   have:=(hel 0 (by omega)).1;exact World.cell?_spot (w:=W) (by simpa [Addr.add]using this)
  have hall:len+0<=Rows.uptoBulkAll ((List.range len).map D):=by
   have:=qu ((List.range len).map D);simp at this;omega
  refine⟨(List.range len).map f,⟨some a,cap,by rw [u],fun k d=>?_⟩,fun g o n cp t rv e ht hc=>?_,?_,fun c hc=>?_⟩
  ·have l:k<len:=by omega
   have j:=z (by omega);refine⟨a.block,a.off,?_,V k,kE j (hel k (by omega)).1,?_⟩
   ·obtain⟨b,o,s⟩:=a;simp only at j;subst j;rfl
   ·simpa using (r k l).1
  ·simp only [Value.agg.injEq,Array.mk.injEq,List.cons.injEq,Value.slice.injEq,Option.some.injEq,and_true]at e;obtain⟨rfl,rfl,rfl⟩:=e;have q:=kE rfl (hel t (by omega)).1;simp only at q;rw [q]at hc;simp only [Option.some.injEq]at hc;rw [<-hc];exact(r t ht).2.1
  ·rw [u,hx];simp only [Rows.uptoBulk];omega
  ·obtain⟨k,d,rfl⟩:=List.mem_map.1 hc;have l:k<len:=by simpa using d
   obtain⟨q,y⟩:=(r k l).2.2;have h2:=ve ((List.range len).map D) (D k) (List.mem_map.2 ⟨k,d,rfl⟩);refine⟨?_,y⟩;rw [hx];simp only [Rows.uptoBulk];omega
end
section
variable {H : Type} {enc : TypeId × Value -> H} {W : World}
theorem Dm{fuel:Nat}{v:Value}{x:DataW H × List MemPlace}(h:DataW.trod enc Tryz.prog W 0 (fun _=>true) true fuel 39 [v]=some x):∃ l,IntsAt W.heap.size W v l/\yW v/\l.length<=Rows.uptoBulk x.1:=by
 rcases open_ints Tryz.underlying39 Tryz.underlying3 FZ h with ⟨e,_⟩ | ⟨a,len,cap,zs,e,_,hl,_,hz,hx,hc,hw⟩
 ·simp only [List.cons.injEq,and_true]at e;subst e;exact⟨[],⟨none,0,rfl,Nat.le_refl _,fun k hk=>by simp at hk⟩,fun n c e=>by simp at e;omega,by simp⟩
 ·simp only [List.cons.injEq,and_true]at e;subst e;simp only [if_true]at hz;have i:(zs.take len).length=len:=by simp;omega
  refine⟨zs.take len,⟨some a,cap,by rw [i],by omega,fun k hk=>?_⟩,fun n c e=>by simp at e,?_⟩
  ·have d:a.spot=none:=by
    have:=hc 0 (by omega);exact World.cell?_spot (w:=W) (by simpa [Addr.add]using this)
   have f:k<zs.length:=by omega
   have:=hc k f;refine⟨a.block,a.off,?_,DH (a:=⟨a.block,a.off+k,none⟩) (kE d this),?_⟩
   ·obtain⟨b,o,s⟩:=a;simp only at d;subst d;rfl
   ·rw [kE d this];simp [List.getD,f]
  ·rw [hx];have:=qu (lits (H:=H) .i64 (zs.take len));have hll:(lits (H:=H) .i64 (zs.take len)).length=(zs.take len).length:=by simp [lits]
   simp only [Rows.uptoBulk];omega
theorem C4{fuel:Nat}{v:Value}{x:DataW H × List MemPlace}(h:DataW.trod enc Tryz.prog W 0 (fun _=>true) true fuel 37 [v]=some x):
  ∃ p,ProgAt W (.agg #[v]) p/\p.length<=Rows.uptoBulk x.1/\(∀ c∈p,c.length<=Rows.uptoBulk x.1/\∀ i∈c,oM i.n)/\2<=Rows.uptoBulk x.1:=by
 obtain⟨a,n,j,hl,d⟩:=trod_struct1 Tryz.underlying37 h;have k:DataW.trod enc Tryz.prog W 0 (fun _=>true) true n 35 [v]=some a:=by simpa [Gc]using d
 obtain⟨p,f,_,h3,b⟩:=AI k;have e:x.1= .agg [a.1]:=congrArg Prod.fst j;have hb:Rows.uptoBulk a.1+1<=Rows.uptoBulk x.1:=by
  rw [e];simp only [Rows.uptoBulk,Rows.uptoBulkAll];omega
 have:=zI a.1;exact⟨p,f,by omega,fun c hc=>⟨by have:=(b c hc).1;omega,(b c hc).2⟩,by omega⟩
end
theorem Gi:Tryz.prog.cellsOf 9=1:=by kernel_rfl
theorem CV{H:Type}(l:List (DataW H))(h:∀ d∈l,2<=Rows.uptoBulk d):2*l.length<=Rows.uptoBulkAll l:=by
 induction l with
 | nil=>simp [Rows.uptoBulkAll]
 | cons x r ih=>
  have h1:=h x List.mem_cons_self;have h2:=ih fun d hd=>h d (List.mem_cons_of_mem _ hd)
  simp only [Rows.uptoBulkAll,List.length_cons];omega
def ProgsAt(W:World)(v:Value)(P:List (List (List Ins))):Prop:=
 ∃ ao cap,v= .slice ao P.length cap/\∀ i (hi:i<P.length),∃ g o,ao=some ⟨g,o,none⟩/\∃ rv,W.cell? ⟨g,o+i,none⟩=some rv/\ProgAt W (.agg #[rv]) P[i]
def SchsAt(W:World)(v:Value)(S:List (List Int)):Prop:=
 ∃ ao cap,v= .slice ao S.length cap/\∀ i (hi:i<S.length),∃ g o,ao=some ⟨g,o,none⟩/\∃ rv,W.cell? ⟨g,o+i,none⟩=some rv/\IntsAt W.heap.size W rv S[i]/\yW rv
section
variable {H : Type} {enc : TypeId × Value -> H} {W : World}
theorem ru{a:Addr}{v:Value}(h:W.cell? (a.add 0)=some v):a=⟨a.block,a.off,none⟩:=by
 have c:a.spot=none:=World.cell?_spot (w:=W) (by simpa [Addr.add]using h);obtain⟨b,o,s⟩:=a;simp only at c;subst c;rfl
theorem Bl{v:Value}{d:DataW H}{t:List MemPlace}{base:Nat}(w:Value.okWide Tryz.prog W .any base 22 v)(h:DataW.Trod enc Tryz.prog W 0 (fun _=>true) true 22 v d t):
  ∃ P,ProgsAt W v P/\2*P.length<=Rows.uptoBulk d/\∀ p∈P,p.length<=Rows.uptoBulk d/\∀ c∈p,c.length<=Rows.uptoBulk d/\∀ i∈c,oM i.n:=by
 obtain⟨a0,len0,cap0,rfl⟩:=okWide_slice Tryz.underlying22 w;obtain⟨fuel,x⟩:=h;rcases Deep.open_slice1 Tryz.underlying22 Gg x with ⟨e,_⟩ | ⟨a,len,cap,m,n,V,D,Pl,e,_,hl,_,hm,hx,hel⟩
 ·simp [Value.cells]at e;rw [e.1,e.2.1,e.2.2];exact⟨[],⟨none,0,rfl,fun k b=>by simp at b⟩,by simp,fun p hp=>by cases hp⟩
 ·simp [Value.cells]at e;rw [e.1,e.2.1,e.2.2];simp only [if_true]at hm;obtain⟨f,o⟩:=Deep.choose_lt (α:=List (List Ins)) (n:=len) (p:=fun k p=>ProgAt W (.agg #[V k]) p/\p.length<=Rows.uptoBulk (D k)/\(∀ c∈p,c.length<=Rows.uptoBulk (D k)/\∀ i∈c,oM i.n)/\2<=Rows.uptoBulk (D k)) (fun k b=>C4 (hel k (by omega)).2);have q:((List.range len).map f).length=len:=by simp
  have l:d= .slice ((List.range len).map D) ((List.range (m - len)).map fun j=>D (len+j)):=congrArg Prod.fst hx;refine⟨(List.range len).map f,⟨some a,cap,by rw [q],fun k b=>?_⟩,?_,fun p hp=>?_⟩
  ·have u:k<len:=by omega
   have s:=ru (hel 0 (by omega)).1;refine⟨a.block,a.off,by rw [<-s],V k,kE (by rw [s]) (hel k (by omega)).1,?_⟩;simpa using (o k u).1
  ·rw [q,l];have:=CV ((List.range len).map D) (fun d l=>by
    obtain⟨k,b,rfl⟩:=List.mem_map.1 l;exact(o k (by simpa using b)).2.2.2)
   simp only [Rows.uptoBulk];simp at this;omega
  ·obtain⟨k,b,rfl⟩:=List.mem_map.1 hp;obtain⟨_,h1,r,_⟩:=o k (by simpa using b);have h3:=ve ((List.range len).map D) (D k) (List.mem_map.2 ⟨k,b,rfl⟩);have h4:Rows.uptoBulk (D k)<=Rows.uptoBulk d:=by
    rw [l];simp only [Rows.uptoBulk];omega
   exact⟨by omega,fun c hc=>⟨by have:=(r c hc).1;omega,(r c hc).2⟩⟩
theorem Cb{v:Value}{d:DataW H}{t:List MemPlace}{base:Nat}(u:Value.okWide Tryz.prog W .any base 23 v)(h:DataW.Trod enc Tryz.prog W 0 (fun _=>true) true 23 v d t):
  ∃ S,SchsAt W v S/\S.length<=Rows.uptoBulk d/\∀ s∈S,s.length<=Rows.uptoBulk d:=by
 obtain⟨a0,len0,cap0,rfl⟩:=okWide_slice Tryz.underlying23 u;obtain⟨fuel,w⟩:=h;rcases Deep.open_slice1 Tryz.underlying23 F4 w with ⟨e,_⟩ | ⟨a,len,cap,m,n,V,D,Pl,e,_,hl,_,hm,hx,hel⟩
 ·simp [Value.cells]at e;rw [e.1,e.2.1,e.2.2];exact⟨[],⟨none,0,rfl,fun k b=>by simp at b⟩,by simp,fun p hp=>by cases hp⟩
 ·simp [Value.cells]at e;rw [e.1,e.2.1,e.2.2];simp only [if_true]at hm;obtain⟨f,c⟩:=Deep.choose_lt (α:=List Int) (n:=len) (p:=fun k l=>IntsAt W.heap.size W (V k) l/\yW (V k)/\l.length<=Rows.uptoBulk (D k)) (fun k b=>Dm (hel k (by omega)).2);have i:((List.range len).map f).length=len:=by simp
  have o:d= .slice ((List.range len).map D) ((List.range (m - len)).map fun j=>D (len+j)):=congrArg Prod.fst hx;refine⟨(List.range len).map f,⟨some a,cap,by rw [i],fun k b=>?_⟩,?_,fun p hp=>?_⟩
  ·have q:k<len:=by omega
   have r:=ru (hel 0 (by omega)).1;refine⟨a.block,a.off,by rw [<-r],V k,kE (by rw [r]) (hel k (by omega)).1,?_,(c k q).2.1⟩;simpa using (c k q).1
  ·rw [i,o];have:=qu ((List.range len).map D);simp only [Rows.uptoBulk];simp at this;omega
  ·obtain⟨k,b,rfl⟩:=List.mem_map.1 hp;obtain⟨_,_,h1⟩:=c k (by simpa using b);have h3:=ve ((List.range len).map D) (D k) (List.mem_map.2 ⟨k,b,rfl⟩);have h4:Rows.uptoBulk (D k)<=Rows.uptoBulk d:=by
    rw [o];simp only [Rows.uptoBulk];omega
   omega
theorem wN{v:Value}{d:DataW H}{r:List MemPlace}{base:Nat}(u:Value.okWide Tryz.prog W .any base 24 v)(h:DataW.Trod enc Tryz.prog W 0 (fun _=>true) true 24 v d r):
  ∃ L,StrsAt W v L/\L.length<=Rows.uptoBulk d/\∀ x∈L,x.size<=Rows.uptoBulk d:=by
 obtain⟨a0,len0,cap0,rfl⟩:=okWide_slice Tryz.underlying24 u;obtain⟨fuel,y⟩:=h;rcases Deep.open_slice1 Tryz.underlying24 Gi y with ⟨e,_⟩ | ⟨a,len,cap,m,n,V,D,Pl,e,_,hl,_,hm,hx,hel⟩
 ·simp [Value.cells]at e;rw [e.1,e.2.1,e.2.2];exact⟨[],⟨none,0,rfl,fun k b=>by simp at b⟩,by simp,fun p hp=>by cases hp⟩
 ·simp [Value.cells]at e;rw [e.1,e.2.1,e.2.2];simp only [if_true]at hm;have hinh:Inhabited ByteArray:=⟨⟨#[]⟩⟩;obtain⟨f,o⟩:=Deep.choose_lt (α:=ByteArray) (n:=len) (p:=fun k x=>V k= .string x/\x.size<=Rows.uptoBulk (D k)) (fun k b=>by
   obtain⟨x,l,s,_⟩:=DataW.trod_string Tryz.underlying9 (hel k (by omega)).2;simp only [List.cons.injEq,and_true]at l;refine⟨x,l,?_⟩;have w:D k= .lit (.string x.data.toList):=congrArg Prod.fst s;rw [w];simp only [Rows.uptoBulk];have:x.data.toList.length=x.size:=by simp
   omega)
  have c:((List.range len).map f).length=len:=by simp
  have i:d= .slice ((List.range len).map D) ((List.range (m - len)).map fun j=>D (len+j)):=congrArg Prod.fst hx;refine⟨(List.range len).map f,⟨some a,cap,by rw [c],fun k b=>?_⟩,?_,fun p hp=>?_⟩
  ·have t:k<len:=by omega
   have q:=ru (hel 0 (by omega)).1;refine⟨a.block,a.off,by rw [<-q],?_⟩;have:=kE (by rw [q]) (hel k (by omega)).1;rw [(o k t).1]at this;simpa using this
  ·rw [c,i];have:=qu ((List.range len).map D);simp only [Rows.uptoBulk];simp at this;omega
  ·obtain⟨k,b,rfl⟩:=List.mem_map.1 hp;obtain⟨_,h1⟩:=o k (by simpa using b);have h3:=ve ((List.range len).map D) (D k) (List.mem_map.2 ⟨k,b,rfl⟩);have h4:Rows.uptoBulk (D k)<=Rows.uptoBulk d:=by
    rw [i];simp only [Rows.uptoBulk];omega
   omega
end
end
end Go.Proofs.YtklenjmfalljgabGreatDoor
