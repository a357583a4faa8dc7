/- The texts Nil Arg Arh Ari Arj. -/
import Derived.Test.YtklenjmfalljgabGreatDoorM01
import Derived.Test.YtklenjmfalljgabGreatDoorM02
import Derived.Test.YtklenjmfalljgabGreatDoorM24
import Derived.Test.YtklenjmfalljgabGreatDoorRows
import Derived.Deep.Slices
import Derived.Deep.DeepHandedRow
import Derived.Deep.DeepWitnessRowRef
import Derived.LaidMore
import Derived.Carry
import Derived.ProofKit
import Derived.OpenShut
import Derived.Lib.SmallJoins
import Derived.Deep.Strs
namespace Go.Proofs.YtklenjmfalljgabGreatDoor
set_option maxRecDepth 100000
set_option maxHeartbeats 8000000
section
def nilA(x:Value):Prop:=∀ n c,x= .slice none n c->n=0/\c=0
def ProgNil(W:World)(pv:Value):Prop:=∀ g o n cap t rv,pv= .agg #[.slice (some ⟨g,o,none⟩) n cap]->t<n->W.cell? ⟨g,o+t,none⟩=some rv->nilA rv
end
section
open Go.ChangeShapes Go.WideShapes Go.ChangeAt Go.RowKit
theorem own:ownKnob Tryz.prog.godebug=none:=by kernel_rfl
theorem mM:laidOutB Tryz.prog=true:=by kernel_rfl
theorem Cl:Tryz.prog.globalNamed "rerun/machine.shapes" =some 0:=by kernel_rfl
theorem Co:(Tryz.prog.globals[0]?).map (·.type)=some 236:=by kernel_rfl
theorem B6:Tryz.prog.cellsOf 3=1:=by kernel_rfl
theorem B7:Tryz.prog.cellsOf 39=1:=by kernel_rfl
theorem By:Tryz.prog.cellsOf 235=3:=by kernel_rfl
theorem xF:Tryz.prog.cellsOf 233=1:=by kernel_rfl
theorem sj{w w':World}(h:w.grownBy w' none):Below w.heap.size w w':=⟨h.os,h.tape,h.output,h.size,fun k hk=>h.block k hk (by simp)⟩
theorem AB{w:World}{a:Addr}{v:Value}(h:w.cell? a=some v):a.block<w.heap.size:=by
 unfold World.cell? at h;split at h
 ·rename_i hh;exact(Array.getElem?_eq_some_iff.1 hh).1
 ·cases h
theorem jn{w:World}{a:Addr}{j:Nat}{v:Value}(c:a.spot=none)(h:w.cell? (a.add j)=some v):w.cell? ⟨a.block,a.off+j,none⟩=some v:=by
 have e:a.add j=⟨a.block,a.off+j,none⟩:=by
  obtain⟨b,o,s⟩:=a;simp only at c;subst c;unfold Addr.add;split<;>simp_all
 rw [e]at h;exact h
section
variable {H : Type} {enc : TypeId × Value -> H} {W : World}
theorem Ar{v:Value}{d:DataW H}{c:List MemPlace}{base:Nat}(a:Value.okWide Tryz.prog W .any base 3 v)(h:DataW.Trod enc Tryz.prog W 0 (fun _=>true) true 3 v d c):
  ∃ n,v= .int .i64 n/\isInt n:=by
 obtain⟨n,rfl,_,_,b⟩:=open_int Tryz.underlying3 a h;exact⟨n,rfl,by simpa [Lit.wf,IntKind.min,IntKind.max,IntKind.signed,IntKind.bits,isInt]using b⟩
end
theorem A8(o j:Nat)(ho:o<12)(hj:j<3)(l:List (DataW Unit))(h:(DataW.agg l:DataW Unit)=(match (Rows.laid_rerun_machine_shapes:DataW Unit)with | .agg l=>l[o]?.getD .nil | _=> .nil)):l[j]?=some (.lit (.int .i64 (shp o j))):=by
 have b:o=0\/o=1\/o=2\/o=3\/o=4\/o=5\/o=6\/o=7\/o=8\/o=9\/o=10\/o=11:=by omega
 have a:j=0\/j=1\/j=2:=by omega
 rcases b with rfl | rfl | rfl | rfl | rfl | rfl | rfl | rfl | rfl | rfl | rfl | rfl<;>(simp [Rows.laid_rerun_machine_shapes]at h;subst h;rcases a with rfl | rfl | rfl<;>rfl)
theorem A7{W:World}{h:Nat}{s:TypeId}{a:Array Value}{v:Nat}{J:List MemPlace}(n:Tryz.prog.globalNamed "rerun/machine.shapes" =some h)(F:(Tryz.prog.globals[h]?).map (·.type)=some s)(G:W.var? Tryz.prog "rerun/machine.shapes" =some a)
  (x:DataW.trod (fun _=>()) Tryz.prog W 0 (fun _=>true) false v s a.toList=some (Rows.laid_rerun_machine_shapes,J)):ShpAt W:=by
 obtain rfl:=Option.some.inj (Cl.symm.trans n);obtain rfl:=Option.some.inj (Co.symm.trans F);obtain⟨xs,m1,rfl,q,hlen,hn12,A⟩:=DataW.trod_array Tryz.underlying236 x;simp only [Prod.mk.injEq]at q;intro o j p e;have f:o<xs.length:=by omega
 have m:=A o p;rw [By,List.getElem?_eq_getElem f]at m;obtain⟨c,I,rfl,H,hylen,E,d⟩:=DataW.trod_struct Tryz.underlying235 m;have z:(DataW.agg (c.map (·.1)):DataW Unit)=xs[o].1:=by rw [H]
 have hxo:(xs.map (·.1))[o]?=some xs[o].1:=by simp [f]
 have y:(DataW.agg (c.map (·.1)):DataW Unit)=(match (Rows.laid_rerun_machine_shapes:DataW Unit)with | .agg l=>l[o]?.getD .nil | _=> .nil):=by
  rw [z,q.1];simp [f]
 have r:=A8 o j p e _ y;have b:j<c.length:=by rw [E];simpa using e
 have B:DataW.trod (fun _=>()) Tryz.prog W 0 (fun _=>true) false I 233 ((((a.toList.drop (o*3)).take 3).drop j).take 1)=some c[j]:=by
  have C:j=0\/j=1\/j=2:=by omega
  rcases C with rfl | rfl | rfl
  ·have:=d 0 _ rfl;rw [List.getElem?_eq_getElem b]at this;simpa [xF]using this
  ·have:=d 1 _ rfl;rw [List.getElem?_eq_getElem b]at this;simpa [xF]using this
  ·have:=d 2 _ rfl;rw [List.getElem?_eq_getElem b]at this;simpa [xF]using this
 obtain⟨k,t,u,_⟩:=DataW.trod_int Tryz.underlying233 B;have D:k=shp o j:=by
  rw [List.getElem?_map,List.getElem?_eq_getElem b,u]at r;simpa using r
 have w:=World.var?_cell n G (o*3+j);have hc:a[o*3+j]?=some (.int .i64 k):=by
  have i:=congrArg (fun l=>l[0]?) t;simp [e]at i;exact i
 rw [D]at hc;rw [w];exact hc
end
section
open Go.ChangeShapes Go.WideShapes Go.ChangeAt Go.RowKit Go.Joins
theorem uH{H:Type}(d:DataW H):1<=Rows.uptoBulk d:=by
 cases d with
 | lit l=>cases l<;>simp [Rows.uptoBulk]
 | nil=>simp [Rows.uptoBulk]
 | ptr d=>simp [Rows.uptoBulk]
 | slice elems spare=>simp [Rows.uptoBulk]
 | agg parts=>simp [Rows.uptoBulk]
 | iface t d=>simp [Rows.uptoBulk]
 | map entries=>simp [Rows.uptoBulk]
 | held h=>simp [Rows.uptoBulk]
theorem mB{H:Type}(l:List (DataW H)):l.length<=Rows.uptoBulkAll l:=by
 induction l with
 | nil=>simp [Rows.uptoBulkAll]
 | cons x r ih=>have:=uH x;simp only [Rows.uptoBulkAll,List.length_cons];omega
theorem qI{H:Type}(l:List (DataW H))(d:DataW H)(h:d∈l):Rows.uptoBulk d<=Rows.uptoBulkAll l:=by
 induction l with
 | nil=>cases h
 | cons x r ih=>
  simp only [Rows.uptoBulkAll];rcases List.mem_cons.1 h with rfl | h
  ·omega
  ·have:=ih h;omega
theorem B5:Tryz.prog.cellsOf 65=4:=by kernel_rfl
theorem B4:Tryz.prog.cellsOf 66=1:=by kernel_rfl
theorem B9:Tryz.prog.cellsOf 35=1:=by kernel_rfl
theorem B8:Tryz.prog.cellsOf 37=1:=by kernel_rfl
section
variable {H : Type} {enc : TypeId × Value -> H} {W : World}
theorem BH{fuel:Nat}{cs:List Value}{x:DataW H × List MemPlace}(h:DataW.trod enc Tryz.prog W 0 (fun _=>true) true fuel 65 cs=some x):∃ i:Ins,cs=[.int .i64 i.op,.int .i64 i.a,.int .i64 i.b,.int .i64 i.n]/\isInt i.n:=by
 obtain⟨y0,y1,y2,y3,n,_,o,j,k,l,m⟩:=trod_struct4 Tryz.underlying65 h;rw [B5]at o;match cs,o with
 | [v0,v1,v2,v3],_=>
  simp only [B6,List.drop_zero,List.drop_succ_cons,List.take_succ_cons,List.take_zero]at j k l m;obtain⟨k0,c,_⟩:=DataW.trod_int Tryz.underlying3 j;obtain⟨k1,d,_⟩:=DataW.trod_int Tryz.underlying3 k;obtain⟨k2,e,_⟩:=DataW.trod_int Tryz.underlying3 l;obtain⟨q,f,_,p⟩:=DataW.trod_int Tryz.underlying3 m;simp only [List.cons.injEq,and_true]at c d e f;subst c d e f;exact⟨⟨k0,k1,k2,q⟩,rfl,by simpa [Lit.wf,IntKind.min,IntKind.max,IntKind.signed,IntKind.bits,isInt]using p⟩
theorem vB{fuel:Nat}{v:Value}{x:DataW H × List MemPlace}(h:DataW.trod enc Tryz.prog W 0 (fun _=>true) true fuel 66 [v]=some x):∃ c,CodeAt W v c/\nilA v/\c.length<=Rows.uptoBulk x.1/\∀ i∈c,isInt i.n:=by
 rcases Deep.open_slice Tryz.underlying66 h with ⟨e,_⟩ | ⟨a,len,cap,m,n,D,Pl,e,_,hl,_,hm,hx,hel⟩
 ·simp only [List.cons.injEq,and_true]at e;subst e;exact⟨[],⟨none,0,rfl,fun k l=>by simp at l⟩,fun n c e=>by simp at e;omega,by simp,fun i hi=>by cases hi⟩
 ·simp only [List.cons.injEq,and_true]at e;subst e;simp only [if_true]at hm;rw [B5]at hel;have hinh:Inhabited Ins:=⟨⟨0,0,0,0⟩⟩;obtain⟨f,t⟩:=Deep.choose_lt (α:=Ins) (n:=len) (p:=fun k i=>W.cell? (a.add (k*4))=some (.int .i64 i.op)/\W.cell? (a.add (k*4+1))=some (.int .i64 i.a)/\W.cell? (a.add (k*4+2))=some (.int .i64 i.b)/\W.cell? (a.add (k*4+3))=some (.int .i64 i.n)/\isInt i.n) (fun k l=>by
   obtain⟨cs',q,r⟩:=hel k (by omega);obtain⟨i,rfl,z⟩:=BH r;obtain⟨_,_,d⟩:=World.cells?_some q;refine⟨i,?_,?_,?_,?_,z⟩
   ·have:=d 0 (by omega);rw [Deep.add_add]at this;simpa using this
   ·have:=d 1 (by omega);rw [Deep.add_add]at this;simpa using this
   ·have:=d 2 (by omega);rw [Deep.add_add]at this;simpa using this
   ·have:=d 3 (by omega);rw [Deep.add_add]at this;simpa using this)
  have u:((List.range len).map f).length=len:=by simp
  refine⟨(List.range len).map f,⟨some a,cap,by rw [u],fun k l=>?_⟩,fun n c e=>by simp at e,?_,fun i hi=>?_⟩
  ·have A:k<len:=by omega
   obtain⟨y,q,r,d,_⟩:=t k A;have j:a.spot=none:=by
    have:=(t 0 (by omega)).1;exact World.cell?_spot (w:=W) (by simpa [Addr.add]using this)
   refine⟨a.block,a.off,?_,?_,?_,?_,?_⟩
   ·obtain⟨b,o,s⟩:=a;simp only at j;subst j;rfl
   ·simpa using jn j y
   ·simpa [Nat.add_assoc]using jn j q
   ·simpa [Nat.add_assoc]using jn j r
   ·simpa [Nat.add_assoc]using jn j d
  ·rw [u,hx];have:=mB ((List.range len).map D);simp only [Rows.uptoBulk];simp at this;omega
  ·obtain⟨k,l,rfl⟩:=List.mem_map.1 hi;exact(t k (by simpa using l)).2.2.2.2
theorem wW{fuel:Nat}{v:Value}{x:DataW H × List MemPlace}(h:DataW.trod enc Tryz.prog W 0 (fun _=>true) true fuel 35 [v]=some x):
  ∃ p,ProgAt W (.agg #[v]) p/\ProgNil W (.agg #[v])/\p.length<=Rows.uptoBulk x.1/\∀ c∈p,c.length<=Rows.uptoBulk x.1/\∀ i∈c,isInt i.n:=by
 rcases Deep.open_slice1 Tryz.underlying35 B4 h with ⟨e,_⟩ | ⟨a,len,cap,m,n,V,D,Pl,e,_,hl,_,hm,hx,hel⟩
 ·simp only [List.cons.injEq,and_true]at e;subst e;exact⟨[],⟨none,0,rfl,fun k d=>by simp at d⟩,fun g o n cap t rv e=>by simp at e,by simp,fun c hc=>by cases hc⟩
 ·simp only [List.cons.injEq,and_true]at e;subst e;simp only [if_true]at hm;obtain⟨f,q⟩:=Deep.choose_lt (α:=List Ins) (n:=len) (p:=fun k c=>CodeAt W (V k) c/\nilA (V k)/\c.length<=Rows.uptoBulk (D k)/\∀ i∈c,isInt i.n) (fun k d=>vB (hel k (by omega)).2);have u:((List.range len).map f).length=len:=by simp
  have z:0<len->a.spot=none:=fun j=>by
   have:=(hel 0 (by omega)).1;exact World.cell?_spot (w:=W) (by simpa [Addr.add]using this)
  have hall:len+0<=Rows.uptoBulkAll ((List.range len).map D):=by
   have:=mB ((List.range len).map D);simp at this;omega
  refine⟨(List.range len).map f,⟨some a,cap,by rw [u],fun k d=>?_⟩,fun g o n cp t rv e ht hc=>?_,?_,fun c hc=>?_⟩
  ·have r:k<len:=by omega
   have j:=z (by omega);refine⟨a.block,a.off,?_,V k,jn j (hel k (by omega)).1,?_⟩
   ·obtain⟨b,o,s⟩:=a;simp only at j;subst j;rfl
   ·simpa using (q k r).1
  ·simp only [Value.agg.injEq,Array.mk.injEq,List.cons.injEq,Value.slice.injEq,Option.some.injEq,and_true]at e;obtain⟨rfl,rfl,rfl⟩:=e;have l:=jn rfl (hel t (by omega)).1;simp only at l;rw [l]at hc;simp only [Option.some.injEq]at hc;rw [<-hc];exact(q t ht).2.1
  ·rw [u,hx];simp only [Rows.uptoBulk];omega
  ·obtain⟨k,d,rfl⟩:=List.mem_map.1 hc;have r:k<len:=by simpa using d
   obtain⟨l,y⟩:=(q k r).2.2;have h2:=qI ((List.range len).map D) (D k) (List.mem_map.2 ⟨k,d,rfl⟩);refine⟨?_,y⟩;rw [hx];simp only [Rows.uptoBulk];omega
end
section
variable {H : Type} {enc : TypeId × Value -> H} {W : World}
theorem yr{fuel:Nat}{v:Value}{x:DataW H × List MemPlace}(h:DataW.trod enc Tryz.prog W 0 (fun _=>true) true fuel 39 [v]=some x):∃ l,IntsAt W.heap.size W v l/\nilA v/\l.length<=Rows.uptoBulk x.1:=by
 rcases open_ints Tryz.underlying39 Tryz.underlying3 B6 h with ⟨e,_⟩ | ⟨a,len,cap,zs,e,_,hl,_,hz,hx,hc,hw⟩
 ·simp only [List.cons.injEq,and_true]at e;subst e;exact⟨[],⟨none,0,rfl,Nat.le_refl _,fun k hk=>by simp at hk⟩,fun n c e=>by simp at e;omega,by simp⟩
 ·simp only [List.cons.injEq,and_true]at e;subst e;simp only [if_true]at hz;have i:(zs.take len).length=len:=by simp;omega
  refine⟨zs.take len,⟨some a,cap,by rw [i],by omega,fun k hk=>?_⟩,fun n c e=>by simp at e,?_⟩
  ·have d:a.spot=none:=by
    have:=hc 0 (by omega);exact World.cell?_spot (w:=W) (by simpa [Addr.add]using this)
   have f:k<zs.length:=by omega
   have:=hc k f;refine⟨a.block,a.off,?_,AB (a:=⟨a.block,a.off+k,none⟩) (jn d this),?_⟩
   ·obtain⟨b,o,s⟩:=a;simp only at d;subst d;rfl
   ·rw [jn d this];simp [List.getD,f]
  ·rw [hx];have:=mB (lits (H:=H) .i64 (zs.take len));have hll:(lits (H:=H) .i64 (zs.take len)).length=(zs.take len).length:=by simp [lits]
   simp only [Rows.uptoBulk];omega
theorem yN{fuel:Nat}{v:Value}{x:DataW H × List MemPlace}(h:DataW.trod enc Tryz.prog W 0 (fun _=>true) true fuel 37 [v]=some x):
  ∃ p,ProgAt W (.agg #[v]) p/\p.length<=Rows.uptoBulk x.1/\(∀ c∈p,c.length<=Rows.uptoBulk x.1/\∀ i∈c,isInt i.n)/\2<=Rows.uptoBulk x.1:=by
 obtain⟨a,n,k,hl,d⟩:=trod_struct1 Tryz.underlying37 h;have e:DataW.trod enc Tryz.prog W 0 (fun _=>true) true n 35 [v]=some a:=by simpa [B9]using d
 obtain⟨p,f,_,h3,b⟩:=wW e;have j:x.1= .agg [a.1]:=congrArg Prod.fst k;have hb:Rows.uptoBulk a.1+1<=Rows.uptoBulk x.1:=by
  rw [j];simp only [Rows.uptoBulk,Rows.uptoBulkAll];omega
 have:=uH a.1;exact⟨p,f,by omega,fun c hc=>⟨by have:=(b c hc).1;omega,(b c hc).2⟩,by omega⟩
end
theorem Ck:Tryz.prog.cellsOf 9=1:=by kernel_rfl
theorem xz{H:Type}(l:List (DataW H))(h:∀ d∈l,2<=Rows.uptoBulk d):2*l.length<=Rows.uptoBulkAll l:=by
 induction l with
 | nil=>simp [Rows.uptoBulkAll]
 | cons x r ih=>
  have h1:=h x List.mem_cons_self;have h2:=ih fun d hd=>h d (List.mem_cons_of_mem _ hd)
  simp only [Rows.uptoBulkAll,List.length_cons];omega
def ProgsAt(W:World)(v:Value)(P:List (List (List Ins))):Prop:=
 ∃ ao cap,v= .slice ao P.length cap/\∀ i (hi:i<P.length),∃ g o,ao=some ⟨g,o,none⟩/\∃ rv,W.cell? ⟨g,o+i,none⟩=some rv/\ProgAt W (.agg #[rv]) P[i]
def SchsAt(W:World)(v:Value)(S:List (List Int)):Prop:=
 ∃ ao cap,v= .slice ao S.length cap/\∀ i (hi:i<S.length),∃ g o,ao=some ⟨g,o,none⟩/\∃ rv,W.cell? ⟨g,o+i,none⟩=some rv/\IntsAt W.heap.size W rv S[i]/\nilA rv
section
variable {H : Type} {enc : TypeId × Value -> H} {W : World}
theorem nA{a:Addr}{v:Value}(h:W.cell? (a.add 0)=some v):a=⟨a.block,a.off,none⟩:=by
 have c:a.spot=none:=World.cell?_spot (w:=W) (by simpa [Addr.add]using h);obtain⟨b,o,s⟩:=a;simp only at c;subst c;rfl
theorem wL{v:Value}{d:DataW H}{x:List MemPlace}{base:Nat}(w:Value.okWide Tryz.prog W .any base 22 v)(h:DataW.Trod enc Tryz.prog W 0 (fun _=>true) true 22 v d x):
  ∃ P,ProgsAt W v P/\2*P.length<=Rows.uptoBulk d/\∀ p∈P,p.length<=Rows.uptoBulk d/\∀ c∈p,c.length<=Rows.uptoBulk d/\∀ i∈c,isInt i.n:=by
 obtain⟨a0,len0,cap0,rfl⟩:=okWide_slice Tryz.underlying22 w;obtain⟨fuel,t⟩:=h;rcases Deep.open_slice1 Tryz.underlying22 B8 t with ⟨e,_⟩ | ⟨a,len,cap,m,n,V,D,Pl,e,_,hl,_,hm,hx,hel⟩
 ·simp [Value.cells]at e;rw [e.1,e.2.1,e.2.2];exact⟨[],⟨none,0,rfl,fun k b=>by simp at b⟩,by simp,fun p hp=>by cases hp⟩
 ·simp [Value.cells]at e;rw [e.1,e.2.1,e.2.2];simp only [if_true]at hm;obtain⟨f,o⟩:=Deep.choose_lt (α:=List (List Ins)) (n:=len) (p:=fun k p=>ProgAt W (.agg #[V k]) p/\p.length<=Rows.uptoBulk (D k)/\(∀ c∈p,c.length<=Rows.uptoBulk (D k)/\∀ i∈c,isInt i.n)/\2<=Rows.uptoBulk (D k)) (fun k b=>yN (hel k (by omega)).2);have r:((List.range len).map f).length=len:=by simp
  have l:d= .slice ((List.range len).map D) ((List.range (m - len)).map fun j=>D (len+j)):=congrArg Prod.fst hx;refine⟨(List.range len).map f,⟨some a,cap,by rw [r],fun k b=>?_⟩,?_,fun p hp=>?_⟩
  ·have u:k<len:=by omega
   have s:=nA (hel 0 (by omega)).1;refine⟨a.block,a.off,by rw [<-s],V k,jn (by rw [s]) (hel k (by omega)).1,?_⟩;simpa using (o k u).1
  ·rw [r,l];have:=xz ((List.range len).map D) (fun d l=>by
    obtain⟨k,b,rfl⟩:=List.mem_map.1 l;exact(o k (by simpa using b)).2.2.2)
   simp only [Rows.uptoBulk];simp at this;omega
  ·obtain⟨k,b,rfl⟩:=List.mem_map.1 hp;obtain⟨_,h1,q,_⟩:=o k (by simpa using b);have h3:=qI ((List.range len).map D) (D k) (List.mem_map.2 ⟨k,b,rfl⟩);have h4:Rows.uptoBulk (D k)<=Rows.uptoBulk d:=by
    rw [l];simp only [Rows.uptoBulk];omega
   exact⟨by omega,fun c hc=>⟨by have:=(q c hc).1;omega,(q c hc).2⟩⟩
theorem zh{v:Value}{d:DataW H}{w:List MemPlace}{base:Nat}(u:Value.okWide Tryz.prog W .any base 23 v)(h:DataW.Trod enc Tryz.prog W 0 (fun _=>true) true 23 v d w):
  ∃ S,SchsAt W v S/\S.length<=Rows.uptoBulk d/\∀ s∈S,s.length<=Rows.uptoBulk d:=by
 obtain⟨a0,len0,cap0,rfl⟩:=okWide_slice Tryz.underlying23 u;obtain⟨fuel,t⟩:=h;rcases Deep.open_slice1 Tryz.underlying23 B7 t with ⟨e,_⟩ | ⟨a,len,cap,m,n,V,D,Pl,e,_,hl,_,hm,hx,hel⟩
 ·simp [Value.cells]at e;rw [e.1,e.2.1,e.2.2];exact⟨[],⟨none,0,rfl,fun k b=>by simp at b⟩,by simp,fun p hp=>by cases hp⟩
 ·simp [Value.cells]at e;rw [e.1,e.2.1,e.2.2];simp only [if_true]at hm;obtain⟨f,c⟩:=Deep.choose_lt (α:=List Int) (n:=len) (p:=fun k l=>IntsAt W.heap.size W (V k) l/\nilA (V k)/\l.length<=Rows.uptoBulk (D k)) (fun k b=>yr (hel k (by omega)).2);have q:((List.range len).map f).length=len:=by simp
  have i:d= .slice ((List.range len).map D) ((List.range (m - len)).map fun j=>D (len+j)):=congrArg Prod.fst hx;refine⟨(List.range len).map f,⟨some a,cap,by rw [q],fun k b=>?_⟩,?_,fun p hp=>?_⟩
  ·have o:k<len:=by omega
   have r:=nA (hel 0 (by omega)).1;refine⟨a.block,a.off,by rw [<-r],V k,jn (by rw [r]) (hel k (by omega)).1,?_,(c k o).2.1⟩;simpa using (c k o).1
  ·rw [q,i];have:=mB ((List.range len).map D);simp only [Rows.uptoBulk];simp at this;omega
  ·obtain⟨k,b,rfl⟩:=List.mem_map.1 hp;obtain⟨_,_,h1⟩:=c k (by simpa using b);have h3:=qI ((List.range len).map D) (D k) (List.mem_map.2 ⟨k,b,rfl⟩);have h4:Rows.uptoBulk (D k)<=Rows.uptoBulk d:=by
    rw [i];simp only [Rows.uptoBulk];omega
   omega
theorem tp{v:Value}{d:DataW H}{y:List MemPlace}{base:Nat}(w:Value.okWide Tryz.prog W .any base 24 v)(h:DataW.Trod enc Tryz.prog W 0 (fun _=>true) true 24 v d y):
  ∃ L,StrsAt W v L/\L.length<=Rows.uptoBulk d/\∀ x∈L,x.size<=Rows.uptoBulk d:=by
 obtain⟨a0,len0,cap0,rfl⟩:=okWide_slice Tryz.underlying24 w;obtain⟨fuel,t⟩:=h;rcases Deep.open_slice1 Tryz.underlying24 Ck t with ⟨e,_⟩ | ⟨a,len,cap,m,n,V,D,Pl,e,_,hl,_,hm,hx,hel⟩
 ·simp [Value.cells]at e;rw [e.1,e.2.1,e.2.2];exact⟨[],⟨none,0,rfl,fun k b=>by simp at b⟩,by simp,fun p hp=>by cases hp⟩
 ·simp [Value.cells]at e;rw [e.1,e.2.1,e.2.2];simp only [if_true]at hm;have hinh:Inhabited ByteArray:=⟨⟨#[]⟩⟩;obtain⟨f,l⟩:=Deep.choose_lt (α:=ByteArray) (n:=len) (p:=fun k x=>V k= .string x/\x.size<=Rows.uptoBulk (D k)) (fun k b=>by
   obtain⟨x,c,r,_⟩:=DataW.trod_string Tryz.underlying9 (hel k (by omega)).2;simp only [List.cons.injEq,and_true]at c;refine⟨x,c,?_⟩;have s:D k= .lit (.string x.data.toList):=congrArg Prod.fst r;rw [s];simp only [Rows.uptoBulk];have:x.data.toList.length=x.size:=by simp
   omega)
  have o:((List.range len).map f).length=len:=by simp
  have i:d= .slice ((List.range len).map D) ((List.range (m - len)).map fun j=>D (len+j)):=congrArg Prod.fst hx;refine⟨(List.range len).map f,⟨some a,cap,by rw [o],fun k b=>?_⟩,?_,fun p hp=>?_⟩
  ·have u:k<len:=by omega
   have q:=nA (hel 0 (by omega)).1;refine⟨a.block,a.off,by rw [<-q],?_⟩;have:=jn (by rw [q]) (hel k (by omega)).1;rw [(l k u).1]at this;simpa using this
  ·rw [o,i];have:=mB ((List.range len).map D);simp only [Rows.uptoBulk];simp at this;omega
  ·obtain⟨k,b,rfl⟩:=List.mem_map.1 hp;obtain⟨_,h1⟩:=l k (by simpa using b);have h3:=qI ((List.range len).map D) (D k) (List.mem_map.2 ⟨k,b,rfl⟩);have h4:Rows.uptoBulk (D k)<=Rows.uptoBulk d:=by
    rw [i];simp only [Rows.uptoBulk];omega
   omega
end
end
end Go.Proofs.YtklenjmfalljgabGreatDoor
