/- The texts Arh Ari. -/
import Derived.Test.YtklenjmfalljgabGreatDoorM05
import Derived.Test.YtklenjmfalljgabGreatDoorM35
import Derived.Lib.SmallJoins
import Derived.Deep.Strs
namespace Go.Proofs.YtklenjmfalljgabGreatDoor
set_option maxRecDepth 100000
set_option maxHeartbeats 8000000
section
open Go.ChangeShapes Go.WideShapes Go.ChangeAt Go.RowKit Go.Joins
theorem uH{H:Type}(d:DataW H):1<=Rows.uptoBulk d:=by
 cases d with
 | lit l=>cases l<;>simp [Rows.uptoBulk]
 | nil=>simp [Rows.uptoBulk]
 | ptr d=>simp [Rows.uptoBulk]
 | slice elems spare=>simp [Rows.uptoBulk]
 | agg parts=>simp [Rows.uptoBulk]
 | iface t d=>simp [Rows.uptoBulk]
 | map entries=>simp [Rows.uptoBulk]
 | held h=>simp [Rows.uptoBulk]
theorem mB{H:Type}(l:List (DataW H)):l.length<=Rows.uptoBulkAll l:=by
 induction l with
 | nil=>simp [Rows.uptoBulkAll]
 | cons x r ih=>have:=uH x;simp only [Rows.uptoBulkAll,List.length_cons];omega
theorem qI{H:Type}(l:List (DataW H))(d:DataW H)(h:d∈l):Rows.uptoBulk d<=Rows.uptoBulkAll l:=by
 induction l with
 | nil=>cases h
 | cons x r ih=>
  simp only [Rows.uptoBulkAll];rcases List.mem_cons.1 h with rfl | h
  ·omega
  ·have:=ih h;omega
theorem B5:Tryz.prog.cellsOf 65=4:=by kernel_rfl
theorem B4:Tryz.prog.cellsOf 66=1:=by kernel_rfl
theorem B9:Tryz.prog.cellsOf 35=1:=by kernel_rfl
theorem B8:Tryz.prog.cellsOf 37=1:=by kernel_rfl
section
variable {H : Type} {enc : TypeId × Value -> H} {W : World}
theorem BH{fuel:Nat}{cs:List Value}{x:DataW H × List MemPlace}(h:DataW.trod enc Tryz.prog W 0 (fun _=>true) true fuel 65 cs=some x):∃ i:Ins,cs=[.int .i64 i.op,.int .i64 i.a,.int .i64 i.b,.int .i64 i.n]/\isInt i.n:=by
 obtain⟨y0,y1,y2,y3,n,_,o,j,k,l,m⟩:=trod_struct4 Tryz.underlying65 h;rw [B5]at o;match cs,o with
 | [v0,v1,v2,v3],_=>
  simp only [B6,List.drop_zero,List.drop_succ_cons,List.take_succ_cons,List.take_zero]at j k l m;obtain⟨k0,c,_⟩:=DataW.trod_int Tryz.underlying3 j;obtain⟨k1,d,_⟩:=DataW.trod_int Tryz.underlying3 k;obtain⟨k2,e,_⟩:=DataW.trod_int Tryz.underlying3 l;obtain⟨q,f,_,p⟩:=DataW.trod_int Tryz.underlying3 m;simp only [List.cons.injEq,and_true]at c d e f;subst c d e f;exact⟨⟨k0,k1,k2,q⟩,rfl,by simpa [Lit.wf,IntKind.min,IntKind.max,IntKind.signed,IntKind.bits,isInt]using p⟩
theorem vB{fuel:Nat}{v:Value}{x:DataW H × List MemPlace}(h:DataW.trod enc Tryz.prog W 0 (fun _=>true) true fuel 66 [v]=some x):∃ c,CodeAt W v c/\nilA v/\c.length<=Rows.uptoBulk x.1/\∀ i∈c,isInt i.n:=by
 rcases Deep.open_slice Tryz.underlying66 h with ⟨e,_⟩ | ⟨a,len,cap,m,n,D,Pl,e,_,hl,_,hm,hx,hel⟩
 ·simp only [List.cons.injEq,and_true]at e;subst e;exact⟨[],⟨none,0,rfl,fun k l=>by simp at l⟩,fun n c e=>by simp at e;omega,by simp,fun i hi=>by cases hi⟩
 ·simp only [List.cons.injEq,and_true]at e;subst e;simp only [if_true]at hm;rw [B5]at hel;have hinh:Inhabited Ins:=⟨⟨0,0,0,0⟩⟩;obtain⟨f,t⟩:=Deep.choose_lt (α:=Ins) (n:=len) (p:=fun k i=>W.cell? (a.add (k*4))=some (.int .i64 i.op)/\W.cell? (a.add (k*4+1))=some (.int .i64 i.a)/\W.cell? (a.add (k*4+2))=some (.int .i64 i.b)/\W.cell? (a.add (k*4+3))=some (.int .i64 i.n)/\isInt i.n) (fun k l=>by
   obtain⟨cs',q,r⟩:=hel k (by omega);obtain⟨i,rfl,z⟩:=BH r;obtain⟨_,_,d⟩:=World.cells?_some q;refine⟨i,?_,?_,?_,?_,z⟩
   ·have:=d 0 (by omega);rw [Deep.add_add]at this;simpa using this
   ·have:=d 1 (by omega);rw [Deep.add_add]at this;simpa using this
   ·have:=d 2 (by omega);rw [Deep.add_add]at this;simpa using this
   ·have:=d 3 (by omega);rw [Deep.add_add]at this;simpa using this)
  have u:((List.range len).map f).length=len:=by simp
  refine⟨(List.range len).map f,⟨some a,cap,by rw [u],fun k l=>?_⟩,fun n c e=>by simp at e,?_,fun i hi=>?_⟩
  ·have A:k<len:=by omega
   obtain⟨y,q,r,d,_⟩:=t k A;have j:a.spot=none:=by
    have:=(t 0 (by omega)).1;exact World.cell?_spot (w:=W) (by simpa [Addr.add]using this)
   refine⟨a.block,a.off,?_,?_,?_,?_,?_⟩
   ·obtain⟨b,o,s⟩:=a;simp only at j;subst j;rfl
   ·simpa using jn j y
   ·simpa [Nat.add_assoc]using jn j q
   ·simpa [Nat.add_assoc]using jn j r
   ·simpa [Nat.add_assoc]using jn j d
  ·rw [u,hx];have:=mB ((List.range len).map D);simp only [Rows.uptoBulk];simp at this;omega
  ·obtain⟨k,l,rfl⟩:=List.mem_map.1 hi;exact(t k (by simpa using l)).2.2.2.2
theorem wW{fuel:Nat}{v:Value}{x:DataW H × List MemPlace}(h:DataW.trod enc Tryz.prog W 0 (fun _=>true) true fuel 35 [v]=some x):
  ∃ p,ProgAt W (.agg #[v]) p/\ProgNil W (.agg #[v])/\p.length<=Rows.uptoBulk x.1/\∀ c∈p,c.length<=Rows.uptoBulk x.1/\∀ i∈c,isInt i.n:=by
 rcases Deep.open_slice1 Tryz.underlying35 B4 h with ⟨e,_⟩ | ⟨a,len,cap,m,n,V,D,Pl,e,_,hl,_,hm,hx,hel⟩
 ·simp only [List.cons.injEq,and_true]at e;subst e;exact⟨[],⟨none,0,rfl,fun k d=>by simp at d⟩,fun g o n cap t rv e=>by simp at e,by simp,fun c hc=>by cases hc⟩
 ·simp only [List.cons.injEq,and_true]at e;subst e;simp only [if_true]at hm;obtain⟨f,q⟩:=Deep.choose_lt (α:=List Ins) (n:=len) (p:=fun k c=>CodeAt W (V k) c/\nilA (V k)/\c.length<=Rows.uptoBulk (D k)/\∀ i∈c,isInt i.n) (fun k d=>vB (hel k (by omega)).2);have u:((List.range len).map f).length=len:=by simp
  have z:0<len->a.spot=none:=fun j=>by
   have:=(hel 0 (by omega)).1;exact World.cell?_spot (w:=W) (by simpa [Addr.add]using this)
  have hall:len+0<=Rows.uptoBulkAll ((List.range len).map D):=by
   have:=mB ((List.range len).map D);simp at this;omega
  refine⟨(List.range len).map f,⟨some a,cap,by rw [u],fun k d=>?_⟩,fun g o n cp t rv e ht hc=>?_,?_,fun c hc=>?_⟩
  ·have r:k<len:=by omega
   have j:=z (by omega);refine⟨a.block,a.off,?_,V k,jn j (hel k (by omega)).1,?_⟩
   ·obtain⟨b,o,s⟩:=a;simp only at j;subst j;rfl
   ·simpa using (q k r).1
  ·simp only [Value.agg.injEq,Array.mk.injEq,List.cons.injEq,Value.slice.injEq,Option.some.injEq,and_true]at e;obtain⟨rfl,rfl,rfl⟩:=e;have l:=jn rfl (hel t (by omega)).1;simp only at l;rw [l]at hc;simp only [Option.some.injEq]at hc;rw [<-hc];exact(q t ht).2.1
  ·rw [u,hx];simp only [Rows.uptoBulk];omega
  ·obtain⟨k,d,rfl⟩:=List.mem_map.1 hc;have r:k<len:=by simpa using d
   obtain⟨l,y⟩:=(q k r).2.2;have h2:=qI ((List.range len).map D) (D k) (List.mem_map.2 ⟨k,d,rfl⟩);refine⟨?_,y⟩;rw [hx];simp only [Rows.uptoBulk];omega
end
section
variable {H : Type} {enc : TypeId × Value -> H} {W : World}
theorem yr{fuel:Nat}{v:Value}{x:DataW H × List MemPlace}(h:DataW.trod enc Tryz.prog W 0 (fun _=>true) true fuel 39 [v]=some x):∃ l,IntsAt W.heap.size W v l/\nilA v/\l.length<=Rows.uptoBulk x.1:=by
 rcases open_ints Tryz.underlying39 Tryz.underlying3 B6 h with ⟨e,_⟩ | ⟨a,len,cap,zs,e,_,hl,_,hz,hx,hc,hw⟩
 ·simp only [List.cons.injEq,and_true]at e;subst e;exact⟨[],⟨none,0,rfl,Nat.le_refl _,fun k hk=>by simp at hk⟩,fun n c e=>by simp at e;omega,by simp⟩
 ·simp only [List.cons.injEq,and_true]at e;subst e;simp only [if_true]at hz;have i:(zs.take len).length=len:=by simp;omega
  refine⟨zs.take len,⟨some a,cap,by rw [i],by omega,fun k hk=>?_⟩,fun n c e=>by simp at e,?_⟩
  ·have d:a.spot=none:=by
    have:=hc 0 (by omega);exact World.cell?_spot (w:=W) (by simpa [Addr.add]using this)
   have f:k<zs.length:=by omega
   have:=hc k f;refine⟨a.block,a.off,?_,AB (a:=⟨a.block,a.off+k,none⟩) (jn d this),?_⟩
   ·obtain⟨b,o,s⟩:=a;simp only at d;subst d;rfl
   ·rw [jn d this];simp [List.getD,f]
  ·rw [hx];have:=mB (lits (H:=H) .i64 (zs.take len));have hll:(lits (H:=H) .i64 (zs.take len)).length=(zs.take len).length:=by simp [lits]
   simp only [Rows.uptoBulk];omega
theorem yN{fuel:Nat}{v:Value}{x:DataW H × List MemPlace}(h:DataW.trod enc Tryz.prog W 0 (fun _=>true) true fuel 37 [v]=some x):
  ∃ p,ProgAt W (.agg #[v]) p/\p.length<=Rows.uptoBulk x.1/\(∀ c∈p,c.length<=Rows.uptoBulk x.1/\∀ i∈c,isInt i.n)/\2<=Rows.uptoBulk x.1:=by
 obtain⟨a,n,k,hl,d⟩:=trod_struct1 Tryz.underlying37 h;have e:DataW.trod enc Tryz.prog W 0 (fun _=>true) true n 35 [v]=some a:=by simpa [B9]using d
 obtain⟨p,f,_,h3,b⟩:=wW e;have j:x.1= .agg [a.1]:=congrArg Prod.fst k;have hb:Rows.uptoBulk a.1+1<=Rows.uptoBulk x.1:=by
  rw [j];simp only [Rows.uptoBulk,Rows.uptoBulkAll];omega
 have:=uH a.1;exact⟨p,f,by omega,fun c hc=>⟨by have:=(b c hc).1;omega,(b c hc).2⟩,by omega⟩
end
end
end Go.Proofs.YtklenjmfalljgabGreatDoor
