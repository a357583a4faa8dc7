/- The texts Arj. -/
import Derived.Test.YtklenjmfalljgabGreatDoorM26
import Derived.Test.YtklenjmfalljgabGreatDoorM36
namespace Go.Proofs.YtklenjmfalljgabGreatDoor
set_option maxRecDepth 100000
set_option maxHeartbeats 8000000
section
open Go.ChangeShapes Go.WideShapes Go.ChangeAt Go.RowKit Go.Joins
theorem Ck:Tryz.prog.cellsOf 9=1:=by kernel_rfl
theorem xz{H:Type}(l:List (DataW H))(h:∀ d∈l,2<=Rows.uptoBulk d):2*l.length<=Rows.uptoBulkAll l:=by
 induction l with
 | nil=>simp [Rows.uptoBulkAll]
 | cons x r ih=>
  have h1:=h x List.mem_cons_self;have h2:=ih fun d hd=>h d (List.mem_cons_of_mem _ hd)
  simp only [Rows.uptoBulkAll,List.length_cons];omega
def ProgsAt(W:World)(v:Value)(P:List (List (List Ins))):Prop:=
 ∃ ao cap,v= .slice ao P.length cap/\∀ i (hi:i<P.length),∃ g o,ao=some ⟨g,o,none⟩/\∃ rv,W.cell? ⟨g,o+i,none⟩=some rv/\ProgAt W (.agg #[rv]) P[i]
def SchsAt(W:World)(v:Value)(S:List (List Int)):Prop:=
 ∃ ao cap,v= .slice ao S.length cap/\∀ i (hi:i<S.length),∃ g o,ao=some ⟨g,o,none⟩/\∃ rv,W.cell? ⟨g,o+i,none⟩=some rv/\IntsAt W.heap.size W rv S[i]/\nilA rv
section
variable {H : Type} {enc : TypeId × Value -> H} {W : World}
theorem nA{a:Addr}{v:Value}(h:W.cell? (a.add 0)=some v):a=⟨a.block,a.off,none⟩:=by
 have c:a.spot=none:=World.cell?_spot (w:=W) (by simpa [Addr.add]using h);obtain⟨b,o,s⟩:=a;simp only at c;subst c;rfl
theorem wL{v:Value}{d:DataW H}{x:List MemPlace}{base:Nat}(w:Value.okWide Tryz.prog W .any base 22 v)(h:DataW.Trod enc Tryz.prog W 0 (fun _=>true) true 22 v d x):
  ∃ P,ProgsAt W v P/\2*P.length<=Rows.uptoBulk d/\∀ p∈P,p.length<=Rows.uptoBulk d/\∀ c∈p,c.length<=Rows.uptoBulk d/\∀ i∈c,isInt i.n:=by
 obtain⟨a0,len0,cap0,rfl⟩:=okWide_slice Tryz.underlying22 w;obtain⟨fuel,t⟩:=h;rcases Deep.open_slice1 Tryz.underlying22 B8 t with ⟨e,_⟩ | ⟨a,len,cap,m,n,V,D,Pl,e,_,hl,_,hm,hx,hel⟩
 ·simp [Value.cells]at e;rw [e.1,e.2.1,e.2.2];exact⟨[],⟨none,0,rfl,fun k b=>by simp at b⟩,by simp,fun p hp=>by cases hp⟩
 ·simp [Value.cells]at e;rw [e.1,e.2.1,e.2.2];simp only [if_true]at hm;obtain⟨f,o⟩:=Deep.choose_lt (α:=List (List Ins)) (n:=len) (p:=fun k p=>ProgAt W (.agg #[V k]) p/\p.length<=Rows.uptoBulk (D k)/\(∀ c∈p,c.length<=Rows.uptoBulk (D k)/\∀ i∈c,isInt i.n)/\2<=Rows.uptoBulk (D k)) (fun k b=>yN (hel k (by omega)).2);have r:((List.range len).map f).length=len:=by simp
  have l:d= .slice ((List.range len).map D) ((List.range (m - len)).map fun j=>D (len+j)):=congrArg Prod.fst hx;refine⟨(List.range len).map f,⟨some a,cap,by rw [r],fun k b=>?_⟩,?_,fun p hp=>?_⟩
  ·have u:k<len:=by omega
   have s:=nA (hel 0 (by omega)).1;refine⟨a.block,a.off,by rw [<-s],V k,jn (by rw [s]) (hel k (by omega)).1,?_⟩;simpa using (o k u).1
  ·rw [r,l];have:=xz ((List.range len).map D) (fun d l=>by
    obtain⟨k,b,rfl⟩:=List.mem_map.1 l;exact(o k (by simpa using b)).2.2.2)
   simp only [Rows.uptoBulk];simp at this;omega
  ·obtain⟨k,b,rfl⟩:=List.mem_map.1 hp;obtain⟨_,h1,q,_⟩:=o k (by simpa using b);have h3:=qI ((List.range len).map D) (D k) (List.mem_map.2 ⟨k,b,rfl⟩);have h4:Rows.uptoBulk (D k)<=Rows.uptoBulk d:=by
    rw [l];simp only [Rows.uptoBulk];omega
   exact⟨by omega,fun c hc=>⟨by have:=(q c hc).1;omega,(q c hc).2⟩⟩
theorem zh{v:Value}{d:DataW H}{w:List MemPlace}{base:Nat}(u:Value.okWide Tryz.prog W .any base 23 v)(h:DataW.Trod enc Tryz.prog W 0 (fun _=>true) true 23 v d w):
  ∃ S,SchsAt W v S/\S.length<=Rows.uptoBulk d/\∀ s∈S,s.length<=Rows.uptoBulk d:=by
 obtain⟨a0,len0,cap0,rfl⟩:=okWide_slice Tryz.underlying23 u;obtain⟨fuel,t⟩:=h;rcases Deep.open_slice1 Tryz.underlying23 B7 t with ⟨e,_⟩ | ⟨a,len,cap,m,n,V,D,Pl,e,_,hl,_,hm,hx,hel⟩
 ·simp [Value.cells]at e;rw [e.1,e.2.1,e.2.2];exact⟨[],⟨none,0,rfl,fun k b=>by simp at b⟩,by simp,fun p hp=>by cases hp⟩
 ·simp [Value.cells]at e;rw [e.1,e.2.1,e.2.2];simp only [if_true]at hm;obtain⟨f,c⟩:=Deep.choose_lt (α:=List Int) (n:=len) (p:=fun k l=>IntsAt W.heap.size W (V k) l/\nilA (V k)/\l.length<=Rows.uptoBulk (D k)) (fun k b=>yr (hel k (by omega)).2);have q:((List.range len).map f).length=len:=by simp
  have i:d= .slice ((List.range len).map D) ((List.range (m - len)).map fun j=>D (len+j)):=congrArg Prod.fst hx;refine⟨(List.range len).map f,⟨some a,cap,by rw [q],fun k b=>?_⟩,?_,fun p hp=>?_⟩
  ·have o:k<len:=by omega
   have r:=nA (hel 0 (by omega)).1;refine⟨a.block,a.off,by rw [<-r],V k,jn (by rw [r]) (hel k (by omega)).1,?_,(c k o).2.1⟩;simpa using (c k o).1
  ·rw [q,i];have:=mB ((List.range len).map D);simp only [Rows.uptoBulk];simp at this;omega
  ·obtain⟨k,b,rfl⟩:=List.mem_map.1 hp;obtain⟨_,_,h1⟩:=c k (by simpa using b);have h3:=qI ((List.range len).map D) (D k) (List.mem_map.2 ⟨k,b,rfl⟩);have h4:Rows.uptoBulk (D k)<=Rows.uptoBulk d:=by
    rw [i];simp only [Rows.uptoBulk];omega
   omega
theorem tp{v:Value}{d:DataW H}{y:List MemPlace}{base:Nat}(w:Value.okWide Tryz.prog W .any base 24 v)(h:DataW.Trod enc Tryz.prog W 0 (fun _=>true) true 24 v d y):
  ∃ L,StrsAt W v L/\L.length<=Rows.uptoBulk d/\∀ x∈L,x.size<=Rows.uptoBulk d:=by
 obtain⟨a0,len0,cap0,rfl⟩:=okWide_slice Tryz.underlying24 w;obtain⟨fuel,t⟩:=h;rcases Deep.open_slice1 Tryz.underlying24 Ck t with ⟨e,_⟩ | ⟨a,len,cap,m,n,V,D,Pl,e,_,hl,_,hm,hx,hel⟩
 ·simp [Value.cells]at e;rw [e.1,e.2.1,e.2.2];exact⟨[],⟨none,0,rfl,fun k b=>by simp at b⟩,by simp,fun p hp=>by cases hp⟩
 ·simp [Value.cells]at e;rw [e.1,e.2.1,e.2.2];simp only [if_true]at hm;have hinh:Inhabited ByteArray:=⟨⟨#[]⟩⟩;obtain⟨f,l⟩:=Deep.choose_lt (α:=ByteArray) (n:=len) (p:=fun k x=>V k= .string x/\x.size<=Rows.uptoBulk (D k)) (fun k b=>by
   obtain⟨x,c,r,_⟩:=DataW.trod_string Tryz.underlying9 (hel k (by omega)).2;simp only [List.cons.injEq,and_true]at c;refine⟨x,c,?_⟩;have s:D k= .lit (.string x.data.toList):=congrArg Prod.fst r;rw [s];simp only [Rows.uptoBulk];have:x.data.toList.length=x.size:=by simp
   omega)
  have o:((List.range len).map f).length=len:=by simp
  have i:d= .slice ((List.range len).map D) ((List.range (m - len)).map fun j=>D (len+j)):=congrArg Prod.fst hx;refine⟨(List.range len).map f,⟨some a,cap,by rw [o],fun k b=>?_⟩,?_,fun p hp=>?_⟩
  ·have u:k<len:=by omega
   have q:=nA (hel 0 (by omega)).1;refine⟨a.block,a.off,by rw [<-q],?_⟩;have:=jn (by rw [q]) (hel k (by omega)).1;rw [(l k u).1]at this;simpa using this
  ·rw [o,i];have:=mB ((List.range len).map D);simp only [Rows.uptoBulk];simp at this;omega
  ·obtain⟨k,b,rfl⟩:=List.mem_map.1 hp;obtain⟨_,h1⟩:=l k (by simpa using b);have h3:=qI ((List.range len).map D) (D k) (List.mem_map.2 ⟨k,b,rfl⟩);have h4:Rows.uptoBulk (D k)<=Rows.uptoBulk d:=by
    rw [i];simp only [Rows.uptoBulk];omega
   omega
end
end
end Go.Proofs.YtklenjmfalljgabGreatDoor
