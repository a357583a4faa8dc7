/- The texts Kqd Hgy Hgz Hgw. -/
import Derived.Test.YtklenjmfalljgabGreatDoorM00
import Derived.Test.YtklenjmfalljgabGreatDoorM09
import Derived.Test.YtklenjmfalljgabGreatDoorM11
import Derived.Test.YtklenjmfalljgabGreatDoorM15
import Derived.Test.YtklenjmfalljgabGreatDoorM22
import Derived.Test.YtklenjmfalljgabGreatDoorM26
import Derived.Test.YtklenjmfalljgabGreatDoorM28
namespace Go.Proofs.YtklenjmfalljgabGreatDoor
set_option maxRecDepth 100000
set_option maxHeartbeats 8000000
section
open Go.RowKit
theorem ThrD.low{B B':Nat}{w:World}{tv:Value}{T:List (Value × Nat × List Value)}(h:ThrD B w tv T)(hb:B'<=B):ThrD B' w tv T:=
 ⟨iK h.row hb,fun x hx=>⟨iK (h.el x hx).1 hb,(h.el x hx).2⟩,h.dis⟩
theorem ThrD.grown{B:Nat}{w w':World}{tv:Value}{T:List (Value × Nat × List Value)}(h:ThrD B w tv T)(hg:w.grownBy w' none):ThrD B w' tv T:=
 ⟨iC h.row hg (fun _ e=>by cases e),fun x hx=>⟨iC (h.el x hx).1 hg (fun _ e=>by cases e),(h.el x hx).2⟩,h.dis⟩
theorem Be{L B:Nat}{w:World}{tv:Value}{p:List (List Ins)}(h:ThrAt L B w tv p)(r:∀ c∈p,c.length<=900):∃ T,T.length=p.length/\ThrD L w tv T:=by
 obtain⟨rows,d,n,o,q⟩:=h;have k:rows.length=p.length:=by have:=d.1;omega
 have b:(List.zipWith (fun(v:Value) (c:List Ins)=>(v,c.length,insCells c)) rows p).length=p.length:=by simp [k]
 have s:(List.zipWith (fun(v:Value) (c:List Ins)=>(v,c.length,insCells c)) rows p).map (·.1)=rows:=by
  apply List.ext_getElem
  ·simp [k]
  ·intro i d n;simp
 refine⟨_,b,⟨?_,fun x hx=>?_,fun i j hi a hij g e e'=>?_⟩⟩
 ·rw [b,s];exact d
 ·obtain⟨j,a,rfl⟩:=List.getElem_of_mem hx;rw [b]at a;obtain⟨rv,f,l,_⟩:=o j a;simp only [List.getElem_zipWith];have m:rows[j]'(by omega)=rv:=by
   rw [List.getElem?_eq_getElem (by omega)]at f;simpa using f
  rw [m];exact⟨l,r _ (List.getElem_mem a)⟩
 ·simp only [List.getElem_zipWith]at e e';rw [b]at hi a;exact q i j _ _ hij (List.getElem?_eq_getElem (by omega)) (List.getElem?_eq_getElem (by omega)) g e e'
def decOut(s:ByteArray):Art × Int:=match decB (byt s)with
 | none=>(⟨[],[],(0,0,0)⟩,3)
 | some a=>(a,0)
theorem lu{s:ByteArray}(h:decB (byt s)=none):decOut s=(⟨[],[],(0,0,0)⟩,3):=by unfold decOut;rw [h]
theorem lw{s:ByteArray}{a:Art}(h:decB (byt s)=some a):decOut s=(a,0):=by unfold decOut;rw [h]
theorem qL(s:ByteArray):(decOut s).1.prog.length<=4/\(∀ c∈(decOut s).1.prog,c.length<=16)/\(decOut s).1.sch.length<=500:=by
 cases h:decB (byt s)with
 | none=>rw [lu h];simp
 | some a=>
  rw [lw h];obtain⟨d,e,_⟩:=m8 (pU (fun b hb=>qJ s b hb) h).2;simp only [vProg,Bool.and_eq_true,decide_eq_true_eq,List.all_eq_true]at d;simp only [validS,Bool.and_eq_true,decide_eq_true_eq]at e;refine⟨d.2.1,fun c hc=>?_,e.1⟩;have f:=d.2.2 c hc;simp only [vCode,Bool.and_eq_true,decide_eq_true_eq]at f;exact f.1
theorem DecS.form{w w':World}{L:Nat}{s:ByteArray}{e:Ending}(h:DecS w L s e w'):w.grownBy w' none/\∃ tv sv,e= .returned (.tuple #[.agg #[tv,sv,.int .i64 (decOut s).1.ver.1,.int .i64 (decOut s).1.ver.2.1,.int .i64 (decOut s).1.ver.2.2],.int .i64 (decOut s).2])/\ThrAt L w'.heap.size w' tv (decOut s).1.prog/\w'.ownsRow L 3 1 sv (decOut s).1.sch.length (ints (decOut s).1.sch):=by
 obtain⟨b,h⟩:=h;refine⟨b,?_⟩;rcases h with ⟨h0,rfl⟩ | ⟨a,tv,sv,h0,rfl,ht,ho⟩
 ·rw [lu h0];exact⟨_,_,rfl,⟨[],⟨rfl,Or.inl ⟨rfl,rfl⟩⟩,fun h e=>(by cases e),fun j hj=>absurd hj (Nat.not_lt_zero j),Apt.nil⟩,⟨rfl,Or.inl ⟨rfl,rfl⟩⟩⟩
 ·rw [lw h0];exact⟨_,_,rfl,ht,ho⟩
theorem RDec.form{w w':World}{s:ByteArray}{e:Ending}(h:RDec w s e w'):w.grownBy w' none/\∃ tv sv,e= .returned (.tuple #[.agg #[tv,sv,.int .i64 (decOut s).1.ver.1,.int .i64 (decOut s).1.ver.2.1,.int .i64 (decOut s).1.ver.2.2],.int .i64 (decOut s).2])/\ProgAt w' (.agg #[tv]) (decOut s).1.prog/\IntsAt w'.heap.size w' sv (decOut s).1.sch:=by
 obtain⟨b,h⟩:=h;refine⟨b,?_⟩;rcases h with ⟨h0,rfl⟩ | ⟨a,tv,sv,h0,rfl,hp,hi⟩
 ·rw [lu h0];exact⟨_,_,rfl,⟨none,0,rfl,fun k hk=>absurd hk (Nat.not_lt_zero k)⟩,⟨none,0,rfl,Nat.le_refl _,fun k hk=>absurd hk (Nat.not_lt_zero k)⟩⟩
 ·rw [lw h0];exact⟨_,_,rfl,hp,hi⟩
def HzD(W:World)(B b:Nat)(n:Int)(K:Nat->List (Value × Int))(e:Ending)(w':World):Prop:=
 e= .returned (.bool true)/\∃ n' who' f' K',n<=n'/\n'<=n+6/\Hz B w' b who' n' f' K'/\W.grownBy w' none/\∀ c,c<5->(K' c).length<=(K c).length+16
end
section
open Go.RowKit
attribute [local go_sem] Go.World.cell?_alloc_some
theorem uD{w w':World}(h:w.drew.grownBy w' none):w.grownBy w' none:=⟨h.os,h.tape,h.output,h.size,h.block⟩
theorem oT{w:World}{a:Option Addr}{b:Nat}{p:List (List Ins)}(h:ProgAt w (.agg #[.slice a p.length b]) p){t:Nat}(j:t<p.length):∃ g o,a=some ⟨g,o,none⟩/\∃ rv,w.cell? ⟨g,o+t,none⟩=some rv/\CodeAt w rv p[t]:=by
 obtain⟨ao',cap',e,i⟩:=h;simp only [Value.agg.injEq,Array.mk.injEq,List.cons.injEq,Value.slice.injEq,and_true,true_and]at e;obtain⟨g,o,c,rv,d,f⟩:=i t j;exact⟨g,o,by rw [e.1];exact c,rv,d,f⟩
theorem pK(p:List (List Ins))(a b:Value)(w:World)(G:ProgAt w a p)(H:ProgAt w b p)(hpl:p.length<=1000)(Z:∀ c∈p,c.length<=4398046510976):
  Calls Tryz.prog 43 #[a,b] w fun e w'=>e= .returned (.bool true)/\w.grownBy w' none:=by
 obtain⟨v,o,rfl⟩:=G.form;obtain⟨x,q,rfl⟩:=H.form;have HA:=ij G;have HB:=ij H;have ag:=ij Z;have qp:(p.length:Int)<=1000:=by omega
 clear G H Z;go_enter Tryz.func43,Tryz.ntmps43
 go_upto_region 1 with fail
 obtain⟨f,s⟩:∃ f,f=(w.alloc (.cells #[.slice v p.length o] 37)).alloc (.cells #[.slice x p.length q] 37):=⟨_,rfl⟩;rw [<-s];have r:Hid (w.grownBy f none):=by unfold Hid;rw [s];exact iq (iq (ir _ _))
 have P:f.cell? ⟨w.heap.size,0,none⟩=some (.slice v p.length o):=by
  have I:f.heap[w.heap.size]?=some (.cells #[.slice v p.length o] 37 (0,0)):=by rw [s,Below.heap_alloc _ _ _ (by simp)];exact heap_alloc_new w _
  simp [World.cell?,I]
 have Q:f.cell? ⟨w.heap.size+1,0,none⟩=some (.slice x p.length q):=by
  have I:f.heap[w.heap.size+1]?=some (.cells #[.slice x p.length q] 37 (0,0)):=by
   have:=heap_alloc_new (w.alloc (.cells #[.slice v p.length o] 37)) (.cells #[.slice x p.length q] 37);rw [s];simpa using this
  simp [World.cell?,I]
 clear s;generalize w.heap.size=n2 at*;have L:=ij P;have ad:=ij Q;go_wp2_with fail
 clear P Q;go_loopw [5] (fun iv w'=>∃ t:Nat,t<=p.length/\iv= .int .i64 t/\Hid (f.grownBy w' none)) (fun iv _=>p.length - (intOf iv).toNat)
 case atStart=>exact⟨0,Nat.zero_le _,rfl,ij (ir _ _)⟩
 case round=>
  obtain⟨t,ht,rfl,n⟩:=hrel;obtain⟨K,aa⟩:∃ K,K=wr:=⟨_,rfl⟩;rw [<-aa]at n ⊢;clear aa;have k2:=ip n.out _ _ L.out;by_cases J:t<p.length
  ·have q0:(0:Int)<=(t:Int):=by omega
   have q1:(t:Int)<p.length:=by omega
   obtain⟨y,z,rfl,rv,R,S⟩:=oT HA.out J;obtain⟨A,B,rfl,rw',T,U⟩:=oT HB.out J;have hcl:=ag.out _ (List.getElem_mem J);have ae:=ij S;have af:=ij U;obtain⟨C,D,ai,_⟩:=S;obtain⟨E,F,aj,_⟩:=U;subst ai aj;generalize p[t]=c at*;have O:Hid (∀ u,f.grownBy u none->u.cell? ⟨n2,0,none⟩=some (.slice (some ⟨y,z,none⟩) p.length o)/\u.cell? ⟨n2+1,0,none⟩=some (.slice (some ⟨A,B,none⟩) p.length q)/\u.cell? ⟨y,z+t,none⟩=some (.slice C c.length D)/\u.cell? ⟨A,B+t,none⟩=some (.slice E c.length F)):=fun u hu=>⟨ip hu _ _ L.out,ip hu _ _ ad.out,ip (il r.out hu) _ _ R,ip (il r.out hu) _ _ T⟩
   have ah:=ij (fun u hu=>mu c (.slice C c.length D) (.slice E c.length F) u (ae.out.pres (ip (il r.out hu))) (af.out.pres (ip (il r.out hu))) hcl);have X:=O.out K.drew (iy n.out);clear R T;go_upto_region 6 with fail
   refine iz (fun u=>u.cell? ⟨n2,0,none⟩=some (.slice (some ⟨y,z,none⟩) p.length o)/\u.cell? ⟨n2+1,0,none⟩=some (.slice (some ⟨A,B,none⟩) p.length q)/\u.cell? ⟨y,z+t,none⟩=some (.slice C c.length D)/\u.cell? ⟨A,B+t,none⟩=some (.slice E c.length F)) 11 (by kernel_rfl) (by kernel_rfl) X ?_;intro d;refine ie 0 ?v0 rfl (by kernel_rfl) (fun _ _ _ h=>h) (by kernel_rfl) ?y0 d ?_
   case y0=>(rintro u ⟨j,k,l,m⟩;go_simp;try rfl)
   simp only [Act.put,List.setIfInBounds_toArray];refine ie 1 ?v1 rfl (by kernel_rfl) (fun _ _ _ h=>h) (by kernel_rfl) ?y1 d ?_
   case y1=>(rintro u ⟨j,k,l,m⟩;go_simp;try rfl)
   simp only [Act.put];refine ie 2 ?v2 rfl (by kernel_rfl) (fun _ _ _ h=>h) (by kernel_rfl) ?y2 d ?_
   case y2=>(rintro u ⟨j,k,l,m⟩;go_simp;try rfl)
   simp only [Act.put];refine ie 3 ?v3 rfl (by kernel_rfl) (fun _ _ _ h=>h) (by kernel_rfl) ?y3 d ?_
   case y3=>(rintro u ⟨j,k,l,m⟩;go_simp;try rfl)
   simp only [Act.put];refine ie 4 ?v4 rfl (by kernel_rfl) (fun _ _ _ h=>h) (by kernel_rfl) ?y4 d ?_
   case y4=>(rintro u ⟨j,k,l,m⟩;go_simp;try rfl)
   simp only [Act.put];refine ie 5 ?v5 rfl (by kernel_rfl) (fun _ _ _ h=>h) (by kernel_rfl) ?y5 d ?_
   case y5=>(rintro u ⟨j,k,l,m⟩;go_simp;try rfl)
   simp only [Act.put];refine ie 6 ?v6 rfl (by kernel_rfl) (fun _ _ _ h=>h) (by kernel_rfl) ?y6 d ?_
   case y6=>(rintro u ⟨j,k,l,m⟩;go_simp;try rfl)
   simp only [Act.put];refine ie 7 ?v7 rfl (by kernel_rfl) (fun _ _ _ h=>h) (by kernel_rfl) ?y7 d ?_
   case y7=>(rintro u ⟨j,k,l,m⟩;go_simp;try rfl)
   simp only [Act.put];refine ie 8 ?v8 rfl (by kernel_rfl) (fun _ _ _ h=>h) (by kernel_rfl) ?y8 d ?_
   case y8=>(rintro u ⟨j,k,l,m⟩;go_simp;try rfl)
   simp only [Act.put];refine ie 9 ?v9 rfl (by kernel_rfl) (fun _ _ _ h=>h) (by kernel_rfl) ?y9 d ?_
   case y9=>(rintro u ⟨j,k,l,m⟩;go_simp;try rfl)
   simp only [Act.put];refine iu (i:=10) rfl (by kernel_rfl) (by kernel_rfl) (by kernel_rfl) ?_;intro K10 W;have N:=ij W;clear W;go_simp;refine(ah.out _ (iy n.out)).mono ?_;rintro e w3 ⟨rfl,Y⟩;have M:Hid (f.grownBy w3 none):=il n.out (uD (iH Y));have V:=O.out w3 M.out;refine N.out _ _ V ?_;clear N Y;try simp only [Act.put,List.setIfInBounds_toArray]
   refine iF rfl (by kernel_rfl) (by kernel_rfl) (by kernel_rfl) ?_;go_simp;clear d V X k2;go_wp2_with fail
   go_roundw
   case rel=>exact⟨t+1,by omega,by go_num,M⟩
   case measure=>simp [intOf]<;>omega
  ·have q1:(p.length:Int)<=(t:Int):=by omega
   go_wp2_with fail
   go_ret;exact⟨rfl,il r.out n.out⟩
theorem mm{w:World}{g:Nat}{x0 x1 x2 x3 a:Value}{t:TypeId}(h:w.heap[g]?=some (.cells #[x0,x1,x2,x3,a] t (0,0))):w.cell? ⟨g,0,none⟩=some x0/\w.cell? ⟨g,1,none⟩=some x1/\w.cell? ⟨g,2,none⟩=some x2/\w.cell? ⟨g,3,none⟩=some x3/\w.cell? ⟨g,4,none⟩=some a:=by
 simp [World.cell?,h]
theorem yI(n:Int)(w:World):Calls Tryz.prog 23 #[.int .i64 n] w fun e w'=>e= .returned (.int .i64 n)/\w'=w:=by
 go_enter Tryz.func23,Tryz.ntmps23
 go_wp2_with fail
 go_ret;exact⟨rfl,rfl⟩
theorem vN(W:World)(B:Nat)(w:World)(b:Nat)(who:Nat->Role)(n:Int)(f:Nat->Value)(K:Nat->List (Value × Int))(tv sv:Value)(p:List (List Ins))(s:List Int)(k0 k1 k2:Int)
  (h:Hz B w b who n f K) (hW:W.grownBy w none) (D:W.heap.size<=B) (hS:ShpAt W) (hP:ProgAt W (.agg #[tv]) p) (hI:IntsAt W.heap.size W sv s) (aj:p.length<=5864062014634) (aS:∀ c∈p,c.length<=4398046510976) (bn:s.length<=17592186043904) (aR:∀ c∈p,∀ i∈c,nInt i):
  Calls Tryz.prog 11 #[pt b,.agg #[tv,sv,.int .i64 k0,.int .i64 k1,.int .i64 k2]] w (HzE W B b n K w who):=by
 obtain⟨v,x,aT⟩:=hP.form;simp only [Value.agg.injEq,Array.mk.injEq,List.cons.injEq,and_true]at aT;subst aT;obtain⟨t,r,rfl⟩:=hI.form;have Y:=ij h;have HW:=ij hW;have HS:=ij hS;have HP:=ij hP;have Z:=ij hI;have aA:=ij aS;have ay:=ij aR;have O:pt b= .pointer (some ⟨b,0,none⟩):=rfl;clear h hW hS hP hI aS aR;rw [O];go_enter Tryz.func11,Tryz.ntmps11
 go_upto_region 1 with fail
 obtain⟨a,P⟩:∃ a,a=w.alloc (.cells #[.slice v p.length x,.slice t s.length r,.int .i64 k0,.int .i64 k1,.int .i64 k2] 56):=⟨_,rfl⟩;have ak:Hid (a.heap[w.heap.size]?=some (.cells #[.slice v p.length x,.slice t s.length r,.int .i64 k0,.int .i64 k1,.int .i64 k2] 56 (0,0))):=by unfold Hid;rw [P];exact heap_alloc_new w _
 have U:Hid (w.grownBy a none):=by unfold Hid;rw [P];exact iq (ir _ _)
 rw [<-P];clear P;have C:Hid (∀ u:World,u.heap[w.heap.size]?=a.heap[w.heap.size]?->u.cell? ⟨w.heap.size,0,none⟩=some (.slice v p.length x)/\u.cell? ⟨w.heap.size,1,none⟩=some (.slice t s.length r)/\u.cell? ⟨w.heap.size,2,none⟩=some (.int .i64 k0)/\u.cell? ⟨w.heap.size,3,none⟩=some (.int .i64 k1)/\u.cell? ⟨w.heap.size,4,none⟩=some (.int .i64 k2)):=fun u hu=>by
  obtain⟨e0,e1,e2,e3,e4⟩:=mm (show u.heap[w.heap.size]?=some (.cells #[.slice v p.length x,.slice t s.length r,.int .i64 k0,.int .i64 k1,.int .i64 k2] 56 (0,0)) by rw [hu];exact ak.out);exact⟨e0,e1,e2,e3,e4⟩
 have aB:Hid (W.grownBy a.drew none):=iy (il HW.out U.out);have aa:=ij (kz W B a.drew b who n f K [] [] [] (.agg #[.slice v p.length x]) p (Y.out.lx.grown (iy U.out)) aB.out D HP.out aj aA.out (by simpa using aj) (by simp));rw [O]at aa;have aU:who w.heap.size= .other:=by
  by_cases e:who w.heap.size= .other
  ·exact e
  ·exact absurd (Y.out.1.1.dom _ e).2 (by omega)
 have a6:=ij aU;have au:Hid (w.heap.size<a.heap.size):=(Array.getElem?_eq_some_iff.1 ak.out).1;clear aU;refine iz (fun u=>u.cell? ⟨w.heap.size,0,none⟩=some (.slice v p.length x)/\u.cell? ⟨w.heap.size,1,none⟩=some (.slice t s.length r)/\u.cell? ⟨w.heap.size,2,none⟩=some (.int .i64 k0)/\u.cell? ⟨w.heap.size,3,none⟩=some (.int .i64 k1)/\u.cell? ⟨w.heap.size,4,none⟩=some (.int .i64 k2)) 16 (by kernel_rfl) (by kernel_rfl) (C.out a.drew rfl) ?_;intro q;refine ie 0 ?v1 rfl (by kernel_rfl) (fun _ _ _ h=>h) (by kernel_rfl) ?y1 q ?_
 case y1=>(rintro u ⟨d,j,k,l,m⟩;go_simp;try rfl)
 simp only [Act.put,List.setIfInBounds_toArray];refine ie 1 ?v2 rfl (by kernel_rfl) (fun _ _ _ h=>h) (by kernel_rfl) ?y2 q ?_
 case y2=>(rintro u ⟨d,j,k,l,m⟩;go_simp;try rfl)
 simp only [Act.put];refine ie 2 ?v3 rfl (by kernel_rfl) (fun _ _ _ h=>h) (by kernel_rfl) ?y3 q ?_
 case y3=>(rintro u ⟨d,j,k,l,m⟩;go_simp;try rfl)
 simp only [Act.put];refine ie 4 ?v4 rfl (by kernel_rfl) (fun _ _ _ h=>h) (by kernel_rfl) ?y4 q ?_
 case y4=>(rintro u ⟨d,j,k,l,m⟩;go_simp;try rfl)
 simp only [Act.put];refine ie 5 ?v5 rfl (by kernel_rfl) (fun _ _ _ h=>h) (by kernel_rfl) ?y5 q ?_
 case y5=>(rintro u ⟨d,j,k,l,m⟩;go_simp;try rfl)
 simp only [Act.put];refine ie 6 ?v6 rfl (by kernel_rfl) (fun _ _ _ h=>h) (by kernel_rfl) ?y6 q ?_
 case y6=>(rintro u ⟨d,j,k,l,m⟩;go_simp;try rfl)
 simp only [Act.put];refine ie 8 ?v7 rfl (by kernel_rfl) (fun _ _ _ h=>h) (by kernel_rfl) ?y7 q ?_
 case y7=>(rintro u ⟨d,j,k,l,m⟩;go_simp;try rfl)
 simp only [Act.put];refine ie 9 ?v8 rfl (by kernel_rfl) (fun _ _ _ h=>h) (by kernel_rfl) ?y8 q ?_
 case y8=>(rintro u ⟨d,j,k,l,m⟩;go_simp;try rfl)
 simp only [Act.put];refine iu (i:=3) rfl (by kernel_rfl) (by kernel_rfl) (by kernel_rfl) ?_;intro K3 aJ;have aq:=ij aJ;clear aJ;go_simp;refine(aa.out).mono ?_;clear aa;rintro e A ⟨g,LC1,aW,f1,rfl,I,ai,F,bm⟩;obtain⟨E,H⟩:=F.oth w.heap.size au.out a6.out (fun e=>e);have al:Hid (A.heap[w.heap.size]?=a.heap[w.heap.size]?):=E;have ad:Hid (W.grownBy A none):=F.base aB.out D (fun g e=>(Y.out.1.1.dom g e).1) (fun _ e=>e.elim);have aY:Hid (Fr w A who aW (fun g=>w.heap.size<=g)):=(Fr.grown (iy U.out)).step0 F;have aQ:LC1.length=p.length:=by rw [<-ai];simp
 simp only [List.nil_append]at I;have ac:=ij (jP B A b aW n f1 K [] LC1 [(g,p.length)] 0 (.slice t s.length r) s I ((Z.out.pres (ip ad.out)).mono ad.out.size) (kg I.hs D Z.out) bn (by simp));rw [O]at ac;have a9:=ij I;have a1:=ij ai;have a7:=ij H;have ax:=ij aQ;have av:Hid (w.heap.size<A.heap.size):=by unfold Hid;have:=F.size;have:=au.out;simp only [World.drew]at*;omega
 clear I ai F bm E H aQ;have aG:=C.out A al.out;refine aq.out _ _ aG ?_;clear aq;try simp only [Act.put,List.setIfInBounds_toArray]
 refine iu (i:=7) rfl (by kernel_rfl) (by kernel_rfl) (by kernel_rfl) ?_;intro K7 aK;have ar:=ij aK;clear aK;go_simp;refine(ac.out).mono ?_;clear ac;rintro e o ⟨gs,R,f2,rfl,z,G⟩;simp only [List.nil_append]at z;have aC:Hid (W.grownBy o none):=G.base ad.out D (fun g e=>(a9.out.hs.1.dom g e).1) (fun _ e=>e.elim);have aZ:Hid (Fr w o who R (fun g=>w.heap.size<=g)):=aY.out.step0 G;obtain⟨E,H⟩:=G.oth w.heap.size av.out a7.out (fun e=>e);have am:Hid (o.heap[w.heap.size]?=a.heap[w.heap.size]?):=E.trans al.out;have a8:=ij H;have aP:o.heap[g]?=some (.cells (lentRows LC1) 66 (0,0)):=by
  have:=(z.le.lr 0 (by simp)).1;simp only [List.getElem_cons_zero,List.take_zero,List.map_nil,List.sum_nil,List.drop_zero]at this;rw [List.take_of_length_le (by rw [ax.out];omega)]at this;exact this
 have aL:ProgAt o (.agg #[.slice (some ⟨g,0,none⟩) p.length (p.length+2)]) p:=ky (LC0:=[]) (by simpa using z.le) aP a1.out _;have aH:IntsAt o.heap.size o (.slice (some ⟨gs,0,none⟩) s.length (s.length+2)) s:=jQ (z.le.li (gs,s,.slice t s.length r) (by simp)).1;have T:=ij (tK p s k0 k1 k2 _ _ o (HS.out.pres (ip aC.out)) aL aH ay.out);have aD:=ij z;have aw:Hid (w.heap.size<o.heap.size):=by unfold Hid;have:=G.size;have:=av.out;omega
 clear z G E H aP aL aH;have ae:=C.out o am.out;obtain⟨SS,EE,ah⟩:=sR ⟨p,s,(k0,k1,k2)⟩;rw [ah]at T;have a3:=ij ah;clear ah;refine ar.out _ _ ae ?_;clear ar;try simp only [Act.put,List.setIfInBounds_toArray]
 refine ie 10 ?v9 rfl (by kernel_rfl) (fun _ _ _ h=>h) (by kernel_rfl) ?y9 ae ?_
 case y9=>(rintro u ⟨d,j,k,l,m⟩;go_simp;try rfl)
 simp only [Act.put,List.setIfInBounds_toArray];refine iu (i:=11) rfl (by kernel_rfl) (by kernel_rfl) (by kernel_rfl) ?_;intro K11 aI;have ap:=ij aI;clear aI;go_simp;refine(T.out).mono ?_;clear T;rintro e Q ⟨rfl,N⟩;have V:=ij N;have an:Hid (Q.heap[w.heap.size]?=a.heap[w.heap.size]?):=by unfold Hid;rw [N.block _ aw.out (by simp)];exact am.out
 have a5:Hid (W.grownBy Q none):=il aC.out N;clear N;have y:=C.out Q an.out;refine ap.out _ _ y ?_;clear ap;try simp only [Act.put,List.setIfInBounds_toArray]
 refine ie 12 ?v10 rfl (by kernel_rfl) (fun _ _ _ h=>h) (by kernel_rfl) ?y10 y ?_
 case y10=>(rintro u ⟨d,j,k,l,m⟩;go_simp;try rfl)
 simp only [Act.put,List.setIfInBounds_toArray];refine ie 13 ?v11 rfl (by kernel_rfl) (fun _ _ _ h=>h) (by kernel_rfl) ?y11 y ?_
 case y11=>(rintro u ⟨d,j,k,l,m⟩;go_simp;try rfl)
 simp only [Act.put];refine ie 14 ?v12 rfl (by kernel_rfl) (fun _ _ _ h=>h) (by kernel_rfl) ?y12 y ?_
 case y12=>(rintro u ⟨d,j,k,l,m⟩;go_simp;try rfl)
 simp only [Act.put];refine ie 15 ?v13 rfl (by kernel_rfl) (fun _ _ _ h=>h) (by kernel_rfl) ?y13 y ?_
 case y13=>(rintro u ⟨d,j,k,l,m⟩;go_simp;try rfl)
 simp only [Act.put];refine iF rfl (by kernel_rfl) (by kernel_rfl) (by kernel_rfl) ?_;go_simp;clear q aG ae y;have S:=ij (m9 B Q b R n f2 K _ _ _ (aD.out.grown V.out) (by simp) (by rw [ax.out];omega) (by simp));rw [O]at S;go_wp2_with fail
 refine S.out.mono ?_;clear S;rintro e J ⟨rfl,f4,aV,M⟩;have L:Hid (W.grownBy J none):=M.base a5.out D (fun g e=>(aD.out.hs.1.dom g e).1) (fun _ e=>e.elim);have a0:Hid (Fr w J who R (fun g=>w.heap.size<=g)):=(aZ.out.stepG V.out).step0 M;have aX:Hid (J.heap[w.heap.size]?=a.heap[w.heap.size]?):=by
  unfold Hid;rw [(M.oth w.heap.size (Nat.lt_of_lt_of_le aw.out V.out.size) a8.out (fun e=>e)).1];exact an.out
 obtain⟨d0,d1,d2,d3,d4⟩:=C.out J aX.out;have ab:=ij (nQ p s k0 k1 k2 (.slice v p.length x) (.slice t s.length r) J (HP.out.pres (ip L.out)) ((Z.out.pres (ip L.out)).mono L.out.size) aj aA.out ay.out);rw [a3.out]at ab;have aE:=ij aV;clear aV M;go_wp2_with fail
 refine ab.out.mono ?_;clear ab d0 d1 d2 d3 d4;rintro e w5 ⟨aO,rfl⟩;have X:=ij aO;clear aO;go_wp2_with (go_at_call 23;refine(yI _ _).mono ?_;rintro e w9 ⟨rfl,bo⟩;have bp:=bo.symm;subst bp)
 go_ret;exact⟨by simp,R,f4,⟨aE.out.1.grown X.out,aE.out.2⟩,il L.out X.out,a0.out.stepG X.out⟩
end
section
open Go.RowKit
def f00:Nat->Value:=fun k=>if k=5 then .int .i64 0 else .slice none 0 0
theorem Hz.start{w:World}{b:Nat}(h:w.heap[b]?=some (.cells (hcl f00) 45 (0,0))):Hz b w b (setW (fun _=> .other) b .hands) 0 f00 (fun _=>[]):=by
 have a:∀ k,k≠5->f00 k= .slice none 0 0:=fun k hk=>by unfold f00;rw [if_neg hk]
 refine⟨⟨⟨h,rfl,fun c hc=>?_,fun c hc=>?_,fun c hc g e=>?_,fun c hc g e=>?_,iY _ _ _,fun c hc x hx=>(by cases hx),fun g e=>?_⟩,fun c hc x hx=>(by cases hx)⟩,fun k hk=>a k (by omega)⟩
 ·rw [a _ (by omega)];exact⟨rfl,Or.inl ⟨rfl,rfl⟩⟩
 ·rw [a _ (by omega)];exact⟨rfl,Or.inl ⟨rfl,rfl⟩⟩
 ·rw [a _ (by omega)]at e;cases e
 ·rw [a _ (by omega)]at e;cases e
 ·by_cases d:g=b
  ·subst d;exact⟨Nat.le_refl _,(Array.getElem?_eq_some_iff.1 h).1⟩
  ·rw [iJ _ _ d]at e;exact absurd rfl e
end
end Go.Proofs.YtklenjmfalljgabGreatDoor
