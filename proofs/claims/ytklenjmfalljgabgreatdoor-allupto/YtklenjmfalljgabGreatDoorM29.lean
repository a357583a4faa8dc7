/- The texts Kqd Hgy Hgz Hgw. -/
import Derived.Test.YtklenjmfalljgabGreatDoorM00
import Derived.Test.YtklenjmfalljgabGreatDoorM09
import Derived.Test.YtklenjmfalljgabGreatDoorM11
import Derived.Test.YtklenjmfalljgabGreatDoorM15
import Derived.Test.YtklenjmfalljgabGreatDoorM22
import Derived.Test.YtklenjmfalljgabGreatDoorM26
import Derived.Test.YtklenjmfalljgabGreatDoorM28
namespace Go.Proofs.YtklenjmfalljgabGreatDoor
set_option maxRecDepth 100000
set_option maxHeartbeats 8000000
section
open Go.RowKit
theorem ThrD.low{B B':Nat}{w:World}{tv:Value}{T:List (Value × Nat × List Value)}(h:ThrD B w tv T)(hb:B'<=B):ThrD B' w tv T:=
 ⟨iR h.row hb,fun x hx=>⟨iR (h.el x hx).1 hb,(h.el x hx).2⟩,h.dis⟩
theorem ThrD.grown{B:Nat}{w w':World}{tv:Value}{T:List (Value × Nat × List Value)}(h:ThrD B w tv T)(hg:w.grownBy w' none):ThrD B w' tv T:=
 ⟨iE h.row hg (fun _ e=>by cases e),fun x hx=>⟨iE (h.el x hx).1 hg (fun _ e=>by cases e),(h.el x hx).2⟩,h.dis⟩
theorem DJ{L B:Nat}{w:World}{tv:Value}{p:List (List Ins)}(h:ThrAt L B w tv p)(r:∀ c∈p,c.length<=900):∃ T,T.length=p.length/\ThrD L w tv T:=by
 obtain⟨rows,d,m,l,o⟩:=h;have f:rows.length=p.length:=by have:=d.1;omega
 have b:(List.zipWith (fun(v:Value) (c:List Ins)=>(v,c.length,jk c)) rows p).length=p.length:=by simp [f]
 have n:(List.zipWith (fun(v:Value) (c:List Ins)=>(v,c.length,jk c)) rows p).map (·.1)=rows:=by
  apply List.ext_getElem
  ·simp [f]
  ·intro i d m;simp
 refine⟨_,b,⟨?_,fun x hx=>?_,fun i j hi a hij g e e'=>?_⟩⟩
 ·rw [b,n];exact d
 ·obtain⟨j,a,rfl⟩:=List.getElem_of_mem hx;rw [b]at a;obtain⟨rv,k,q,_⟩:=l j a;simp only [List.getElem_zipWith];have s:rows[j]'(by omega)=rv:=by
   rw [List.getElem?_eq_getElem (by omega)]at k;simpa using k
  rw [s];exact⟨q,r _ (List.getElem_mem a)⟩
 ·simp only [List.getElem_zipWith]at e e';rw [b]at hi a;exact o i j _ _ hij (List.getElem?_eq_getElem (by omega)) (List.getElem?_eq_getElem (by omega)) g e e'
def jP(s:ByteArray):Art × Int:=match kj (byt s)with
 | none=>(⟨[],[],(0,0,0)⟩,3)
 | some a=>(a,0)
theorem oU{s:ByteArray}(h:kj (byt s)=none):jP s=(⟨[],[],(0,0,0)⟩,3):=by unfold jP;rw [h]
theorem oR{s:ByteArray}{a:Art}(h:kj (byt s)=some a):jP s=(a,0):=by unfold jP;rw [h]
theorem vn(s:ByteArray):(jP s).1.prog.length<=4/\(∀ c∈(jP s).1.prog,c.length<=16)/\(jP s).1.sch.length<=500:=by
 cases h:kj (byt s)with
 | none=>rw [oU h];simp
 | some a=>
  rw [oR h];obtain⟨d,f,_⟩:=qU (um (fun b hb=>vB s b hb) h).2;simp only [iV,Bool.and_eq_true,decide_eq_true_eq,List.all_eq_true]at d;simp only [jd,Bool.and_eq_true,decide_eq_true_eq]at f;refine⟨d.2.1,fun c hc=>?_,f.1⟩;have e:=d.2.2 c hc;simp only [kU,Bool.and_eq_true,decide_eq_true_eq]at e;exact e.1
theorem DecS.form{w w':World}{L:Nat}{s:ByteArray}{e:Ending}(h:DecS w L s e w'):w.grownBy w' none/\∃ tv sv,e= .returned (.tuple #[.agg #[tv,sv,.int .i64 (jP s).1.ver.1,.int .i64 (jP s).1.ver.2.1,.int .i64 (jP s).1.ver.2.2],.int .i64 (jP s).2])/\ThrAt L w'.heap.size w' tv (jP s).1.prog/\w'.ownsRow L 3 1 sv (jP s).1.sch.length (iM (jP s).1.sch):=by
 obtain⟨b,h⟩:=h;refine⟨b,?_⟩;rcases h with ⟨h0,rfl⟩ | ⟨a,tv,sv,h0,rfl,ht,ho⟩
 ·rw [oU h0];exact⟨_,_,rfl,⟨[],⟨rfl,Or.inl ⟨rfl,rfl⟩⟩,fun h e=>(by cases e),fun j hj=>absurd hj (Nat.not_lt_zero j),Apt.nil⟩,⟨rfl,Or.inl ⟨rfl,rfl⟩⟩⟩
 ·rw [oR h0];exact⟨_,_,rfl,ht,ho⟩
theorem RDec.form{w w':World}{s:ByteArray}{e:Ending}(h:RDec w s e w'):w.grownBy w' none/\∃ tv sv,e= .returned (.tuple #[.agg #[tv,sv,.int .i64 (jP s).1.ver.1,.int .i64 (jP s).1.ver.2.1,.int .i64 (jP s).1.ver.2.2],.int .i64 (jP s).2])/\ProgAt w' (.agg #[tv]) (jP s).1.prog/\IntsAt w'.heap.size w' sv (jP s).1.sch:=by
 obtain⟨b,h⟩:=h;refine⟨b,?_⟩;rcases h with ⟨h0,rfl⟩ | ⟨a,tv,sv,h0,rfl,hp,hi⟩
 ·rw [oU h0];exact⟨_,_,rfl,⟨none,0,rfl,fun k hk=>absurd hk (Nat.not_lt_zero k)⟩,⟨none,0,rfl,Nat.le_refl _,fun k hk=>absurd hk (Nat.not_lt_zero k)⟩⟩
 ·rw [oR h0];exact⟨_,_,rfl,hp,hi⟩
def HzD(W:World)(B b:Nat)(n:Int)(K:Nat->List (Value × Int))(e:Ending)(w':World):Prop:=
 e= .returned (.bool true)/\∃ n' who' f' K',n<=n'/\n'<=n+6/\Hz B w' b who' n' f' K'/\W.grownBy w' none/\∀ c,c<5->(K' c).length<=(K c).length+16
end
section
open Go.RowKit
attribute [local go_sem] Go.World.cell?_alloc_some
theorem zd{w w':World}(h:w.drew.grownBy w' none):w.grownBy w' none:=⟨h.os,h.tape,h.output,h.size,h.block⟩
theorem sm{w:World}{a:Option Addr}{i:Nat}{p:List (List Ins)}(h:ProgAt w (.agg #[.slice a p.length i]) p){t:Nat}(b:t<p.length):∃ g o,a=some ⟨g,o,none⟩/\∃ rv,w.cell? ⟨g,o+t,none⟩=some rv/\CodeAt w rv p[t]:=by
 obtain⟨ao',cap',e,c⟩:=h;simp only [Value.agg.injEq,Array.mk.injEq,List.cons.injEq,Value.slice.injEq,and_true,true_and]at e;obtain⟨g,o,j,rv,f,d⟩:=c t b;exact⟨g,o,by rw [e.1];exact j,rv,f,d⟩
theorem tD(p:List (List Ins))(a b:Value)(w:World)(I:ProgAt w a p)(F:ProgAt w b p)(hpl:p.length<=1000)(X:∀ c∈p,c.length<=4398046510976):
  Calls Tryz.prog 43 #[a,b] w fun e w'=>e= .returned (.bool true)/\w.grownBy w' none:=by
 obtain⟨A,n,rfl⟩:=I.form;obtain⟨x,o,rfl⟩:=F.form;have HA:=il I;have HB:=il F;have aj:=il X;have qp:(p.length:Int)<=1000:=by omega
 clear I F X;go_enter Tryz.func43,Tryz.ntmps43
 go_upto_region 1 with fail
 obtain⟨f,r⟩:∃ f,f=(w.alloc (.cells #[.slice A p.length n] 37)).alloc (.cells #[.slice x p.length o] 37):=⟨_,rfl⟩;rw [<-r];have s:Hid (w.grownBy f none):=by unfold Hid;rw [r];exact ir (ir (iu _ _))
 have Y:f.cell? ⟨w.heap.size,0,none⟩=some (.slice A p.length n):=by
  have E:f.heap[w.heap.size]?=some (.cells #[.slice A p.length n] 37 (0,0)):=by rw [r,Below.heap_alloc _ _ _ (by simp)];exact heap_alloc_new w _
  simp [World.cell?,E]
 have T:f.cell? ⟨w.heap.size+1,0,none⟩=some (.slice x p.length o):=by
  have E:f.heap[w.heap.size+1]?=some (.cells #[.slice x p.length o] 37 (0,0)):=by
   have:=heap_alloc_new (w.alloc (.cells #[.slice A p.length n] 37)) (.cells #[.slice x p.length o] 37);rw [r];simpa using this
  simp [World.cell?,E]
 clear r;generalize w.heap.size=n2 at*;have L:=il Y;have ah:=il T;go_wp2_with fail
 clear Y T;go_loopw [5] (fun iv w'=>∃ t:Nat,t<=p.length/\iv= .int .i64 t/\Hid (f.grownBy w' none)) (fun iv _=>p.length - (intOf iv).toNat)
 case atStart=>exact⟨0,Nat.zero_le _,rfl,il (iu _ _)⟩
 case round=>
  obtain⟨t,ht,rfl,q⟩:=hrel;obtain⟨C,N⟩:∃ C,C=wr:=⟨_,rfl⟩;rw [<-N]at q ⊢;clear N;have k2:=iq q.out _ _ L.out;by_cases G:t<p.length
  ·have q0:(0:Int)<=(t:Int):=by omega
   have q1:(t:Int)<p.length:=by omega
   obtain⟨B,v,rfl,rv,M,U⟩:=sm HA.out G;obtain⟨z,y,rfl,rw',e3,Q⟩:=sm HB.out G;have hcl:=aj.out _ (List.getElem_mem G);have ac:=il U;have ae:=il Q;obtain⟨D,K,af,_⟩:=U;obtain⟨J,H,ai,_⟩:=Q;subst af ai;generalize p[t]=c at*;have V:Hid (∀ u,f.grownBy u none->u.cell? ⟨n2,0,none⟩=some (.slice (some ⟨B,v,none⟩) p.length n)/\u.cell? ⟨n2+1,0,none⟩=some (.slice (some ⟨z,y,none⟩) p.length o)/\u.cell? ⟨B,v+t,none⟩=some (.slice D c.length K)/\u.cell? ⟨z,y+t,none⟩=some (.slice J c.length H)):=fun u hu=>⟨iq hu _ _ L.out,iq hu _ _ ah.out,iq (ip s.out hu) _ _ M,iq (ip s.out hu) _ _ e3⟩
   have ak:=il (fun u hu=>pD c (.slice D c.length K) (.slice J c.length H) u (ac.out.pres (iq (ip s.out hu))) (ae.out.pres (iq (ip s.out hu))) hcl);have O:=V.out C.drew (iz q.out);clear M e3;go_upto_region 6 with fail
   refine iA (fun u=>u.cell? ⟨n2,0,none⟩=some (.slice (some ⟨B,v,none⟩) p.length n)/\u.cell? ⟨n2+1,0,none⟩=some (.slice (some ⟨z,y,none⟩) p.length o)/\u.cell? ⟨B,v+t,none⟩=some (.slice D c.length K)/\u.cell? ⟨z,y+t,none⟩=some (.slice J c.length H)) 11 (by kernel_rfl) (by kernel_rfl) O ?_;intro d;refine ij 0 ?v0 rfl (by kernel_rfl) (fun _ _ _ h=>h) (by kernel_rfl) ?y0 d ?_
   case y0=>(rintro u ⟨j,l,m,k⟩;go_simp;try rfl)
   simp only [Act.put,List.setIfInBounds_toArray];refine ij 1 ?v1 rfl (by kernel_rfl) (fun _ _ _ h=>h) (by kernel_rfl) ?y1 d ?_
   case y1=>(rintro u ⟨j,l,m,k⟩;go_simp;try rfl)
   simp only [Act.put];refine ij 2 ?v2 rfl (by kernel_rfl) (fun _ _ _ h=>h) (by kernel_rfl) ?y2 d ?_
   case y2=>(rintro u ⟨j,l,m,k⟩;go_simp;try rfl)
   simp only [Act.put];refine ij 3 ?v3 rfl (by kernel_rfl) (fun _ _ _ h=>h) (by kernel_rfl) ?y3 d ?_
   case y3=>(rintro u ⟨j,l,m,k⟩;go_simp;try rfl)
   simp only [Act.put];refine ij 4 ?v4 rfl (by kernel_rfl) (fun _ _ _ h=>h) (by kernel_rfl) ?y4 d ?_
   case y4=>(rintro u ⟨j,l,m,k⟩;go_simp;try rfl)
   simp only [Act.put];refine ij 5 ?v5 rfl (by kernel_rfl) (fun _ _ _ h=>h) (by kernel_rfl) ?y5 d ?_
   case y5=>(rintro u ⟨j,l,m,k⟩;go_simp;try rfl)
   simp only [Act.put];refine ij 6 ?v6 rfl (by kernel_rfl) (fun _ _ _ h=>h) (by kernel_rfl) ?y6 d ?_
   case y6=>(rintro u ⟨j,l,m,k⟩;go_simp;try rfl)
   simp only [Act.put];refine ij 7 ?v7 rfl (by kernel_rfl) (fun _ _ _ h=>h) (by kernel_rfl) ?y7 d ?_
   case y7=>(rintro u ⟨j,l,m,k⟩;go_simp;try rfl)
   simp only [Act.put];refine ij 8 ?v8 rfl (by kernel_rfl) (fun _ _ _ h=>h) (by kernel_rfl) ?y8 d ?_
   case y8=>(rintro u ⟨j,l,m,k⟩;go_simp;try rfl)
   simp only [Act.put];refine ij 9 ?v9 rfl (by kernel_rfl) (fun _ _ _ h=>h) (by kernel_rfl) ?y9 d ?_
   case y9=>(rintro u ⟨j,l,m,k⟩;go_simp;try rfl)
   simp only [Act.put];refine iw (i:=10) rfl (by kernel_rfl) (by kernel_rfl) (by kernel_rfl) ?_;intro K10 ab;have S:=il ab;clear ab;go_simp;refine(ak.out _ (iz q.out)).mono ?_;rintro e P ⟨rfl,Z⟩;have W:Hid (f.grownBy P none):=ip q.out (zd (iL Z));have R:=V.out P W.out;refine S.out _ _ R ?_;clear S Z;try simp only [Act.put,List.setIfInBounds_toArray]
   refine iI rfl (by kernel_rfl) (by kernel_rfl) (by kernel_rfl) ?_;go_simp;clear d R O k2;go_wp2_with fail
   go_roundw
   case rel=>exact⟨t+1,by omega,by go_num,W⟩
   case measure=>simp [intOf]<;>omega
  ·have q1:(p.length:Int)<=(t:Int):=by omega
   go_wp2_with fail
   go_ret;exact⟨rfl,ip s.out q.out⟩
theorem pE{w:World}{g:Nat}{x0 x1 x2 x3 a:Value}{t:TypeId}(h:w.heap[g]?=some (.cells #[x0,x1,x2,x3,a] t (0,0))):w.cell? ⟨g,0,none⟩=some x0/\w.cell? ⟨g,1,none⟩=some x1/\w.cell? ⟨g,2,none⟩=some x2/\w.cell? ⟨g,3,none⟩=some x3/\w.cell? ⟨g,4,none⟩=some a:=by
 simp [World.cell?,h]
theorem CE(n:Int)(w:World):Calls Tryz.prog 23 #[.int .i64 n] w fun e w'=>e= .returned (.int .i64 n)/\w'=w:=by
 go_enter Tryz.func23,Tryz.ntmps23
 go_wp2_with fail
 go_ret;exact⟨rfl,rfl⟩
theorem Am(W:World)(B:Nat)(w:World)(b:Nat)(who:Nat->Role)(n:Int)(f:Nat->Value)(K:Nat->List (Value × Int))(tv sv:Value)(p:List (List Ins))(s:List Int)(k0 k1 k2:Int)
  (h:Hz B w b who n f K) (hW:W.grownBy w none) (J:W.heap.size<=B) (hS:ShpAt W) (hP:ProgAt W (.agg #[tv]) p) (hI:IntsAt W.heap.size W sv s) (ae:p.length<=5864062014634) (aU:∀ c∈p,c.length<=4398046510976) (a4:s.length<=17592186043904) (aP:∀ c∈p,∀ i∈c,Db i):
  Calls Tryz.prog 11 #[pt b,.agg #[tv,sv,.int .i64 k0,.int .i64 k1,.int .i64 k2]] w (HzE W B b n K w who):=by
 obtain⟨x,v,aN⟩:=hP.form;simp only [Value.agg.injEq,Array.mk.injEq,List.cons.injEq,and_true]at aN;subst aN;obtain⟨t,r,rfl⟩:=hI.form;have T:=il h;have HW:=il hW;have HS:=il hS;have HP:=il hP;have HI:=il hI;have aC:=il aU;have aw:=il aP;have P:pt b= .pointer (some ⟨b,0,none⟩):=rfl;clear h hW hS hP hI aU aP;rw [P];go_enter Tryz.func11,Tryz.ntmps11
 go_upto_region 1 with fail
 obtain⟨a,L⟩:∃ a,a=w.alloc (.cells #[.slice x p.length v,.slice t s.length r,.int .i64 k0,.int .i64 k1,.int .i64 k2] 56):=⟨_,rfl⟩;have aA:Hid (a.heap[w.heap.size]?=some (.cells #[.slice x p.length v,.slice t s.length r,.int .i64 k0,.int .i64 k1,.int .i64 k2] 56 (0,0))):=by unfold Hid;rw [L];exact heap_alloc_new w _
 have ag:Hid (w.grownBy a none):=by unfold Hid;rw [L];exact ir (iu _ _)
 rw [<-L];clear L;have I:Hid (∀ u:World,u.heap[w.heap.size]?=a.heap[w.heap.size]?->u.cell? ⟨w.heap.size,0,none⟩=some (.slice x p.length v)/\u.cell? ⟨w.heap.size,1,none⟩=some (.slice t s.length r)/\u.cell? ⟨w.heap.size,2,none⟩=some (.int .i64 k0)/\u.cell? ⟨w.heap.size,3,none⟩=some (.int .i64 k1)/\u.cell? ⟨w.heap.size,4,none⟩=some (.int .i64 k2)):=fun u hu=>by
  obtain⟨e0,e1,e2,e3,e4⟩:=pE (show u.heap[w.heap.size]?=some (.cells #[.slice x p.length v,.slice t s.length r,.int .i64 k0,.int .i64 k1,.int .i64 k2] 56 (0,0)) by rw [hu];exact aA.out);exact⟨e0,e1,e2,e3,e4⟩
 have al:Hid (W.grownBy a.drew none):=iz (ip HW.out ag.out);have af:=il (nh W B a.drew b who n f K [] [] [] (.agg #[.slice x p.length v]) p (T.out.lx.grown (iz ag.out)) al.out J HP.out ae aC.out (by simpa using ae) (by simp));rw [P]at af;have aO:who w.heap.size= .other:=by
  by_cases e:who w.heap.size= .other
  ·exact e
  ·exact absurd (T.out.1.1.dom _ e).2 (by omega)
 have bk:=il aO;have aq:Hid (w.heap.size<a.heap.size):=(Array.getElem?_eq_some_iff.1 aA.out).1;clear aO;refine iA (fun u=>u.cell? ⟨w.heap.size,0,none⟩=some (.slice x p.length v)/\u.cell? ⟨w.heap.size,1,none⟩=some (.slice t s.length r)/\u.cell? ⟨w.heap.size,2,none⟩=some (.int .i64 k0)/\u.cell? ⟨w.heap.size,3,none⟩=some (.int .i64 k1)/\u.cell? ⟨w.heap.size,4,none⟩=some (.int .i64 k2)) 16 (by kernel_rfl) (by kernel_rfl) (I.out a.drew rfl) ?_;intro q;refine ij 0 ?v1 rfl (by kernel_rfl) (fun _ _ _ h=>h) (by kernel_rfl) ?y1 q ?_
 case y1=>(rintro u ⟨l,j,m,d,k⟩;go_simp;try rfl)
 simp only [Act.put,List.setIfInBounds_toArray];refine ij 1 ?v2 rfl (by kernel_rfl) (fun _ _ _ h=>h) (by kernel_rfl) ?y2 q ?_
 case y2=>(rintro u ⟨l,j,m,d,k⟩;go_simp;try rfl)
 simp only [Act.put];refine ij 2 ?v3 rfl (by kernel_rfl) (fun _ _ _ h=>h) (by kernel_rfl) ?y3 q ?_
 case y3=>(rintro u ⟨l,j,m,d,k⟩;go_simp;try rfl)
 simp only [Act.put];refine ij 4 ?v4 rfl (by kernel_rfl) (fun _ _ _ h=>h) (by kernel_rfl) ?y4 q ?_
 case y4=>(rintro u ⟨l,j,m,d,k⟩;go_simp;try rfl)
 simp only [Act.put];refine ij 5 ?v5 rfl (by kernel_rfl) (fun _ _ _ h=>h) (by kernel_rfl) ?y5 q ?_
 case y5=>(rintro u ⟨l,j,m,d,k⟩;go_simp;try rfl)
 simp only [Act.put];refine ij 6 ?v6 rfl (by kernel_rfl) (fun _ _ _ h=>h) (by kernel_rfl) ?y6 q ?_
 case y6=>(rintro u ⟨l,j,m,d,k⟩;go_simp;try rfl)
 simp only [Act.put];refine ij 8 ?v7 rfl (by kernel_rfl) (fun _ _ _ h=>h) (by kernel_rfl) ?y7 q ?_
 case y7=>(rintro u ⟨l,j,m,d,k⟩;go_simp;try rfl)
 simp only [Act.put];refine ij 9 ?v8 rfl (by kernel_rfl) (fun _ _ _ h=>h) (by kernel_rfl) ?y8 q ?_
 case y8=>(rintro u ⟨l,j,m,d,k⟩;go_simp;try rfl)
 simp only [Act.put];refine iw (i:=3) rfl (by kernel_rfl) (by kernel_rfl) (by kernel_rfl) ?_;intro K3 aV;have aW:=il aV;clear aV;go_simp;refine(af.out).mono ?_;clear af;rintro e z ⟨g,LC1,aS,f1,rfl,F,U,G,a1⟩;obtain⟨H,D⟩:=G.oth w.heap.size aq.out bk.out (fun e=>e);have aH:Hid (z.heap[w.heap.size]?=a.heap[w.heap.size]?):=H;have ac:Hid (W.grownBy z none):=G.base al.out J (fun g e=>(T.out.1.1.dom g e).1) (fun _ e=>e.elim);have bf:Hid (Fr w z who aS (fun g=>w.heap.size<=g)):=(Fr.grown (iz ag.out)).step0 G;have az:LC1.length=p.length:=by rw [<-U];simp
 simp only [List.nil_append]at F;have ai:=il (lT B z b aS n f1 K [] LC1 [(g,p.length)] 0 (.slice t s.length r) s F ((HI.out.pres (iq ac.out)).mono ac.out.size) (my F.hs J HI.out) a4 (by simp));rw [P]at ai;have aZ:=il F;have a6:=il U;have bg:=il D;have aT:=il az;have au:Hid (w.heap.size<z.heap.size):=by unfold Hid;have:=G.size;have:=aq.out;simp only [World.drew]at*;omega
 clear F U G a1 H D az;have aF:=I.out z aH.out;refine aW.out _ _ aF ?_;clear aW;try simp only [Act.put,List.setIfInBounds_toArray]
 refine iw (i:=7) rfl (by kernel_rfl) (by kernel_rfl) (by kernel_rfl) ?_;intro K7 av;have aK:=il av;clear av;go_simp;refine(ai.out).mono ?_;clear ai;rintro e o ⟨gs,R,f2,rfl,A,C⟩;simp only [List.nil_append]at A;have aB:Hid (W.grownBy o none):=C.base ac.out J (fun g e=>(aZ.out.hs.1.dom g e).1) (fun _ e=>e.elim);have bj:Hid (Fr w o who R (fun g=>w.heap.size<=g)):=bf.out.step0 C;obtain⟨H,D⟩:=C.oth w.heap.size au.out bg.out (fun e=>e);have ak:Hid (o.heap[w.heap.size]?=a.heap[w.heap.size]?):=H.trans aH.out;have be:=il D;have ar:o.heap[g]?=some (.cells (jC LC1) 66 (0,0)):=by
  have:=(A.le.lr 0 (by simp)).1;simp only [List.getElem_cons_zero,List.take_zero,List.map_nil,List.sum_nil,List.drop_zero]at this;rw [List.take_of_length_le (by rw [aT.out];omega)]at this;exact this
 have aI:ProgAt o (.agg #[.slice (some ⟨g,0,none⟩) p.length (p.length+2)]) p:=nf (LC0:=[]) (by simpa using A.le) ar a6.out _;have aG:IntsAt o.heap.size o (.slice (some ⟨gs,0,none⟩) s.length (s.length+2)) s:=ma (A.le.li (gs,s,.slice t s.length r) (by simp)).1;have aa:=il (yT p s k0 k1 k2 _ _ o (HS.out.pres (iq aB.out)) aI aG aw.out);have ax:=il A;have aL:Hid (w.heap.size<o.heap.size):=by unfold Hid;have:=C.size;have:=au.out;omega
 clear A C H D ar aI aG;have X:=I.out o ak.out;obtain⟨SS,EE,V⟩:=xm ⟨p,s,(k0,k1,k2)⟩;rw [V]at aa;have bp:=il V;clear V;refine aK.out _ _ X ?_;clear aK;try simp only [Act.put,List.setIfInBounds_toArray]
 refine ij 10 ?v9 rfl (by kernel_rfl) (fun _ _ _ h=>h) (by kernel_rfl) ?y9 X ?_
 case y9=>(rintro u ⟨l,j,m,d,k⟩;go_simp;try rfl)
 simp only [Act.put,List.setIfInBounds_toArray];refine iw (i:=11) rfl (by kernel_rfl) (by kernel_rfl) (by kernel_rfl) ?_;intro K11 aR;have aJ:=il aR;clear aR;go_simp;refine(aa.out).mono ?_;clear aa;rintro e Q ⟨rfl,O⟩;have Y:=il O;have ap:Hid (Q.heap[w.heap.size]?=a.heap[w.heap.size]?):=by unfold Hid;rw [O.block _ aL.out (by simp)];exact ak.out
 have aX:Hid (W.grownBy Q none):=ip aB.out O;clear O;have y:=I.out Q ap.out;refine aJ.out _ _ y ?_;clear aJ;try simp only [Act.put,List.setIfInBounds_toArray]
 refine ij 12 ?v10 rfl (by kernel_rfl) (fun _ _ _ h=>h) (by kernel_rfl) ?y10 y ?_
 case y10=>(rintro u ⟨l,j,m,d,k⟩;go_simp;try rfl)
 simp only [Act.put,List.setIfInBounds_toArray];refine ij 13 ?v11 rfl (by kernel_rfl) (fun _ _ _ h=>h) (by kernel_rfl) ?y11 y ?_
 case y11=>(rintro u ⟨l,j,m,d,k⟩;go_simp;try rfl)
 simp only [Act.put];refine ij 14 ?v12 rfl (by kernel_rfl) (fun _ _ _ h=>h) (by kernel_rfl) ?y12 y ?_
 case y12=>(rintro u ⟨l,j,m,d,k⟩;go_simp;try rfl)
 simp only [Act.put];refine ij 15 ?v13 rfl (by kernel_rfl) (fun _ _ _ h=>h) (by kernel_rfl) ?y13 y ?_
 case y13=>(rintro u ⟨l,j,m,d,k⟩;go_simp;try rfl)
 simp only [Act.put];refine iI rfl (by kernel_rfl) (by kernel_rfl) (by kernel_rfl) ?_;go_simp;clear q aF X y;have S:=il (qL B Q b R n f2 K _ _ _ (ax.out.grown Y.out) (by simp) (by rw [aT.out];omega) (by simp));rw [P]at S;go_wp2_with fail
 refine S.out.mono ?_;clear S;rintro e E ⟨rfl,f4,aM,M⟩;have N:Hid (W.grownBy E none):=M.base aX.out J (fun g e=>(ax.out.hs.1.dom g e).1) (fun _ e=>e.elim);have bi:Hid (Fr w E who R (fun g=>w.heap.size<=g)):=(bj.out.stepG Y.out).step0 M;have bc:Hid (E.heap[w.heap.size]?=a.heap[w.heap.size]?):=by
  unfold Hid;rw [(M.oth w.heap.size (Nat.lt_of_lt_of_le aL.out Y.out.size) be.out (fun e=>e)).1];exact ap.out
 obtain⟨d0,d1,d2,d3,d4⟩:=I.out E bc.out;have Z:=il (rJ p s k0 k1 k2 (.slice x p.length v) (.slice t s.length r) E (HP.out.pres (iq N.out)) ((HI.out.pres (iq N.out)).mono N.out.size) ae aC.out aw.out);rw [bp.out]at Z;have am:=il aM;clear aM M;go_wp2_with fail
 refine Z.out.mono ?_;clear Z d0 d1 d2 d3 d4;rintro e w5 ⟨an,rfl⟩;have ad:=il an;clear an;go_wp2_with (go_at_call 23;refine(CE _ _).mono ?_;rintro e w9 ⟨rfl,a5⟩;have a7:=a5.symm;subst a7)
 go_ret;exact⟨by simp,R,f4,⟨am.out.1.grown ad.out,am.out.2⟩,ip N.out ad.out,bi.out.stepG ad.out⟩
end
section
open Go.RowKit
def f00:Nat->Value:=fun k=>if k=5 then .int .i64 0 else .slice none 0 0
theorem Hz.start{w:World}{b:Nat}(h:w.heap[b]?=some (.cells (hcl f00) 45 (0,0))):Hz b w b (setW (fun _=> .other) b .hands) 0 f00 (fun _=>[]):=by
 have a:∀ k,k≠5->f00 k= .slice none 0 0:=fun k hk=>by unfold f00;rw [if_neg hk]
 refine⟨⟨⟨h,rfl,fun c hc=>?_,fun c hc=>?_,fun c hc g e=>?_,fun c hc g e=>?_,jD _ _ _,fun c hc x hx=>(by cases hx),fun g e=>?_⟩,fun c hc x hx=>(by cases hx)⟩,fun k hk=>a k (by omega)⟩
 ·rw [a _ (by omega)];exact⟨rfl,Or.inl ⟨rfl,rfl⟩⟩
 ·rw [a _ (by omega)];exact⟨rfl,Or.inl ⟨rfl,rfl⟩⟩
 ·rw [a _ (by omega)]at e;cases e
 ·rw [a _ (by omega)]at e;cases e
 ·by_cases d:g=b
  ·subst d;exact⟨Nat.le_refl _,(Array.getElem?_eq_some_iff.1 h).1⟩
  ·rw [iO _ _ d]at e;exact absurd rfl e
end
end Go.Proofs.YtklenjmfalljgabGreatDoor
