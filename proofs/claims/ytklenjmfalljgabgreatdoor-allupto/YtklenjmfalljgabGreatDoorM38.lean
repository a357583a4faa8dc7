/- The texts Alb Alm. -/
import Derived.Test.YtklenjmfalljgabGreatDoorM34
import Derived.Test.YtklenjmfalljgabGreatDoorM37
namespace Go.Proofs.YtklenjmfalljgabGreatDoor
set_option maxRecDepth 100000
set_option maxHeartbeats 8000000
section
open Go.RowKit
theorem tF:checkRunN ctrP [0]=0:=by decide+kernel
theorem vG:(runS ctrP [0]).kind=5/\(runS ctrP [0]).steps.length=1:=by decide+kernel
theorem tG:vProg ctrP=true:=by decide+kernel
theorem wn{w:World}{g:Nat}{ty:TypeId}(h:w.heap[g]?=some (.cells #[.int .i64 0] ty (0,0))):IntsAt w.heap.size w (.slice (some ⟨g,0,none⟩) 1 1) [0]:=by
 refine⟨some ⟨g,0,none⟩,1,rfl,Nat.le_refl _,fun k hk=>⟨g,0,rfl,(Array.getElem?_eq_some_iff.1 h).1,?_⟩⟩;simp only [World.cell?,h];have hk':k<1:=hk;obtain rfl:k=0:=by omega
 rfl
theorem vF{B:Nat}{w:World}{rv:Value}{c:Int}(h:ResV ctrP [0] B w rv c):c=0/\∃ t a x1 x3 v0 v1 v2 v3 y1 q y3,rv= .agg #[.int .i64 5,.int .i64 t,.int .i64 a,.slice x1 1 x3,.int .i64 v0,.int .i64 v1,.int .i64 v2,.int .i64 v3,.slice y1 q y3]:=by
 obtain⟨k,t,a,v0,v1,v2,v3,x1,x3,y1,y3,m,q,rfl,hc,e⟩:=h;rw [tF]at hc;rcases e with ⟨_,h1,_,_,_,_,_,_,h5,_⟩ | ⟨h0,_⟩
 ·obtain⟨b,d⟩:=vG;rw [b]at h1;rw [d]at h5;subst h1 h5;exact⟨hc,_,_,_,_,_,_,_,_,_,_,_,rfl⟩
 ·exact absurd hc h0
theorem AJ{x y:Nat}(h:x+y<=1048576):x*y<=274877906944:=by
 have key:∀ u d:Nat,u+d=524288->u*(524288+d)<=274877906944:=fun u d e=>by
  have h1:(u+d)*(u+d)=274877906944:=by rw [e]
  have h2:u*(524288+d)=u*(u+d)+u*d:=by rw [<-e,Nat.mul_add u (u+d) d]
  have h3:(u+d)*(u+d)=u*(u+d)+d*(u+d):=Nat.add_mul _ _ _;have h4:d*(u+d)=u*d+d*d:=by rw [Nat.mul_add,Nat.mul_comm d u]
  omega
 by_cases hx:x<=524288
 ·exact Nat.le_trans (Nat.mul_le_mul_left x (by omega:y<=524288+(524288 - x))) (key x (524288 - x) (by omega))
 ·rw [Nat.mul_comm];exact Nat.le_trans (Nat.mul_le_mul_left y (by omega:x<=524288+(524288 - y))) (key y (524288 - y) (by omega))
theorem Bi{p s b t:Nat}(h:2*p+s+b+t<=1048576):32*(p*s+b+t)<=4500000000000:=by
 have a:=AJ (x:=2*p) (y:=s) (by omega);rw [Nat.mul_assoc]at a;omega
theorem ProgsAt.pres{w w':World}{v:Value}{P:List (List (List Ins))}(h:ProgsAt w v P)(a:Pres w w'):ProgsAt w' v P:=by
 obtain⟨b,f,e,hc⟩:=h;exact⟨b,f,e,fun i hi=>by obtain⟨g,o,j,rv,c,d⟩:=hc i hi;exact⟨g,o,j,rv,a _ _ c,d.pres a⟩⟩
theorem SchsAt.grown{w w':World}{v:Value}{S:List (List Int)}(h:SchsAt w v S)(a:w.grownBy w' none):SchsAt w' v S:=by
 obtain⟨b,f,e,hc⟩:=h;exact⟨b,f,e,fun i hi=>by obtain⟨g,o,j,rv,c,d,n⟩:=hc i hi;exact⟨g,o,j,rv,ip a _ _ c,(d.pres (ip a)).mono a.size,n⟩⟩
theorem ProgsAt.get{w:World}{b:Option Addr}{k:Nat}{P:List (List (List Ins))}(h:ProgsAt w (.slice b P.length k) P){i:Nat}(m:i<P.length):∃ g o,b=some ⟨g,o,none⟩/\∃ a c,w.cell? ⟨g,o+i,none⟩=some (.slice a P[i].length c)/\ProgAt w (.agg #[.slice a P[i].length c]) P[i]:=by
 obtain⟨ao',cap',e,hc⟩:=h;simp only [Value.slice.injEq,true_and]at e;obtain⟨g,o,l,rv,c,d⟩:=hc i m;obtain⟨a,j,f⟩:=d.form;simp only [Value.agg.injEq,Array.mk.injEq,List.cons.injEq,and_true]at f;subst f;exact⟨g,o,by rw [e.1];exact l,a,j,c,d⟩
theorem SchsAt.get{w:World}{b:Option Addr}{j:Nat}{S:List (List Int)}(h:SchsAt w (.slice b S.length j) S){i:Nat}(m:i<S.length):∃ g o,b=some ⟨g,o,none⟩/\∃ a c,w.cell? ⟨g,o+i,none⟩=some (.slice a S[i].length c)/\IntsAt w.heap.size w (.slice a S[i].length c) S[i]/\nilA (.slice a S[i].length c):=by
 obtain⟨ao',cap',e,hc⟩:=h;simp only [Value.slice.injEq,true_and]at e;obtain⟨g,o,k,rv,c,d,n⟩:=hc i m;obtain⟨a,f,l⟩:=d.form;subst l;exact⟨g,o,by rw [e.1];exact k,a,f,c,d,n⟩
theorem tq{w:World}{a:Option Addr}{b:Nat}{L:List ByteArray}(h:StrsAt w (.slice a L.length b) L){i:Nat}(f:i<L.length):∃ g o,a=some ⟨g,o,none⟩/\w.cell? ⟨g,o+i,none⟩=some (.string L[i]):=by
 obtain⟨ao',cap',e,hc⟩:=h;simp only [Value.slice.injEq,true_and]at e;obtain⟨g,o,d,c⟩:=hc i f;exact⟨g,o,by rw [e.1];exact d,c⟩
end
section
open Go.RowKit
attribute [local go_sem] Go.World.cell?_alloc_some
theorem kV{w:World}{g:Nat}{x0:Value}{t:TypeId}(h:w.heap[g]?=some (.cells #[x0] t (0,0))):w.cell? ⟨g,0,none⟩=some x0:=by simp [World.cell?,h]
theorem zw{w:World}{g:Nat}{x0 x1 x2:Value}{t:TypeId}(h:w.heap[g]?=some (.cells #[x0,x1,x2] t (0,0))):w.cell? ⟨g,0,none⟩=some x0/\w.cell? ⟨g,1,none⟩=some x1/\w.cell? ⟨g,2,none⟩=some x2:=by simp [World.cell?,h]
theorem B3(W:World)(pv sv bv tv:Value)(fuel:Int)(P:List (List (List Ins)))(S:List (List Int))(o r:List ByteArray)(hS:ShpAt W)(hT:Tab W)(hP:ProgsAt W pv P)(aY:SchsAt W sv S)(aW:StrsAt W bv o)(a0:StrsAt W tv r)(cP:fuel<=9223372036854775807)
  (hn:2*P.length+S.length+o.length+r.length<=1048576) (bJ:∀ p∈P,p.length<=1048576/\∀ c∈p,c.length<=1048576/\∀ i∈c,nInt i) (bM:∀ s∈S,s.length<=1048576) (bG:∀ x∈o,x.size<=1048576) (bP:∀ x∈r,x.size<=1048576):
  Calls Tryz.prog 3 #[pv,sv,bv,tv,.int .i64 fuel] W fun e w'=>e= .returned (.bool true)/\W.grownBy w' none:=by
 obtain⟨pao,pcap,cR⟩:∃ ao cap,pv= .slice ao P.length cap:=⟨_,_,hP.choose_spec.choose_spec.1⟩;obtain⟨sao,scap,cT⟩:∃ ao cap,sv= .slice ao S.length cap:=⟨_,_,aY.choose_spec.choose_spec.1⟩;obtain⟨bao,bcap,cM⟩:∃ ao cap,bv= .slice ao o.length cap:=⟨_,_,aW.choose_spec.choose_spec.1⟩;obtain⟨tao,tcap,cV⟩:∃ ao cap,tv= .slice ao r.length cap:=⟨_,_,a0.choose_spec.choose_spec.1⟩;subst cR cT cM cV;have bp:=ij (Bi hn);have HS:=ij hS;have HT:=ij hT;have HP:=ij hP;have HC:=ij aY;have bb:=ij aW;have bm:=ij a0;have cp:=ij bJ;have aP:=ij bM;have cl:=ij bG;have cw:=ij bP;have G:∀ q,pt q= .pointer (some ⟨q,0,none⟩):=fun _=>rfl
 have hl1:(P.length:Int)<=1048576:=by omega
 have hl2:(S.length:Int)<=1048576:=by omega
 have hl3:(o.length:Int)<=1048576:=by omega
 have hl4:(r.length:Int)<=1048576:=by omega
 clear hS hT hP aY aW a0 bJ bM bG bP hn;go_enter Tryz.func3,Tryz.ntmps3
 go_wp2_with fail
 refine(pT _).mono ?_;rintro e w1 ⟨cv,rfl,M,bV⟩;have aL:Hid (W.grownBy w1 none):=bV;have bd:=ij M;obtain⟨bD,bE,a1⟩:=M.form;subst a1;clear bV M;go_wp2_with fail
 obtain⟨R,ar⟩:∃ R,R=w1.alloc (.cells #[.int .i64 0] 3):=⟨_,rfl⟩;rw [<-ar];have al:Hid (w1.grownBy R none):=by unfold Hid;rw [ar];exact iq (ir _ _)
 have bh:Hid (IntsAt R.heap.size R (.slice (some ⟨w1.heap.size,0,none⟩) 1 1) [0]):=by
  unfold Hid;rw [ar];exact wn (heap_alloc_new w1 _)
 clear ar;refine(sV ctrP [0] _ _ R (HS.out.pres (ip (il aL.out al.out))) (bd.out.pres (ip al.out)) bh.out).mono ?_;intro e w3 hR;obtain⟨bW,rv,c,he,hV⟩:=hR.form;clear hR;subst he;obtain⟨cN,t5,a5,x1,x3,v0,v1,v2,v3,y1,yq,y3,cS⟩:=vF hV;clear hV;subst cN cS;have be:Hid (W.grownBy w3 none):=il aL.out (il al.out bW);clear bW bd bh al aL;go_upto_region 2 with fail
 obtain⟨f,au⟩:∃ f,f=w3.alloc (.cells #[.int .i64 5,.int .i64 t5,.int .i64 a5,.slice x1 1 x3,.int .i64 v0,.int .i64 v1,.int .i64 v2,.int .i64 v3,.slice y1 yq y3] 31):=⟨_,rfl⟩;have bT:f.heap[w3.heap.size]?=some (.cells #[.int .i64 5,.int .i64 t5,.int .i64 a5,.slice x1 1 x3,.int .i64 v0,.int .i64 v1,.int .i64 v2,.int .i64 v3,.slice y1 yq y3] 31 (0,0)):=by rw [au];exact heap_alloc_new w3 _
 rw [<-au];have J:Hid (W.grownBy f none):=by unfold Hid;rw [au];exact iq be.out
 clear au be;obtain⟨r0,r1,r2,r3,r4,_,_,_,_,_⟩:=jl bT;clear bT;go_upto_region 5 with fail
 clear r0 r1 r2 r3 r4;obtain⟨w5,aw⟩:∃ w5,w5=f.alloc (.cells (hcl f00) 45):=⟨_,rfl⟩;have b8:f.alloc (.cells #[.slice none 0 0,.slice none 0 0,.slice none 0 0,.slice none 0 0,.slice none 0 0,.int .i64 0,.slice none 0 0,.slice none 0 0,.slice none 0 0,.slice none 0 0,.slice none 0 0,.slice none 0 0,.slice none 0 0,.slice none 0 0,.slice none 0 0,.slice none 0 0] 45)=w5:=by rw [aw];rfl
 rw [b8];have aS:Hid (HX f f.heap.size f.heap.size 0 w5 (fun _=>False)):=HX.start (by rw [aw];exact heap_alloc_new f _) (by rw [aw];exact iq (ir _ _));clear aw b8;have N:=ij (HS.out.pres (ip J.out));have cu:=ij (HT.out.grown J.out);have co:=ij (HP.out.pres (ip J.out));have aK:=ij (HC.out.grown J.out);have cm:=ij (bb.out.pres (ip J.out));have cx:=ij (bm.out.pres (ip J.out));clear HS HT HP HC bb bm;obtain⟨b,hb⟩:∃ b,b=f.heap.size:=⟨_,rfl⟩;rw [<-hb]at aS ⊢;have F:Hid (f.heap.size<=b):=by unfold Hid;omega
 clear hb;obtain⟨y,aZ⟩:∃ t,t=P.length*S.length+o.length+r.length:=⟨_,rfl⟩;rw [<-aZ]at bp;have bn:=ij aZ;clear aZ;go_wp2_with fail
 go_loopw [14,15] (fun okv av w'=>∃ a:Nat,a<=2/\okv= .bool true/\av= .int .i64 a/\Hid (HX f b b (16*(a*y)) w' (fun _=>False))) (fun _ av _=>2 - (intOf av).toNat)
 case atStart=>exact⟨0,by omega,rfl,rfl,by rw [Nat.zero_mul];exact aS⟩
 case round=>
  clear aS;obtain⟨a,ha,rfl,rfl,U⟩:=hrel;obtain⟨wa,b9⟩:∃ wa,wa=wr:=⟨_,rfl⟩;rw [<-b9]at U ⊢;clear b9;by_cases hlt:a<2
  ·have q1:(a:Int)<2:=by omega
   have cn:Hid (16*((a+1)*y)=16*(a*y)+16*y):=by unfold Hid;rw [Nat.add_mul,Nat.one_mul,Nat.mul_add]
   have bq:Hid (16*(a*y)+16*y<=4500000000000):=by
    unfold Hid;have h1:a*y<=1*y:=Nat.mul_le_mul_right y (by omega);have:=bp.out;omega
   generalize 16*(a*y)=q0 at*;go_wp2_with fail
   go_loopw [14,16] (fun okv iv w'=>∃ i:Nat,i<=P.length/\okv= .bool true/\iv= .int .i64 i/\Hid (HX f b b (q0+16*(i*S.length)) w' (fun _=>False))) (fun _ iv _=>P.length - (intOf iv).toNat)
   case atStart=>exact⟨0,Nat.zero_le _,rfl,rfl,by rw [Nat.zero_mul];exact U⟩
   case round=>
    clear U;obtain⟨i,hi,rfl,rfl,V⟩:=hrel;obtain⟨wi,ca⟩:∃ wi,wi=wr:=⟨_,rfl⟩;rw [<-ca]at V ⊢;clear ca;by_cases a3:i<P.length
    ·have q2:(i:Int)<P.length:=by omega
     have q20:(0:Int)<=(i:Int):=by omega
     have bi:Hid (q0+16*((i+1)*S.length)=q0+16*(i*S.length)+16*S.length):=by unfold Hid;rw [Nat.add_mul,Nat.one_mul,Nat.mul_add];omega
     have cy:Hid (q0+16*(i*S.length)+16*S.length<=4500000000000):=by
      unfold Hid;have h1:(i+1)*S.length<=P.length*S.length:=Nat.mul_le_mul_right _ a3;have h2:=bi.out;have h3:=bq.out;have h4:=bn.out;omega
     generalize q0+16*(i*S.length)=qi at*;obtain⟨pg,po,rfl,l,m,b4,b5⟩:=co.out.get a3;have cq:=ij b4;have X:=ij b5;have A:=ij (cp.out _ (List.getElem_mem a3));clear b4 b5;generalize P[i]=p at*;go_wp2_with fail
     go_loopw [14,17] (fun okv kv w'=>∃ k:Nat,k<=S.length/\okv= .bool true/\kv= .int .i64 k/\Hid (HX f b b (qi+16*k) w' (fun _=>False))) (fun _ kv _=>S.length - (intOf kv).toNat)
     case atStart=>exact⟨0,Nat.zero_le _,rfl,rfl,by rw [Nat.mul_zero];exact V⟩
     case round=>
      clear V;obtain⟨k,hk,rfl,rfl,K⟩:=hrel;obtain⟨I,cb⟩:∃ I,I=wr:=⟨_,rfl⟩;rw [<-cb]at K ⊢;clear cb;by_cases b2:k<S.length
      ·have q3:(k:Int)<S.length:=by omega
       have cY:(0:Int)<=(k:Int):=by omega
       have q31:(0:Int)<S.length:=by omega
       have q32:0<S.length:=by omega
       have aR:Hid (qi+16*k+16<=4500000000000):=by unfold Hid;have:=cy.out;omega
       have aN:Hid (qi+16*(k+1)=qi+16*k+16):=by unfold Hid;omega
       generalize qi+16*k=qk at*;obtain⟨sg,so,rfl,D,E,ab,ac,b6⟩:=aK.out.get b2;obtain⟨sg',so',e0,za,zc,a7,ce,_⟩:=aK.out.get (show 0<S.length by omega);simp only [Option.some.injEq,Addr.mk.injEq,and_true]at e0;obtain⟨rfl,rfl⟩:=e0;rw [Nat.add_zero]at a7;have cs:=ij ab;have O:=ij ac;have ct:Hid (nilOk (.slice D S[k].length E)):=fun n c e=>b6 n c e
       have bB:=ij a7;have cA:=ij ce;have B:=ij (aP.out _ (List.getElem_mem b2));have cr:=ij (aP.out _ (List.getElem_mem (show 0<S.length by omega)));clear ab ac b6 a7 ce;generalize S[k]=s at*;generalize S[0]=z at*;have f1:=ip K.out.base _ _ cq.out;have Y:=ip K.out.base _ _ cs.out;go_upto_region 17 with fail
       obtain⟨H,ap⟩:∃ H,H=I.alloc (.cells #[.slice l p.length m] 37):=⟨_,rfl⟩;have aE:Hid (H.heap[I.heap.size]?=some (.cells #[.slice l p.length m] 37 (0,0))):=by unfold Hid;rw [ap];exact heap_alloc_new I _
       have C:Hid (HX f b b qk H (fun g=>False\/g=I.heap.size)):=by unfold Hid;rw [ap];exact K.out.made _
       rw [<-ap];clear ap f1 Y K;generalize I.heap.size=n18 at*;have f1:=kV aE.out;have d:=ij (uu (pv:= .agg #[.slice l p.length m]) (sv:= .slice D s.length E) C.out (by have:=aR.out;omega) F.out N.out X.out O.out A.out.1 (fun c hc=>(A.out.2 c hc).1) B.out);rw [G]at d;clear C;go_wp2_with fail
       refine d.out.mono ?_;clear d f1;rintro e u3 ⟨rfl,ah,bY⟩;have aF:Hid (u3.heap[n18]?=some (.cells #[.slice l p.length m] 37 (0,0))):=(bY n18 (Or.inr rfl)).trans aE.out;have f1:=kV aF.out;have d:=ij (x6 (pv:= .agg #[.slice l p.length m]) (sv:= .slice D s.length E) ah (by have:=aR.out;omega) F.out N.out X.out O.out A.out.1 (fun c hc=>(A.out.2 c hc).1) B.out);rw [G]at d;clear ah bY aE;go_wp2_with fail
       refine d.out.mono ?_;clear d f1;rintro e u4 ⟨rfl,cd,bZ⟩;have aG:Hid (u4.heap[n18]?=some (.cells #[.slice l p.length m] 37 (0,0))):=(bZ n18 (Or.inr rfl)).trans aF.out;have f1:=kV aG.out;have d:=ij (tj (pv:= .agg #[.slice l p.length m]) (sv:= .slice D s.length E) (fuel:=fuel) cd (by have:=aR.out;omega) F.out N.out X.out O.out ct.out cP A.out.1 (fun c hc=>(A.out.2 c hc).1) B.out);rw [G]at d;clear cd bZ aF;go_wp2_with fail
       refine d.out.mono ?_;clear d f1;rintro e u5 ⟨rfl,a4,b0⟩;have aH:Hid (u5.heap[n18]?=some (.cells #[.slice l p.length m] 37 (0,0))):=(b0 n18 (Or.inr rfl)).trans aG.out;have bw:=ij a4;have d:=ij (tE (pv:= .agg #[.slice l p.length m]) (sv:= .slice D s.length E) (tv:= .slice za z.length zc) (a4.grown (iy (ir _ _))) F.out N.out X.out O.out A.out.1 (fun c hc=>(A.out.2 c hc).1) B.out cA.out cr.out);rw [G]at d;clear a4 b0 aG;go_upto_region 20 with fail
       have bN:u5.drew.cell? ⟨n18,0,none⟩=some (.slice l p.length m)/\u5.drew.cell? ⟨sg,so,none⟩=some (.slice za z.length zc):=⟨kV (w:=u5.drew) aH.out,ip (iy bw.out.base) _ _ bB.out⟩;refine iz (fun u=>u.cell? ⟨n18,0,none⟩=some (.slice l p.length m)/\u.cell? ⟨sg,so,none⟩=some (.slice za z.length zc)) 7 (by kernel_rfl) (by kernel_rfl) bN ?_;intro L;refine ie 0 ?v0 rfl (by kernel_rfl) (fun _ _ _ h=>h) (by kernel_rfl) ?y0 L ?_
       case y0=>(rintro u ⟨ad,ae⟩;go_simp;try rfl)
       simp only [Act.put,List.setIfInBounds_toArray];refine ie 1 ?v1 rfl (by kernel_rfl) (fun _ _ _ h=>h) (by kernel_rfl) ?y1 L ?_
       case y1=>(rintro u ⟨ad,ae⟩;go_simp;try rfl)
       simp only [Act.put];refine ie 2 ?v2 rfl (by kernel_rfl) (fun _ _ _ h=>h) (by kernel_rfl) ?y2 L ?_
       case y2=>(rintro u ⟨ad,ae⟩;go_simp;try rfl)
       simp only [Act.put];refine ie 3 ?v3 rfl (by kernel_rfl) (fun _ _ _ h=>h) (by kernel_rfl) ?y3 L ?_
       case y3=>(rintro u ⟨ad,ae⟩;go_simp;try rfl)
       simp only [Act.put];refine ie 4 ?v4 rfl (by kernel_rfl) (fun _ _ _ h=>h) (by kernel_rfl) ?y4 L ?_
       case y4=>(rintro u ⟨ad,ae⟩;go_simp;first | done | rfl | exact rfl)
       simp only [Act.put];refine ie 5 ?v5 rfl (by kernel_rfl) (fun _ _ _ h=>h) (by kernel_rfl) ?y5 L ?_
       case y5=>(rintro u ⟨ad,ae⟩;go_simp;try rfl)
       simp only [Act.put];refine iu (i:=6) rfl (by kernel_rfl) (by kernel_rfl) (by kernel_rfl) ?_;intro K6 bI;have bf:=ij bI;clear bI;go_simp;refine d.out.mono ?_;clear d;rintro e u6 ⟨rfl,a6,b1⟩;have ak:Hid (u6.heap[n18]?=some (.cells #[.slice l p.length m] 37 (0,0))):=(b1 n18 (Or.inr rfl)).trans aH.out;have am:=ij a6;have bH:u6.cell? ⟨n18,0,none⟩=some (.slice l p.length m)/\u6.cell? ⟨sg,so,none⟩=some (.slice za z.length zc):=⟨kV ak.out,ip a6.base _ _ bB.out⟩;refine bf.out _ _ bH ?_;clear bf a6 b1;try simp only [Act.put,List.setIfInBounds_toArray]
       refine iF rfl (by kernel_rfl) (by kernel_rfl) (by kernel_rfl) ?_;go_simp;clear L bH bN bw aH;go_wp2_with fail
       refine(pT _).mono ?_;rintro e u7 ⟨cv,rfl,M,Z⟩;obtain⟨bD,bE,a1⟩:=M.form;subst a1;have bx:=ij (am.out.grown Z);have bk:=ij (ms u7 bD bE ctrP (.slice D s.length E) s tG M ((O.out.pres (ip (il am.out.base Z))).mono (il am.out.base Z).size) B.out);have aI:Hid (u7.heap[n18]?=some (.cells #[.slice l p.length m] 37 (0,0))):=by unfold Hid;rw [Z.block _ (Array.getElem?_eq_some_iff.1 ak.out).1 (by simp)];exact ak.out
       clear M Z am ak;go_wp2_with fail
       refine bk.out.mono ?_;clear bk;rintro e Q ⟨rb,rab,rrb,rst,rfl,an⟩;generalize (runS ctrP s).kind=vk at*;generalize (runS ctrP s).thread=vt at*;generalize (runS ctrP s).at_=va at*;obtain⟨_,cB,cC,cD,_,_,_⟩:=an.vcells;have bz:=ij (bx.out.grown an.frame);have aJ:Hid (Q.heap[n18]?=some (.cells #[.slice l p.length m] 37 (0,0))):=by unfold Hid;rw [an.frame.block _ (Array.getElem?_eq_some_iff.1 aI.out).1 (by simp)];exact aI.out
       clear an bx aI;go_upto_region 22 with fail
       clear cB cC cD;obtain⟨u9,aq⟩:∃ u9,u9=Q.alloc (.cells #[.int .i64 vk,.int .i64 vt,.int .i64 va] 26):=⟨_,rfl⟩;have a2:Q.grownBy u9 none:=by rw [aq];exact iq (ir _ _)
       have bU:u9.heap[Q.heap.size]?=some (.cells #[.int .i64 vk,.int .i64 vt,.int .i64 va] 26 (0,0)):=by rw [aq];exact heap_alloc_new Q _
       rw [<-aq];clear aq;have bA:=ij (bz.out.grown a2);have ba:u9.heap[n18]?=some (.cells #[.slice l p.length m] 37 (0,0)):=by rw [a2.block _ (Array.getElem?_eq_some_iff.1 aJ.out).1 (by simp)];exact aJ.out
       have f1:=kV ba;obtain⟨Y,f3,f4⟩:=zw bU;have d:=ij (vO (rv:= .slice l p.length m) (sv:= .slice D s.length E) (k0:=vk) (k1:=vt) (k2:=va) bA.out F.out N.out X.out O.out A.out.1 (fun c hc=>(A.out.2 c hc).1) B.out (fun c hc=>(A.out.2 c hc).2));rw [G]at d;clear a2 bU ba bA bz aJ;generalize Q.heap.size=n24 at*;go_wp2_with fail
       refine d.out.mono ?_;clear d f1 Y f3 f4;rintro e c8 ⟨rfl,cc,_⟩;have bu:Hid (HX f b b (qk+16) c8 (fun _=>False)):=(cc.mono (by omega)).less (fun _ e=>e.elim);rw [<-aN.out]at bu;clear cc;go_wp2_with fail
       go_roundw
       case rel=>exact⟨k+1,by omega,by simp,by go_num,bu⟩
       case measure=>simp [intOf];omega
      ·have q3:(S.length:Int)<=(k:Int):=by omega
       have ek:k=S.length:=by omega
       subst ek;have aN:Hid (HX f b b (q0+16*((i+1)*S.length)) I (fun _=>False)):=by unfold Hid;rw [bi.out];exact K.out
       clear K;go_wp2_with fail
       go_roundw
       case rel=>exact⟨i+1,by omega,by simp,by go_num,aN⟩
       case measure=>simp [intOf];omega
    ·have q2:(P.length:Int)<=(i:Int):=by omega
     have ei:i=P.length:=by omega
     subst ei;have br:Hid (q0+16*(P.length*S.length)+16*o.length+16*r.length<=4500000000000/\q0+16*(P.length*S.length)+16*o.length+16*r.length=q0+16*y):=by
      unfold Hid;have h3:=bq.out;have h4:=bn.out;omega
     generalize q0+16*(P.length*S.length)=qb at*;go_wp2_with fail
     go_loopw [14,26] (fun okv jv w'=>∃ j:Nat,j<=o.length/\okv= .bool true/\jv= .int .i64 j/\Hid (HX f b b (qb+16*j) w' (fun _=>False))) (fun _ jv _=>o.length - (intOf jv).toNat)
     case atStart=>exact⟨0,Nat.zero_le _,rfl,rfl,by rw [Nat.mul_zero];exact V⟩
     case round=>
      clear V;obtain⟨j,hj,rfl,rfl,v⟩:=hrel;obtain⟨T,af⟩:∃ T,T=wr:=⟨_,rfl⟩;rw [<-af]at v ⊢;clear af;by_cases aa:j<o.length
      ·have q3:(j:Int)<o.length:=by omega
       have cY:(0:Int)<=(j:Int):=by omega
       have aQ:Hid (qb+16*j+16<=4500000000000):=by unfold Hid;have:=br.out.1;omega
       have aM:Hid (qb+16*(j+1)=qb+16*j+16):=by unfold Hid;omega
       generalize qb+16*j=qj at*;obtain⟨bg,bo,rfl,bS⟩:=tq cm.out aa;have hbb:=cl.out _ (List.getElem_mem aa);generalize o[j]=x at*;have f1:=ip v.out.base _ _ bS;have d:=ij (vK (x:=x) v.out (by have:=aQ.out;omega) F.out N.out (by omega));rw [G]at d;clear v bS;go_wp2_with fail
       refine d.out.mono ?_;clear d f1;rintro e H ⟨rfl,ag,_⟩;have C:Hid (HX f b b (qb+16*(j+1)) H (fun _=>False)):=by unfold Hid;rw [aM.out];exact ag
       clear ag;go_wp2_with fail
       go_roundw
       case rel=>exact⟨j+1,by omega,by simp,by go_num,C⟩
       case measure=>simp [intOf];omega
      ·have q3:(o.length:Int)<=(j:Int):=by omega
       have ej:j=o.length:=by omega
       subst ej;have bt:=ij br.out;generalize qb+16*o.length=qt at*;go_wp2_with fail
       go_loopw [14,27] (fun okv jv w'=>∃ j:Nat,j<=r.length/\okv= .bool true/\jv= .int .i64 j/\Hid (HX f b b (qt+16*j) w' (fun _=>False))) (fun _ jv _=>r.length - (intOf jv).toNat)
       case atStart=>exact⟨0,Nat.zero_le _,rfl,rfl,by rw [Nat.mul_zero];exact v⟩
       case round=>
        clear v;obtain⟨j,hj,rfl,rfl,v⟩:=hrel;obtain⟨T,af⟩:∃ T,T=wr:=⟨_,rfl⟩;rw [<-af]at v ⊢;clear af;by_cases aa:j<r.length
        ·have q4:(j:Int)<r.length:=by omega
         have q40:(0:Int)<=(j:Int):=by omega
         have aQ:Hid (qt+16*j+16<=4500000000000):=by unfold Hid;have:=bt.out.1;omega
         have aM:Hid (qt+16*(j+1)=qt+16*j+16):=by unfold Hid;omega
         generalize qt+16*j=qj at*;obtain⟨tg,to_,rfl,b7⟩:=tq cx.out aa;have cU:=cw.out _ (List.getElem_mem aa);generalize r[j]=x at*;have f1:=ip v.out.base _ _ b7;have d:=ij (yM (x:=x) v.out (by have:=aQ.out;omega) F.out cU);rw [G]at d;clear v b7;go_wp2_with fail
         refine d.out.mono ?_;clear d f1;rintro e H ⟨rfl,ag,_⟩;have C:Hid (HX f b b (qt+16*(j+1)) H (fun _=>False)):=by unfold Hid;rw [aM.out];exact ag
         clear ag;by_cases bX:j<S.length
         ·have q5:(j:Int)<S.length:=by omega
          obtain⟨sg,so,rfl,D,E,ab,ac,_⟩:=aK.out.get bX;have B:=aP.out _ (List.getElem_mem bX);generalize S[j]=s at*;have Y:=ip C.out.base _ _ ab;have d:=ij (wG (sv:= .slice D s.length E) C.out F.out cu.out ac B);rw [G]at d;clear C ab ac B;go_wp2_with fail
          refine d.out.mono ?_;clear d Y;rintro e u3 ⟨rfl,ah,_⟩;have cz:=ij ah;clear ah;go_wp2_with fail
          go_roundw
          case rel=>exact⟨j+1,by omega,by simp,by go_num,cz⟩
          case measure=>simp [intOf];omega
         ·have q5:(S.length:Int)<=(j:Int):=by omega
          go_wp2_with fail
          go_roundw
          case rel=>exact⟨j+1,by omega,by simp,by go_num,C⟩
          case measure=>simp [intOf];omega
        ·have q4:(r.length:Int)<=(j:Int):=by omega
         have ej:j=r.length:=by omega
         subst ej;have aT:Hid (HX f b b (16*((a+1)*y)) T (fun _=>False)):=by unfold Hid;rw [cn.out,<-bt.out.2];exact v.out
         clear v;go_wp2_with fail
         go_roundw
         case rel=>exact⟨a+1,by omega,by simp,by go_num,aT⟩
         case measure=>simp [intOf];omega
  ·have q1:(2:Int)<=(a:Int):=by omega
   have aT:=ij (il J.out U.out.base);clear U;go_wp2_with fail
   go_ret;exact⟨rfl,aT.out⟩
end
end Go.Proofs.YtklenjmfalljgabGreatDoor
