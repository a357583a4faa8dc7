/- The texts Rgg Rgi Rgj. -/
import Derived.Test.YtklenjmfalljgabGreatDoorM02
import Derived.Test.YtklenjmfalljgabGreatDoorM15
import Derived.Test.YtklenjmfalljgabGreatDoorM19
import Derived.Test.YtklenjmfalljgabGreatDoorM22
namespace Go.Proofs.YtklenjmfalljgabGreatDoor
set_option maxRecDepth 100000
set_option maxHeartbeats 8000000
section
open Go.RowKit
attribute [local go_sem] Go.World.cell?_alloc_some
def lA(l:List Nat)(bad:Bool):List Int × (Int × Int × Int) × Bool:=
 let k:=iQ 500 l
 let s:=nQ k.1 [] k.2.1 (bad || k.2.2)
 let a:=iQ 5 s.2.1
 let b:=iQ 3 a.2.1
 let c:=iQ 500 b.2.1
 (s.1,(a.1,b.1,c.1),!(s.2.2 || a.2.2 || b.2.2 || c.2.2))
theorem yJ(n:Nat)(t:Int)(s:List Int)(h:¬s.length<=500):nD n t s=s:=by
 cases n with
 | zero=>rfl
 | succ n=>rw [nD,if_neg h]
theorem zT(k:Nat)(s:List Int)(l:List Nat):nQ k s l true=(s,l,true):=by cases k<;>rfl
theorem Fb{W w:World}{b j f L:Nat}{s:ByteArray}{l:List Nat}{bad:Bool}{tv sv:Value}{p:List (List Ins)}{O:List Int}(HS:Hid (GuS W w b j f L s l bad tv sv (0,0,0) p O))(hs:s.size<=9223372036854775000)
  {Q:Exit->Act->World->Prop} {c0 c1 c3 c6 c7 c8 c9 bO eZ d8 bt bw c4 aA c5 dm bA cB bk cR cy cW cs cO fk a8 dB aM eT ck bP ej ew bW bX eg eu cQ bz cZ dY e7 dr ca e9 bZ bi aN dN dD dI cL ey aB aH bT ea dG dC cd dg cI b7 de bS cX eV cn cc e5 ev bm di a5 dT fh b4 bH bv a9 d2 cp bC cP eD cl eQ d0 ci bo cE cS cY bU d4 cU aV bY ce eN cm dp aU et aL aR aZ bl aS fa aW aC cT aJ a3 d9 eY dU cJ cV eh bf eE eU dx es cr d1 cD cM:Value} (E:Hid (∀ c a d v w,Q (.panic c) (Act.put a (some d) v) w->Q (.panic c) a w))
  (T:Hid (∀ {Z z1 z4 z5 z6 z7 z8 z9 aF df cw dw dh bF dZ dc d5 eW bD cq fc ex fd dQ cA eI bB bV a6 b5 bn eq bJ ek bb cK dH d7 b8 eK cf aQ eJ bN bK dM bq cx eO dJ aO eF b0 co c2 dq dO b1 ff b9 dX fi dE dF eS cu eB eH dR dL b2 dV aX cN dy eR e8 du bg bc ed cC fb dj ez a7 da b6 bj aP ch ee eP eC eM fe aT dk bE cj bp dl cg ct el dP cH bd dv bG be bL bM cv db eb cG dd dA ef er eL eG ei aE em d6 dt fg bR ec:Value} (w':World) (au:Value),w'.heap[f]?=some (.cells #[tv,au,.int .i64 ((iQ 5 l).1:Nat),.int .i64 ((iQ 3 (iQ 5 l).2.1).1:Nat),.int .i64 ((iQ 500 (iQ 3 (iQ 5 l).2.1).2.1).1:Nat)] 56 (0,0))->ThrAt L w'.heap.size w' tv p->w'.ownsRow L 3 1 au O.length (iM O)->W.grownBy w' none->Q .ret ⟨#[Z,z1,.pointer (some ⟨f,0,none⟩),.bool (!(bad || (iQ 5 l).2.2 || (iQ 3 (iQ 5 l).2.1).2.2 || (iQ 500 (iQ 3 (iQ 5 l).2.1).2.1).2.2)),z4,z5,z6,z7,z8,z9,aF,df,cw,dw,dh,bF,dZ,dc,d5,eW,bD,cq,fc,ex,fd,dQ,cA,eI,bB,bV,a6,b5,bn,eq,bJ,ek,bb,cK,dH,d7,b8,eK,cf,aQ,eJ,bN,bK,dM,bq,cx,eO,dJ,aO,eF,b0,co,c2,dq,dO,b1,ff,b9,dX,fi,dE,dF,eS,cu,eB,eH,dR,dL,b2,dV,aX,cN,dy,eR,e8,du,bg,bc,ed,cC,fb,dj,ez,a7,da,b6,bj,aP,ch,ee,eP,eC,eM,fe,aT,dk,bE,cj,bp,dl,cg,ct,el,dP,cH,bd,dv,bG,be,bL,bM,cv,db,eb,cG,dd,dA,ef,er,eL,eG,ei,aE,em,d6,dt,fg,bR,ec],[]⟩ w')):
  Code.wp Tryz.prog (oO Tryz.f71 28) Q ⟨#[c0,c1,.pointer (some ⟨f,0,none⟩),c3,.pointer (some ⟨b,0,none⟩),.pointer (some ⟨j,0,none⟩),c6,c7,c8,c9,bO,eZ,d8,bt,bw,c4,aA,c5,dm,bA,cB,bk,cR,cy,cW,cs,cO,fk,a8,dB,aM,eT,ck,bP,ej,ew,bW,bX,eg,eu,cQ,bz,cZ,dY,e7,dr,ca,e9,bZ,bi,aN,dN,dD,dI,cL,ey,aB,aH,bT,ea,dG,dC,cd,dg,cI,b7,de,bS,cX,eV,cn,cc,e5,ev,bm,di,a5,dT,fh,b4,bH,bv,a9,d2,cp,bC,cP,eD,cl,eQ,d0,ci,bo,cE,cS,cY,bU,d4,cU,aV,bY,ce,eN,cm,dp,aU,et,aL,aR,aZ,bl,aS,fa,aW,aC,cT,aJ,a3,d9,eY,dU,cJ,cV,eh,bf,eE,eU,dx,es,cr,d1,cD,cM],[]⟩ w:=by
 conv=>arg 2;whnf
 have ag:∀ q,pt q= .pointer (some ⟨q,0,none⟩):=fun _=>rfl
 have U:=il (nl w b s l bad 5 (by omega) HS.out.rd hs);rw [ag]at U;have aK:=ky 5 l;generalize iQ 5 l=x at*;obtain⟨m,l1,aa⟩:=x;simp only at U T aK;have hka1:(m:Int)<=5:=by omega
 go_upto_region 29 with (go_at_call 98;refine U.out.mono ?_;clear U;rintro e v1 ⟨rfl,t,A⟩;have hc:=HS.out.call t A;have F:=hc.acell.2.2.1;have I:=hc.acell.2.2.2.2.2 2;have ak:=il hc;clear t A hc)
 have B:=ak.out.setA 2 (m:Int) ((m:Int),0,0) (Or.inl ⟨rfl,rfl⟩);generalize v1.setCell ⟨j,2,none⟩ (.int .i64 (m:Int))=w1 at*;have ap:=il B;clear B F I ak;have V:=il (nl w1 b s l1 (bad || aa) 3 (by omega) ap.out.rd hs);rw [ag]at V;have aG:=ky 3 l1;generalize iQ 3 l1=x at*;obtain⟨n,l2,ar⟩:=x;simp only at V T aG;have hka2:(n:Int)<=3:=by omega
 go_upto_region 30 with (go_at_call 98;refine V.out.mono ?_;clear V;rintro e v2 ⟨rfl,t,A⟩;have hc:=ap.out.call t A;have F:=hc.acell.2.2.2.1;have I:=hc.acell.2.2.2.2.2 3;have ao:=il hc;clear t A hc)
 have B:=ao.out.setA 3 (n:Int) ((m:Int),(n:Int),0) (Or.inr (Or.inl ⟨rfl,rfl⟩));generalize v2.setCell ⟨j,3,none⟩ (.int .i64 (n:Int))=w2 at*;have aj:=il B;clear B F I ao;have X:=il (nl w2 b s l2 (bad || aa || ar) 500 (by omega) aj.out.rd hs);rw [ag]at X;have d3:=ky 500 l2;generalize iQ 500 l2=x at*;obtain⟨r,l3,bu⟩:=x;simp only at X T d3;have hka3:(r:Int)<=500:=by omega
 go_upto_region 31 with (go_at_call 98;refine X.out.mono ?_;clear X;rintro e v3 ⟨rfl,t,A⟩;have hc:=aj.out.call t A;have F:=hc.acell.2.2.2.2.1;have I:=hc.acell.2.2.2.2.2 4;have aq:=il hc;clear t A hc)
 have B:=aq.out.setA 4 (r:Int) ((m:Int),(n:Int),(r:Int)) (Or.inr (Or.inr ⟨rfl,rfl⟩));generalize v3.setCell ⟨j,4,none⟩ (.int .i64 (r:Int))=w3 at*;have J:=il B;clear B F I aq;obtain⟨x1,x2,x3,hx⟩:=iy J.out.thr.choose_spec.1;obtain⟨y1,y2,y3,hy⟩:=iy J.out.row;subst hx hy;generalize cF:(bad || aa || ar || bu)=BB at*;clear cF;have av:Hid (∀ u:World,(∀ k,k≠f->u.heap[k]?=w3.heap[k]?)->u.cell? ⟨j,0,none⟩=some (.slice x1 x2 x3)/\u.cell? ⟨j,1,none⟩=some (.slice y1 y2 y3)/\u.cell? ⟨j,2,none⟩=some (.int .i64 (m:Int))/\u.cell? ⟨j,3,none⟩=some (.int .i64 (n:Int))/\u.cell? ⟨j,4,none⟩=some (.int .i64 (r:Int))/\u.cell? ⟨b,2,none⟩=some (.bool BB)):=fun u hu=>by
  have h:=J.out;obtain⟨o1,o2,o3,o4⟩:=h.ord;obtain⟨e0,Y,M,e3,e4,_⟩:=h.acell;have K:u.heap[j]?=w3.heap[j]?:=hu j (by omega);have hb:u.heap[b]?=w3.heap[b]?:=hu b (by omega);exact⟨by rw [World.cell?_of_block K];exact e0,by rw [World.cell?_of_block K];exact Y,by rw [World.cell?_of_block K];exact M,by rw [World.cell?_of_block K];exact e3,by rw [World.cell?_of_block K];exact e4,by rw [World.cell?_of_block hb];exact h.rd.bad⟩
 have al:=av.out w3.drew (fun k _=>rfl);refine iA (fun u=>u.cell? ⟨j,0,none⟩=some (.slice x1 x2 x3)/\u.cell? ⟨j,1,none⟩=some (.slice y1 y2 y3)/\u.cell? ⟨j,2,none⟩=some (.int .i64 (m:Int))/\u.cell? ⟨j,3,none⟩=some (.int .i64 (n:Int))/\u.cell? ⟨j,4,none⟩=some (.int .i64 (r:Int))/\u.cell? ⟨b,2,none⟩=some (.bool BB)) 7 (by kernel_rfl) (by kernel_rfl) al ?_;intro C;refine ij 0 ?v0 rfl (by kernel_rfl) (fun c _ _ h=>E.out c _ _ _ _ h) (by kernel_rfl) ?y0 C ?_
 case y0=>(rintro u ⟨N,R,S,G,H,P⟩;go_simp;try rfl)
 simp only [Act.put,List.setIfInBounds_toArray];refine ij 1 ?v1 rfl (by kernel_rfl) (fun c _ _ h=>E.out c _ _ _ _ h) (by kernel_rfl) ?y1 C ?_
 case y1=>(rintro u ⟨N,R,S,G,H,P⟩;go_simp;try rfl)
 simp only [Act.put];refine ij 2 ?v2 rfl (by kernel_rfl) (fun c _ _ h=>E.out c _ _ _ _ h) (by kernel_rfl) ?y2 C ?_
 case y2=>(rintro u ⟨N,R,S,G,H,P⟩;go_simp;try rfl)
 simp only [Act.put];refine ij 3 ?v3 rfl (by kernel_rfl) (fun c _ _ h=>E.out c _ _ _ _ h) (by kernel_rfl) ?y3 C ?_
 case y3=>(rintro u ⟨N,R,S,G,H,P⟩;go_simp;try rfl)
 simp only [Act.put];refine ij 4 ?v4 rfl (by kernel_rfl) (fun c _ _ h=>E.out c _ _ _ _ h) (by kernel_rfl) ?y4 C ?_
 case y4=>(rintro u ⟨N,R,S,G,H,P⟩;go_simp;try rfl)
 simp only [Act.put];refine ij 5 ?v5 rfl (by kernel_rfl) (fun c _ _ h=>E.out c _ _ _ _ h) (by kernel_rfl) ?y5 C ?_
 case y5=>(rintro u ⟨N,R,S,G,H,P⟩;go_simp;try rfl)
 simp only [Act.put];refine iw (i:=6) rfl (by kernel_rfl) (by kernel_rfl) (by kernel_rfl) ?_;intro K6 ax;have am:=il ax;clear ax;have z:w3.heap[f]?=some (.cells #[.slice none 0 0,.slice none 0 0,.int .i64 0,.int .i64 0,.int .i64 0] 56 (0,0)):=J.out.res;have r0:w3.cell? ⟨f,0,none⟩=some (.slice none 0 0):=by simp only [World.cell?,z];rfl
 have r1:w3.cell? ⟨f,1,none⟩=some (.slice none 0 0):=by simp only [World.cell?,z];rfl
 have r2:w3.cell? ⟨f,2,none⟩=some (.int .i64 0):=by simp only [World.cell?,z];rfl
 have r3:w3.cell? ⟨f,3,none⟩=some (.int .i64 0):=by simp only [World.cell?,z];rfl
 have r4:w3.cell? ⟨f,4,none⟩=some (.int .i64 0):=by simp only [World.cell?,z];rfl
 have D:∀ o,w3.frozen? ⟨f,o,none⟩=false:=fun o=>by simp [World.frozen?,z]
 have Z:=D 0;have z1:=D 1;have z2:=D 2;have z3:=D 3;have z4:=D 4;have eo:=il z;clear z D;go_simp;have az:(((((w3.setCell ⟨f,0,none⟩ (.slice x1 x2 x3)).setCell ⟨f,1,none⟩ (.slice y1 y2 y3)).setCell ⟨f,2,none⟩ (.int .i64 (m:Int))).setCell ⟨f,3,none⟩ (.int .i64 (n:Int))).setCell ⟨f,4,none⟩ (.int .i64 (r:Int))).heap[f]?=some (.cells #[.slice x1 x2 x3,.slice y1 y2 y3,.int .i64 (m:Int),.int .i64 (n:Int),.int .i64 (r:Int)] 56 (0,0)):=by
  have Y:=heap_setCell_same w3 f 0 _ _ (.slice x1 x2 x3) eo.out;have M:=heap_setCell_same _ f 1 _ _ (.slice y1 y2 y3) Y;have e3:=heap_setCell_same _ f 2 _ _ (.int .i64 (m:Int)) M;have e4:=heap_setCell_same _ f 3 _ _ (.int .i64 (n:Int)) e3;exact heap_setCell_same _ f 4 _ _ (.int .i64 (r:Int)) e4
 have an:w3.grownBy (((((w3.setCell ⟨f,0,none⟩ (.slice x1 x2 x3)).setCell ⟨f,1,none⟩ (.slice y1 y2 y3)).setCell ⟨f,2,none⟩ (.int .i64 (m:Int))).setCell ⟨f,3,none⟩ (.int .i64 (n:Int))).setCell ⟨f,4,none⟩ (.int .i64 (r:Int))) (some f):=ip (ip (ip (ip (jO _ _ _ _) (jO _ _ _ _)) (jO _ _ _ _)) (jO _ _ _ _)) (jO _ _ _ _);have aw:∀ k,k≠f->(((((w3.setCell ⟨f,0,none⟩ (.slice x1 x2 x3)).setCell ⟨f,1,none⟩ (.slice y1 y2 y3)).setCell ⟨f,2,none⟩ (.int .i64 (m:Int))).setCell ⟨f,3,none⟩ (.int .i64 (n:Int))).setCell ⟨f,4,none⟩ (.int .i64 (r:Int))).heap[k]?=w3.heap[k]?:=fun k hk=>by
  rw [Below.heap_setCell _ _ _ _ (by simpa using hk),Below.heap_setCell _ _ _ _ (by simpa using hk),Below.heap_setCell _ _ _ _ (by simpa using hk),Below.heap_setCell _ _ _ _ (by simpa using hk),Below.heap_setCell _ _ _ _ (by simpa using hk)]
 generalize ((((w3.setCell ⟨f,0,none⟩ (.slice x1 x2 x3)).setCell ⟨f,1,none⟩ (.slice y1 y2 y3)).setCell ⟨f,2,none⟩ (.int .i64 (m:Int))).setCell ⟨f,3,none⟩ (.int .i64 (n:Int))).setCell ⟨f,4,none⟩ (.int .i64 (r:Int))=w9 at*;refine am.out _ _ (av.out w9.drew aw) ?_;clear am r0 r1 r2 r3 r4 Z z1 z2 z3 z4;try simp only [Act.put,List.setIfInBounds_toArray]
 refine iI rfl (by kernel_rfl) (by kernel_rfl) (by kernel_rfl) ?_;go_simp;have HF:Hid (ThrAt L w9.drew.heap.size w9.drew (.slice x1 x2 x3) p/\w9.drew.ownsRow L 3 1 (.slice y1 y2 y3) O.length (iM O)/\W.grownBy w9.drew none):=by
  have h:=J.out;obtain⟨o1,o2,o3,o4⟩:=h.ord;have y:w3.grownBy w9.drew (some f):=iz an;refine⟨(h.thr.step y (fun q e=>by simp only [Option.some.injEq]at e;omega)).mono y.size,kA h.row y (fun k e M=>by simp only [Option.some.injEq]at e;have:=iB h.row k M;omega),?_⟩;exact⟨y.os.trans h.base.os,y.tape.trans h.base.tape,y.output.trans h.base.output,Nat.le_trans h.base.size y.size,fun k hk _=>by
   rw [y.block k (Nat.lt_of_lt_of_le hk h.base.size) (fun e=>by simp only [Option.some.injEq]at e;omega)];exact h.base.block k hk (by simp)⟩
 have dz:=il az;clear az an aw C al;go_wp2_with fail
 exact T.out w9.drew _ dz.out HF.out.1 HF.out.2.1 HF.out.2.2
theorem CU{W w:World}{b D z L:Nat}{s:ByteArray}{l:List Nat}{bad:Bool}{tv:Value}{p:List (List Ins)}(HS:Hid (GuS W w b D z L s l bad tv (.slice none 0 0) (0,0,0) p []))(F:s.size<=9223372036854775000)
  {Q:Exit->Act->World->Prop} {c0 c1 c3 c6 c7 c8 c9 bI e2 eb bm bo de ax df dv br cD bb cT cz cZ cr fg fh aZ dG aH eX ci bJ en ey bQ bR ej ew cS bq dc d1 e4 dy b9 e6 bU a9 aI dR dI dN cN eA ay aD bN ed dL dH cb dp cK b5 dm bM c2 eZ cm ca e3 ex bf dr aV dX fe bZ bB bn a0 d6 co bu cR eG ck eU d4 cg bh cG cV da bO d7 cX aQ bT cc eQ cl dw aO ev aG aM aT bc aN e7 aR aA cW aE aU ec e1 dY cL cY ek a6 eH eY dD eu cq d5 cF cP:Value} (ad:Hid (∀ c a d v w,Q (.panic c) (Act.put a (some d) v) w->Q (.panic c) a w))
  (U:Hid (∀ {z0 z1 z4 z5 z6 z7 z8 z9 aC dn cx dC dq bz d2 dj d8 e0 bw cp e9 ez fa dV cC eL bt bP aW b3 bg es bD eo a2 cM dM ea b6 eN cd aL eM bH bE dQ bj cy eR dO aJ eI bV cn dd dx dT bW fc b8 d0 ff dJ dK eW cv eD eK dW dP bX dZ aS cQ dE eV e5 dA a7 a3 eg cE e8 ds eB aY dg b4 ba aK cf eh eT eE eP fb aP dt bx cj bi du ce cu ep dU cJ a4 dB bA a5 bF bG cw dh ee cI dk dF ei et eO eJ em aB eq d9 dz fd bL ef:Value} (w':World) (sv:Value),w'.heap[z]?=some (.cells #[tv,sv,.int .i64 (lA l bad).2.1.1,.int .i64 (lA l bad).2.1.2.1,.int .i64 (lA l bad).2.1.2.2] 56 (0,0))->ThrAt L w'.heap.size w' tv p->w'.ownsRow L 3 1 sv (lA l bad).1.length (iM (lA l bad).1)->W.grownBy w' none->Q .ret ⟨#[z0,z1,.pointer (some ⟨z,0,none⟩),.bool (lA l bad).2.2,z4,z5,z6,z7,z8,z9,aC,dn,cx,dC,dq,bz,d2,dj,d8,e0,bw,cp,e9,ez,fa,dV,cC,eL,bt,bP,aW,b3,bg,es,bD,eo,a2,cM,dM,ea,b6,eN,cd,aL,eM,bH,bE,dQ,bj,cy,eR,dO,aJ,eI,bV,cn,dd,dx,dT,bW,fc,b8,d0,ff,dJ,dK,eW,cv,eD,eK,dW,dP,bX,dZ,aS,cQ,dE,eV,e5,dA,a7,a3,eg,cE,e8,ds,eB,aY,dg,b4,ba,aK,cf,eh,eT,eE,eP,fb,aP,dt,bx,cj,bi,du,ce,cu,ep,dU,cJ,a4,dB,bA,a5,bF,bG,cw,dh,ee,cI,dk,dF,ei,et,eO,eJ,em,aB,eq,d9,dz,fd,bL,ef],[]⟩ w')):
  Code.wp Tryz.prog (oO Tryz.f71 20) Q ⟨#[c0,c1,.pointer (some ⟨z,0,none⟩),c3,.pointer (some ⟨b,0,none⟩),.pointer (some ⟨D,0,none⟩),c6,c7,c8,c9,bI,e2,eb,bm,bo,de,ax,df,dv,br,cD,bb,cT,cz,cZ,cr,fg,fh,aZ,dG,aH,eX,ci,bJ,en,ey,bQ,bR,ej,ew,cS,bq,dc,d1,e4,dy,b9,e6,bU,a9,aI,dR,dI,dN,cN,eA,ay,aD,bN,ed,dL,dH,cb,dp,cK,b5,dm,bM,c2,eZ,cm,ca,e3,ex,bf,dr,aV,dX,fe,bZ,bB,bn,a0,d6,co,bu,cR,eG,ck,eU,d4,cg,bh,cG,cV,da,bO,d7,cX,aQ,bT,cc,eQ,cl,dw,aO,ev,aG,aM,aT,bc,aN,e7,aR,aA,cW,aE,aU,ec,e1,dY,cL,cY,ek,a6,eH,eY,dD,eu,cq,d5,cF,cP],[]⟩ w:=by
 conv=>arg 2;whnf
 obtain⟨i0,c5,d3,ch,db⟩:=info_parts kn;have V:∀ q,pt q= .pointer (some ⟨q,0,none⟩):=fun _=>rfl
 have O:=il (nl w b s l bad 500 (by omega) HS.out.rd F);rw [V]at O;have ak:=ky 500 l;have H:Hid (lA l bad=(let s:=nQ (iQ 500 l).1 [] (iQ 500 l).2.1 (bad || (iQ 500 l).2.2);let a:=iQ 5 s.2.1;let b:=iQ 3 a.2.1;let c:=iQ 500 b.2.1;((s.1,((a.1:Int),(b.1:Int),(c.1:Int)),!(s.2.2 || a.2.2 || b.2.2 || c.2.2)):List Int × (Int × Int × Int) × Bool))):=rfl;generalize lA l bad=SG at*;generalize iQ 500 l=x at*;obtain⟨k0,l0,Z⟩:=x;simp only at ak O H;generalize hR:nQ k0 [] l0 (bad || Z)=R at*;have HR:=il hR;clear hR;have qk0:(k0:Int)<=500:=by omega
 go_wp2_with (go_at_call 98;refine O.out.mono ?_;clear O;rintro e w1 ⟨rfl,u,y⟩;have H1:=il (HS.out.call u y);clear u y)
 go_loopw [11] (fun kv w'=>∃ (k:Nat) (sv:Value) (i:List Int) (h:List Nat) (r:Bool),k<=500/\kv= .int .i64 k/\Hid (i.length<=501)/\Hid (GuS W w' b D z L s h r tv sv (0,0,0) p i/\nQ k i h r=R)) (fun kv _=>(intOf kv).toNat)
 case atStart=>exact⟨k0,_,[],l0,bad || Z,ak,rfl,il (by simp),⟨H1.out,HR.out⟩⟩
 case round=>
  clear H1 HR;obtain⟨k,sv,i,h,r,hk,rfl,fi,A⟩:=hrel;obtain⟨J,av⟩:∃ J,J=wr:=⟨_,rfl⟩;rw [<-av]at A ⊢;clear av;have kb:=A.out.1.rd.bad;by_cases E:0<k/\r=false
  ·obtain⟨ap,rfl⟩:=E;obtain⟨k,rfl⟩:∃ j,k=j+1:=⟨k - 1,by omega⟩;have t0:(0:Int)<((k+1:Nat):Int):=by omega
   have G:=il (nl J b s h false 63 (by omega) A.out.1.rd F);rw [V]at G;have az:=ky 63 h;have S:=ky 500 (iQ 63 h).2.1;have T:Hid (nQ (k+1) i h false=nQ k (nD (iQ 500 (iQ 63 h).2.1).1 (iQ 63 h).1 i) (iQ 500 (iQ 63 h).2.1).2.1 ((iQ 63 h).2.2 || (iQ 500 (iQ 63 h).2.1).2.2)):=rfl;generalize iQ 63 h=x at*;obtain⟨t,l1,C⟩:=x;simp only at az S G T;simp only [Bool.false_or]at G;have qt:(t:Int)<=63:=by omega
   go_upto_region 24 with (go_at_call 98;refine G.out.mono ?_;clear G;rintro e w3 ⟨rfl,u,y⟩;have X:=il (A.out.1.call u y);clear u y)
   have M:=il (nl w3 b s l1 C 500 (by omega) X.out.rd F);rw [V]at M;clear kb;generalize iQ 500 l1=x at*;obtain⟨n,N,K⟩:=x;simp only at S M T;have qn:(n:Int)<=500:=by omega
   go_wp2_with (go_at_call 98;refine M.out.mono ?_;clear M;rintro e w4 ⟨rfl,u,y⟩;have H4:=il (X.out.call u y);clear u y)
   go_loopw [13] (fun nv w'=>∃ (m:Nat) (aj:Value) (f:List Int),m<=500/\nv= .int .i64 m/\Hid (f.length<=501)/\Hid (GuS W w' b D z L s N (C || K) tv aj (0,0,0) p f/\nD m t f=nD n t i)) (fun nv _=>(intOf nv).toNat)
   case atStart=>exact⟨n,sv,i,S,rfl,fi,⟨H4.out,rfl⟩⟩
   case round=>
    clear H4 X;obtain⟨m,aj,f,hm,rfl,au,o⟩:=hrel;obtain⟨B,ac⟩:∃ B,B=wr:=⟨_,rfl⟩;rw [<-ac]at o ⊢;clear ac;obtain⟨_,a1,_,_,_,_⟩:=o.out.1.acell;have P:=o.out.1.row;obtain⟨y1,y2,y3,rfl⟩:=iy P;have dl:=iC P;subst dl;have aF:=il P;clear P;by_cases E:0<m/\f.length<=500
    ·obtain⟨di,el⟩:=E;obtain⟨m,rfl⟩:∃ j,m=j+1:=⟨m - 1,by omega⟩;have I:(0:Int)<((m+1:Nat):Int):=by omega
     have t2:(f.length:Int)<=500:=by omega
     have c4:Hid (nD m t (f++[(t:Int)])=nD n t i):=by
      have:=o.out.2;rw [nD,if_pos el]at this;exact this
     have bv:Hid ((f++[(t:Int)]).length<=501):=by unfold Hid;simp;omega
     have hbase:L<=B.heap.size:=by have:=o.out.1.ord;have:=o.out.1.lt;omega
     have be:f.length+1<=maxLen:=by unfold maxLen;omega
     go_wp2_with (at_builtin;go_must (refine iH rfl _ _ _ rfl L 3 i0 _ 1 8 Tryz.underlying39 c5 d3 ch db rfl (by omega) (.slice y1 f.length y3) f.length (iM f) rfl (iK aF.out) ⟨B.heap.size,0,none⟩ 1 1 [.int .i64 (t:Int)] rfl rfl (World.news_of_block (cs:= #[.int .i64 (t:Int)]) (t:=3) (fr:=(0,0)) (heap_alloc_new B _)) (by simp [Value.oneCell']) (by omega) be (by omega) (by simp;omega) (B.heap.size+1) (by simp) ?_);intro g8 cap8 w8 an aw cO;obtain⟨⟨p6,p7⟩,ar⟩:=o.out.1.push (t:=(t:Int)) rfl an aw;have dS:=il ar;clear ar an aw cO)
     go_roundw
     case rel=>exact⟨m,_,f++[(t:Int)],by omega,by go_num,bv,⟨dS.out,c4.out⟩⟩
     case measure=>simp [intOf]<;>omega
    ·have af:Hid (nQ k f N (C || K)=R):=by
      have h1:=A.out.2;have Y:=o.out.2;rw [T.out]at h1;have h3:nD m (t:Int) f=f:=by
       by_cases e:f.length<=500
       ·have:m=0:=by omega
        rw [this];rfl
       ·exact yJ _ _ _ e
      rw [h3]at Y;rw [Y];exact h1
     by_cases di:0<m
     ·have I:(0:Int)<(m:Int):=by omega
      have t2:(500:Int)<(f.length:Int):=by omega
      go_wp2_with fail
      go_roundw
      case rel=>exact⟨k,_,f,N,C || K,by omega,by go_num,au,⟨o.out.1,af.out⟩⟩
      case measure=>simp [intOf]<;>omega
     ·have I:(m:Int)<=0:=by omega
      go_wp2_with fail
      go_roundw
      case rel=>exact⟨k,_,f,N,C || K,by omega,by go_num,au,⟨o.out.1,af.out⟩⟩
      case measure=>simp [intOf]<;>omega
  ·have ae:Hid (R=(i,h,r)):=by
    unfold Hid;rw [<-A.out.2];by_cases e:k=0
    ·rw [e];rfl
    ·have:r=true:=by
      cases r with
      | true=>rfl
      | false=>exact absurd ⟨by omega,rfl⟩ E
     rw [this];exact zT _ _ _
   rw [ae.out]at H;simp only at H;have ab:Hid (GuS W J b D z L s h r tv sv (0,0,0) p i):=A.out.1;have bl:=H.out;clear H;subst bl;simp only at U;clear ae;by_cases ap:0<k
   ·have cB:r=true:=by
     cases r with
     | true=>rfl
     | false=>exact absurd ⟨ap,rfl⟩ E
    subst cB;have I:(0:Int)<(k:Int):=by omega
    go_upto_if 92 with fail
    refine wp_cond_false rfl ?_;refine wp_exit ?_;refine ‹∀ a w,Code.wp Tryz.prog _ _ a w->_› _ _ ?_;exact Fb ab F ad U
   ·have I:(k:Int)<=0:=by omega
    go_upto_if 92 with fail
    refine wp_cond_false rfl ?_;refine wp_exit ?_;refine ‹∀ a w,Code.wp Tryz.prog _ _ a w->_› _ _ ?_;exact Fb ab F ad U
end
section
open Go.RowKit
theorem ThrAt.upto{L B:Nat}{w w':World}{tv:Value}{p:List (List Ins)}(h:ThrAt L B w tv p)(a:∀ k,L<=k->k<B->w'.heap[k]?=w.heap[k]?):ThrAt L B w' tv p:=by
 obtain⟨rows,f,b,i,l⟩:=h;refine⟨rows,iN f (fun g e=>a g (iB f g e) (b g e)),b,fun j hj=>?_,l⟩;obtain⟨rv,m,d,c⟩:=i j hj;exact⟨rv,m,iN d (fun g e=>a g (iB d g e) (c g e)),c⟩
structure GuB(W w:World)(b n5 n2 L B:Nat)(s:ByteArray)(l:List Nat)(bad:Bool)(tv:Value)(p:List (List Ins))(lv:Value)(c:List Ins):Prop where
 rd:RdG w b s l bad
 art:w.heap[n5]?=some (.cells #[tv,.slice none 0 0,.int .i64 0,.int .i64 0,.int .i64 0] 56 (0,0))
 res:w.heap[n2]?=some (.cells #[.slice none 0 0,.slice none 0 0,.int .i64 0,.int .i64 0,.int .i64 0] 56 (0,0))
 thr:ThrAt L B w tv p
 row:w.ownsRow B 65 4 lv c.length (jk c)
 base:W.grownBy w none
 ord:W.heap.size<=n2/\n2<b/\b<n5/\L=n5+1/\L<=B/\B<=w.heap.size
section
variable {W w w' w6 : World} {b n5 n2 L B : Nat} {s : ByteArray} {l l' : List Nat} {bad bad' : Bool} {tv lv : Value} {p : List (List Ins)} {c : List Ins}
theorem GuB.step(h:GuB W w b n5 n2 L B s l bad tv p lv c)(o:RdG w' b s l' bad'){q:Nat}(a:w.grownBy w' (some q))(d:q=b\/(B<=q/\lv.ownBlock≠some q)):GuB W w' b n5 n2 L B s l' bad' tv p lv c:=by
 obtain⟨i,f,n,u,m,j⟩:=h.ord;have t:=(Array.getElem?_eq_some_iff.1 h.art).1;have r:=(Array.getElem?_eq_some_iff.1 h.res).1;have hlo:W.heap.size<=q:=by rcases d with e | e<;>omega
 refine⟨o,?_,?_,?_,?_,?_,i,f,n,u,m,Nat.le_trans j a.size⟩
 ·rw [a.block n5 t (by simp only [ne_eq,Option.some.injEq];rcases d with e | e<;>omega)];exact h.art
 ·rw [a.block n2 r (by simp only [ne_eq,Option.some.injEq];rcases d with e | e<;>omega)];exact h.res
 ·exact h.thr.upto (fun k h1 h2=>a.block k (by omega) (by simp only [ne_eq,Option.some.injEq];rcases d with e | e<;>omega))
 ·refine iN h.row (fun g e=>a.block g (i6 h.row g e) ?_);simp only [ne_eq,Option.some.injEq];have:=iB h.row g e;rcases d with e1 | e1
  ·omega
  ·intro v;exact e1.2 (by rw [<-v];exact e)
 ·exact⟨a.os.trans h.base.os,a.tape.trans h.base.tape,a.output.trans h.base.output,Nat.le_trans h.base.size a.size,fun k hk _=>by
   rw [a.block k (Nat.lt_of_lt_of_le hk h.base.size) (fun e=>by simp only [Option.some.injEq]at e;omega)];exact h.base.block k hk (by simp)⟩
theorem GuB.call(h:GuB W w b n5 n2 L B s l bad tv p lv c)(hr:RdG w' b s l' bad')(hg:w.grownBy w' (some b)):GuB W w' b n5 n2 L B s l' bad' tv p lv c:=h.step hr hg (Or.inl rfl)
theorem GuB.made(h:GuB W w b n5 n2 L B s l bad tv p lv c)(o:Obj):GuB W (w.alloc o) b n5 n2 L B s l bad tv p lv c:=by
 obtain⟨k,e,_⟩:=h.rd;have a:=(Array.getElem?_eq_some_iff.1 e).1;exact h.call (h.rd.step (Below.heap_alloc _ _ _ a)) (ir (iu _ _))
theorem GuB.put(h:GuB W w b n5 n2 L B s l bad tv p lv c){a:Nat}(e:B<=a)(d:lv.ownBlock≠some a)(j:Nat)(x:Value):GuB W (w.setCell ⟨a,j,none⟩ x) b n5 n2 L B s l bad tv p lv c:=by
 obtain⟨o1,o2,o3,o4,o5,o6⟩:=h.ord;exact h.step (h.rd.step (Below.heap_setCell _ _ _ _ (by simp only;omega))) (jO w a j x) (Or.inr ⟨e,d⟩)
theorem GuS.begin(h:GuS W w b n5 n2 L s l bad tv (.slice none 0 0) (0,0,0) p []):GuB W (w.alloc (.cells #[] 65)) b n5 n2 L w.heap.size s l bad tv p (.slice (some ⟨w.heap.size,0,none⟩) 0 0) []:=by
 obtain⟨i,c,j,d⟩:=h.ord;obtain⟨f,e,a⟩:=h.lt;refine⟨h.rd.step (Below.heap_alloc _ _ _ f),?_,?_,h.thr.upto (fun k _ hk=>Below.heap_alloc _ _ _ hk),⟨rfl,Or.inr ⟨w.heap.size,0,#[],rfl,Nat.le_refl _,heap_alloc_new w _,Nat.le_refl _,by unfold maxLen;omega,rfl,rfl⟩⟩,ir h.base,i,c,j,d,by omega,by simp⟩
 ·rw [Below.heap_alloc _ _ _ e];exact h.art
 ·rw [Below.heap_alloc _ _ _ a];exact h.res
theorem GuB.push(h:GuB W w b n5 n2 L B s l bad tv p lv c){i:Ins}{o:Obj}{g6 c6 N:Nat}(z:N=c.length)
  (e:w6.ownsRow B 65 4 (.slice (some ⟨g6,0,none⟩) (N+1) c6) (N+1) (jk c++[.int .i64 i.op,.int .i64 i.a,.int .i64 i.b,.int .i64 i.n]))
  (key:(lv.ownBlock=some g6/\(w.alloc o).grownBy w6 (some g6))\/(g6=w.heap.size+1/\(w.alloc o).grownBy w6 none)):
  GuB W w6 b n5 n2 L B s l bad tv p (.slice (some ⟨g6,0,none⟩) (N+1) c6) (c++[i]):=by
 subst z;obtain⟨t,f,v,A,u,o6⟩:=h.ord;have j:=(Array.getElem?_eq_some_iff.1 h.art).1;have x:=(Array.getElem?_eq_some_iff.1 h.res).1;have hB6:B<=g6:=iB e g6 rfl;have hgl:(w.alloc o).os=w.os/\(w.alloc o).tape=w.tape/\(w.alloc o).output=w.output:=⟨rfl,rfl,rfl⟩;have y:w.heap.size<=w6.heap.size:=by
  rcases key with ⟨_,hg⟩ | ⟨_,hg⟩<;>(have:=hg.size;simp at this;omega)
 have d:∀ k,k<w.heap.size->k<B->w6.heap[k]?=w.heap[k]?:=fun k hk hne=>by
  rcases key with ⟨_,hg⟩ | ⟨_,hg⟩
  ·rw [hg.block k (by simp;omega) (by simp;omega),Below.heap_alloc _ _ _ hk]
  ·rw [hg.block k (by simp;omega) (by simp),Below.heap_alloc _ _ _ hk]
 have m:W.grownBy w6 none:=by
  rcases key with ⟨_,hg⟩ | ⟨_,hg⟩<;>
  exact⟨hg.os.trans h.base.os,hg.tape.trans h.base.tape,hg.output.trans h.base.output,Nat.le_trans h.base.size y,fun k hk _=>by
    rw [d k (Nat.lt_of_lt_of_le hk h.base.size) (by omega)];exact h.base.block k hk (by simp)⟩
 refine⟨h.rd.step (d b (by omega) (by omega)),by rw [d n5 j (by omega)];exact h.art,by rw [d n2 x (by omega)];exact h.res,h.thr.upto (fun k _ hk=>d k (by omega) hk),?_,m,t,f,v,A,u,by omega⟩;have r:(c++[i]).length=c.length+1:=by simp
 have q:jk (c++[i])=jk c++[.int .i64 i.op,.int .i64 i.a,.int .i64 i.b,.int .i64 i.n]:=by rw [pw];rfl
 rw [r,q];exact e
theorem GuB.pushT(h:GuB W w b n5 n2 L B s l bad tv p lv c){o:Obj}{rows:List Value}{g6 c6 N:Nat}(E:N=p.length)(x:w.ownsRow L 66 1 tv N rows)
  (f:w6.ownsRow L 66 1 (.slice (some ⟨g6,0,none⟩) (N+1) c6) (N+1) (rows++[lv]))
  (key:(tv.ownBlock=some g6/\(w.alloc o).grownBy w6 (some g6))\/(g6=w.heap.size+1/\(w.alloc o).grownBy w6 none)):
  (w6.cell? ⟨n5,0,none⟩=some tv/\w6.frozen? ⟨n5,0,none⟩=false)/\GuS W (w6.setCell ⟨n5,0,none⟩ (.slice (some ⟨g6,0,none⟩) (N+1) c6)) b n5 n2 L s l bad (.slice (some ⟨g6,0,none⟩) (N+1) c6) (.slice none 0 0) (0,0,0) (p++[c]) []:=by
 subst E;obtain⟨y,n,A,F,z,r⟩:=h.ord;have u:=(Array.getElem?_eq_some_iff.1 h.art).1;have D:=(Array.getElem?_eq_some_iff.1 h.res).1;have hL6:L<=g6:=iB f g6 rfl;have m:w.heap.size<=w6.heap.size:=by
  rcases key with ⟨_,hg⟩ | ⟨_,hg⟩<;>(have:=hg.size;simp at this;omega)
 have d:∀ k,k<w.heap.size->k<L->w6.heap[k]?=w.heap[k]?:=fun k hk hne=>by
  rcases key with ⟨_,hg⟩ | ⟨_,hg⟩
  ·rw [hg.block k (by simp;omega) (by simp;omega),Below.heap_alloc _ _ _ hk]
  ·rw [hg.block k (by simp;omega) (by simp),Below.heap_alloc _ _ _ hk]
 have v:W.grownBy w6 none:=by
  rcases key with ⟨_,hg⟩ | ⟨_,hg⟩<;>
  exact⟨hg.os.trans h.base.os,hg.tape.trans h.base.tape,hg.output.trans h.base.output,Nat.le_trans h.base.size m,fun k hk _=>by
    rw [d k (Nat.lt_of_lt_of_le hk h.base.size) (by omega)];exact h.base.block k hk (by simp)⟩
 have t:(w.alloc o).grownBy w6 tv.ownBlock:=by
  rcases key with ⟨e,hg⟩ | ⟨_,hg⟩
  ·rw [e];exact hg
  ·exact⟨hg.os,hg.tape,hg.output,hg.size,fun k hk _=>hg.block k hk (by simp)⟩
 have C:ThrAt L w6.heap.size w6 (.slice (some ⟨g6,0,none⟩) (p.length+1) c6) (p++[c]):=
  ThrAt.snoc h.thr r (fun q e=>iB h.row q e) x ⟨iR h.row z,fun q e=>i6 h.row q e⟩ (ir (iu _ _)) t f m (fun q e=>i6 f q e)
 have i:w6.heap[n5]?=some (.cells #[tv,.slice none 0 0,.int .i64 0,.int .i64 0,.int .i64 0] 56 (0,0)):=by rw [d n5 u (by omega)];exact h.art
 have j:=jO w6 n5 0 (.slice (some ⟨g6,0,none⟩) (p.length+1) c6);refine⟨⟨by simp [World.cell?,i],by simp [World.frozen?,i]⟩,⟨?_,?_,?_,?_,⟨rfl,Or.inl ⟨rfl,rfl⟩⟩,iG v (by omega),y,n,A,F⟩⟩
 ·exact(h.rd.step (d b (by omega) (by omega))).step (Below.heap_setCell _ _ _ _ (by simp only;omega))
 ·rw [heap_setCell_same w6 n5 0 _ _ _ i];rfl
 ·rw [Below.heap_setCell _ _ _ _ (by simp only;omega),d n2 D (by omega)];exact h.res
 ·exact(C.step j (fun q e=>by simp only [Option.some.injEq]at e;omega)).mono j.size
end
end
section
open Go.RowKit
attribute [local go_sem] Go.World.cell?_alloc_some
theorem EQ:((Tryz.prog.info? 66).map fun i=>(i.zero,i.size,i.bytes))=some (some (.slice none 0 0),1,24):=by kernel_rfl
theorem AE(k:Nat)(p:List (List Ins))(l:List Nat):lp k p l true=(p,l,true):=by cases k<;>rfl
theorem A0(k:Nat)(c:List Ins)(l:List Nat):ll k c l true=(c,l,true):=by cases k<;>rfl
theorem mI{w:World}{g:Nat}{x0 x1 x2 x3:Value}{t:TypeId}(h:w.heap[g]?=some (.cells #[x0,x1,x2,x3] t (0,0))):w.cell? ⟨g,0,none⟩=some x0/\w.cell? ⟨g,1,none⟩=some x1/\w.cell? ⟨g,2,none⟩=some x2/\w.cell? ⟨g,3,none⟩=some x3/\∀ o,w.frozen? ⟨g,o,none⟩=false:=by
 simp [World.cell?,World.frozen?,h]
theorem DY(s:ByteArray)(w:World)(Q:s.size<=9223372036854775000):
  Calls Tryz.prog 71 #[.string s] w fun e w'=>∃ tv sv,e= .returned (.tuple #[.agg #[tv,sv,.int .i64 (j9 (byt s)).1.ver.1,.int .i64 (j9 (byt s)).1.ver.2.1,.int .i64 (j9 (byt s)).1.ver.2.2],.bool (j9 (byt s)).2])/\w.grownBy w' none/\ThrAt w.heap.size w'.heap.size w' tv (j9 (byt s)).1.prog/\w'.ownsRow w.heap.size 3 1 sv (j9 (byt s)).1.sch.length (iM (j9 (byt s)).1.sch):=by
 obtain⟨i0,bM,bW,bG,bO⟩:=info_parts vX;obtain⟨i1,b0,bK,bL,ax⟩:=info_parts EQ;have ac:∀ q,pt q= .pointer (some ⟨q,0,none⟩):=fun _=>rfl
 have X:Hid (j9 (byt s)=(⟨(lp (iQ 4 ((byt s).drop 3)).1 [] (iQ 4 ((byt s).drop 3)).2.1 (iQ 4 ((byt s).drop 3)).2.2).1,(lA (lp (iQ 4 ((byt s).drop 3)).1 [] (iQ 4 ((byt s).drop 3)).2.1 (iQ 4 ((byt s).drop 3)).2.2).2.1 (lp (iQ 4 ((byt s).drop 3)).1 [] (iQ 4 ((byt s).drop 3)).2.1 (iQ 4 ((byt s).drop 3)).2.2).2.2).1,(lA (lp (iQ 4 ((byt s).drop 3)).1 [] (iQ 4 ((byt s).drop 3)).2.1 (iQ 4 ((byt s).drop 3)).2.2).2.1 (lp (iQ 4 ((byt s).drop 3)).1 [] (iQ 4 ((byt s).drop 3)).2.1 (iQ 4 ((byt s).drop 3)).2.2).2.2).2.1⟩,(lA (lp (iQ 4 ((byt s).drop 3)).1 [] (iQ 4 ((byt s).drop 3)).2.1 (iQ 4 ((byt s).drop 3)).2.2).2.1 (lp (iQ 4 ((byt s).drop 3)).1 [] (iQ 4 ((byt s).drop 3)).2.1 (iQ 4 ((byt s).drop 3)).2.2).2.2).2.2)):=rfl;generalize j9 (byt s)=GG at*;obtain⟨l0,aY⟩:∃ l,l=(byt s).drop 3:=⟨_,rfl⟩;rw [<-aY]at X;go_enter Tryz.func71,Tryz.ntmps71
 go_upto_region 3 with fail
 obtain⟨w1,aO⟩:∃ w1,w1=((w.alloc (.cells #[.slice none 0 0,.slice none 0 0,.int .i64 0,.int .i64 0,.int .i64 0] 56)).alloc (.cells #[.string s,.int .i64 3,.bool false] 180)).alloc (.cells #[.slice none 0 0,.slice none 0 0,.int .i64 0,.int .i64 0,.int .i64 0] 56):=⟨_,rfl⟩;rw [<-aO];have HS:Hid (GuS w w1 (w.heap.size+1) (w.heap.size+1+1) w.heap.size (w.heap.size+1+1+1) s l0 false (.slice none 0 0) (.slice none 0 0) (0,0,0) [] []):=by
  unfold Hid;rw [aO];have e0:=heap_alloc_new w (.cells #[.slice none 0 0,.slice none 0 0,.int .i64 0,.int .i64 0,.int .i64 0] 56);have W:=heap_alloc_new (w.alloc (.cells #[.slice none 0 0,.slice none 0 0,.int .i64 0,.int .i64 0,.int .i64 0] 56)) (.cells #[.string s,.int .i64 3,.bool false] 180);have Z:=heap_alloc_new ((w.alloc (.cells #[.slice none 0 0,.slice none 0 0,.int .i64 0,.int .i64 0,.int .i64 0] 56)).alloc (.cells #[.string s,.int .i64 3,.bool false] 180)) (.cells #[.slice none 0 0,.slice none 0 0,.int .i64 0,.int .i64 0,.int .i64 0] 56);simp only [World.size_alloc]at W Z;refine⟨⟨3,?_,aY,by omega⟩,Z,?_,⟨[],⟨rfl,Or.inl ⟨rfl,rfl⟩⟩,fun h e=>(by cases e),fun j hj=>absurd hj (Nat.not_lt_zero j),Apt.nil⟩,⟨rfl,Or.inl ⟨rfl,rfl⟩⟩,ir (ir (ir (iu _ _))),by omega,by omega,by omega,by omega⟩
  ·rw [Below.heap_alloc _ _ _ (by simp)];exact W
  ·rw [Below.heap_alloc _ _ _ (by simp;omega),Below.heap_alloc _ _ _ (by simp)];exact e0
 clear aO aY;have b5:Hid (w.heap.size<=w.heap.size+1+1+1):=by unfold Hid;omega
 generalize hb:w.heap.size+1=b at*;generalize cO:b+1=n5 at*;generalize hL:n5+1=L at*;generalize bS:w.heap.size=n2 at*;have R:=il bS;clear hb cO hL bS;have HK:=il (nl w1 b s l0 false 4 (by omega) HS.out.rd Q);rw [ac]at HK;have a7:=ky 4 l0;generalize iQ 4 l0=x at*;obtain⟨k0,l1,b1⟩:=x;simp only [Bool.false_or]at a7 HK X;generalize hP:lp k0 [] l1 b1=PP at*;have HP:=il hP;clear hP;have qk0:(k0:Int)<=4:=by omega
 go_wp2_with (go_at_call 98;refine HK.out.mono ?_;clear HK;rintro e w2 ⟨rfl,C,u⟩;have H1:=il (HS.out.call C u);clear C u)
 go_loopw [6] (fun kv w'=>∃ (k:Nat) (tv:Value) (p:List (List Ins)) (d:List Nat) (o:Bool),k<=4/\kv= .int .i64 k/\Hid (p.length+k<=4)/\Hid (GuS w w' b n5 n2 L s d o tv (.slice none 0 0) (0,0,0) p []/\lp k p d o=PP)) (fun kv _=>(intOf kv).toNat)
 case atStart=>exact⟨k0,_,[],l1,b1,a7,rfl,il (by simpa using a7),⟨H1.out,HP.out⟩⟩
 case round=>
  clear H1 HP HS;obtain⟨k,tv,p,d,o,hk,rfl,b4,HI⟩:=hrel;obtain⟨w3,bm⟩:∃ w3,w3=wr:=⟨_,rfl⟩;rw [<-bm]at HI ⊢;clear bm;have kb:=HI.out.1.rd.bad;by_cases aM:0<k/\o=false
  ·obtain⟨bY,rfl⟩:=aM;obtain⟨k,rfl⟩:∃ j,k=j+1:=⟨k - 1,by omega⟩;have t0:(0:Int)<((k+1:Nat):Int):=by omega
   have av:=il HI.out.1.begin;have bC:Hid (lp (k+1) p d false=lp k (p++[(ll (iQ 16 d).1 [] (iQ 16 d).2.1 (iQ 16 d).2.2).1]) (ll (iQ 16 d).1 [] (iQ 16 d).2.1 (iQ 16 d).2.2).2.1 (ll (iQ 16 d).1 [] (iQ 16 d).2.1 (iQ 16 d).2.2).2.2):=rfl;go_upto_region 7 with fail
   obtain⟨w4,b7⟩:∃ w4,w4=w3.alloc (.cells #[] 65):=⟨_,rfl⟩;rw [<-b7]at av ⊢;clear b7 kb;generalize hB:w3.heap.size=B at*;clear hB;have HN:=il (nl w4 b s d false 16 (by omega) av.out.rd Q);rw [ac]at HN;have aL:=ky 16 d;generalize iQ 16 d=x at*;obtain⟨n,l2,b2⟩:=x;simp only [Bool.false_or]at aL HN bC;generalize hC:ll n [] l2 b2=CC at*;have HC:=il hC;clear hC;have qn:(n:Int)<=16:=by omega
   go_wp2_with (go_at_call 98;refine HN.out.mono ?_;clear HN;rintro e w5 ⟨rfl,C,u⟩;have H5:=il (av.out.call C u);clear C u)
   go_loopw [7,8] (fun lv mv w'=>∃ (m:Nat) (c:List Ins) (r:List Nat) (M:Bool),m<=16/\mv= .int .i64 m/\Hid (c.length+m<=16)/\Hid (GuB w w' b n5 n2 L B s r M tv p lv c/\ll m c r M=CC)) (fun _ mv _=>(intOf mv).toNat)
   case atStart=>exact⟨n,[],l2,b2,aL,rfl,il (by simpa using aL),⟨H5.out,HC.out⟩⟩
   case round=>
    clear H5 HC av;obtain⟨m,c,r,M,hm,rfl,an,E⟩:=hrel;obtain⟨w6,bj⟩:∃ w6,w6=wr:=⟨_,rfl⟩;rw [<-bj]at E ⊢;clear bj;have kb:=E.out.1.rd.bad;have aj:=E.out.1.row;obtain⟨P,y2,N,rfl⟩:=iy aj;have ax:=iC aj;subst ax;by_cases aP:0<m/\M=false
    ·obtain⟨bQ,rfl⟩:=aP;obtain⟨m,rfl⟩:∃ j,m=j+1:=⟨m - 1,by omega⟩;have t1:(0:Int)<((m+1:Nat):Int):=by omega
     have bi:Hid (ll (m+1) c r false=ll m (c++[(qH r).1]) (qH r).2.1 (qH r).2.2):=rfl;have ab:Hid (qH r=(⟨((iQ 11 r).1:Nat),((iQ 3 (iQ 11 r).2.1).1:Nat),((iQ 3 (iQ 3 (iQ 11 r).2.1).2.1).1:Nat),zag (mp 10 1 0 (iQ 3 (iQ 3 (iQ 11 r).2.1).2.1).2.1).1⟩,(mp 10 1 0 (iQ 3 (iQ 3 (iQ 11 r).2.1).2.1).2.1).2.1,(iQ 11 r).2.2 || (iQ 3 (iQ 11 r).2.1).2.2 || (iQ 3 (iQ 3 (iQ 11 r).2.1).2.1).2.2 || (mp 10 1 0 (iQ 3 (iQ 3 (iQ 11 r).2.1).2.1).2.1).2.2)):=rfl;go_upto_region 11 with fail
     obtain⟨w7,aq⟩:∃ w7,w7=w6.alloc (.cells #[.int .i64 0,.int .i64 0,.int .i64 0,.int .i64 0] 65):=⟨_,rfl⟩;have bP:Hid (GuB w w7 b n5 n2 L B s r false tv p (.slice P c.length N) c):=by unfold Hid;rw [aq];exact E.out.1.made _
     have bg:Hid (w7.heap[w6.heap.size]?=some (.cells #[.int .i64 0,.int .i64 0,.int .i64 0,.int .i64 0] 65 (0,0))):=by unfold Hid;rw [aq];exact heap_alloc_new w6 _
     have h9:B<=w6.heap.size:=E.out.1.ord.2.2.2.2.2;have ah:(Value.slice P c.length N).ownBlock≠some w6.heap.size:=fun e=>by have:=i6 aj _ e;omega
     have aA:w6.heap.size≠b:=by have:=E.out.1.ord;omega
     rw [<-aq];clear aq aj kb;generalize w6.heap.size=n9 at*;have aE:=il (nl w7 b s r false 11 (by omega) bP.out.rd Q);rw [ac]at aE;have dr:=ky 11 r;generalize iQ 11 r=x at*;obtain⟨y,l4,bo⟩:=x;simp only [Bool.false_or]at aE ab dr;have qv1:(y:Int)<=11:=by omega
     go_upto_region 12 with (go_at_call 98;refine aE.out.mono ?_;clear aE;rintro e v1 ⟨rfl,C,u⟩;have hc:=bP.out.call C u;have A:v1.heap[n9]?=some (.cells #[.int .i64 0,.int .i64 0,.int .i64 0,.int .i64 0] 65 (0,0)):=(by rw [u.block n9 (Array.getElem?_eq_some_iff.1 bg.out).1 (by simp only [ne_eq,Option.some.injEq];exact aA)];exact bg.out);have H:=(mI A).1;have I:=(mI A).2.2.2.2 0;have bk:=il hc;have bv:=il A;clear C u hc A)
     have G:=bk.out.put h9 ah 0 (.int .i64 (y:Int));have F:=heap_setCell_same v1 n9 0 _ _ (.int .i64 (y:Int)) bv.out;generalize v1.setCell ⟨n9,0,none⟩ (.int .i64 (y:Int))=x1 at*;have bE:=il G;have b9:Hid (x1.heap[n9]?=some (.cells #[.int .i64 (y:Int),.int .i64 0,.int .i64 0,.int .i64 0] 65 (0,0))):=F;clear G F H I bk bv;have R:=il (nl x1 b s l4 bo 3 (by omega) bE.out.rd Q);rw [ac]at R;have dc:=ky 3 l4;generalize iQ 3 l4=x at*;obtain⟨z,l5,ba⟩:=x;simp only at R ab dc;have qv2:(z:Int)<=3:=by omega
     go_upto_region 13 with (go_at_call 98;refine R.out.mono ?_;clear R;rintro e v2 ⟨rfl,C,u⟩;have hc:=bE.out.call C u;have A:v2.heap[n9]?=some (.cells #[.int .i64 (y:Int),.int .i64 0,.int .i64 0,.int .i64 0] 65 (0,0)):=(by rw [u.block n9 (Array.getElem?_eq_some_iff.1 b9.out).1 (by simp only [ne_eq,Option.some.injEq];exact aA)];exact b9.out);have H:=(mI A).2.1;have I:=(mI A).2.2.2.2 1;have bB:=il hc;have bq:=il A;clear C u hc A)
     have G:=bB.out.put h9 ah 1 (.int .i64 (z:Int));have F:=heap_setCell_same v2 n9 1 _ _ (.int .i64 (z:Int)) bq.out;generalize v2.setCell ⟨n9,1,none⟩ (.int .i64 (z:Int))=x2 at*;have bh:=il G;have bZ:Hid (x2.heap[n9]?=some (.cells #[.int .i64 (y:Int),.int .i64 (z:Int),.int .i64 0,.int .i64 0] 65 (0,0))):=F;clear G F H I bB bq;have aF:=il (nl x2 b s l5 (bo || ba) 3 (by omega) bh.out.rd Q);rw [ac]at aF;have dV:=ky 3 l5;generalize iQ 3 l5=x at*;obtain⟨D,l6,bb⟩:=x;simp only at aF ab dV;have qv3:(D:Int)<=3:=by omega
     go_upto_region 14 with (go_at_call 98;refine aF.out.mono ?_;clear aF;rintro e v3 ⟨rfl,C,u⟩;have hc:=bh.out.call C u;have A:v3.heap[n9]?=some (.cells #[.int .i64 (y:Int),.int .i64 (z:Int),.int .i64 0,.int .i64 0] 65 (0,0)):=(by rw [u.block n9 (Array.getElem?_eq_some_iff.1 bZ.out).1 (by simp only [ne_eq,Option.some.injEq];exact aA)];exact bZ.out);have H:=(mI A).2.2.1;have I:=(mI A).2.2.2.2 2;have bF:=il hc;have ca:=il A;clear C u hc A)
     have G:=bF.out.put h9 ah 2 (.int .i64 (D:Int));have F:=heap_setCell_same v3 n9 2 _ _ (.int .i64 (D:Int)) ca.out;generalize v3.setCell ⟨n9,2,none⟩ (.int .i64 (D:Int))=x3 at*;have bz:=il G;have b3:Hid (x3.heap[n9]?=some (.cells #[.int .i64 (y:Int),.int .i64 (z:Int),.int .i64 (D:Int),.int .i64 0] 65 (0,0))):=F;clear G F H I bF ca;have aG:=il (E8 x3 b s l6 (bo || ba || bb) bz.out.rd Q);rw [ac]at aG;have dL:=rX 10 1 0 l6;generalize mp 10 1 0 l6=x at*;obtain⟨f,l7,bn⟩:=x;simp only at aG ab dL;have qn64:(f:Int)<18446744073709551616:=by omega
     go_upto_region 15 with (go_at_call 99;refine aG.out.mono ?_;clear aG;rintro e v4 ⟨rfl,C,u⟩;have hc:=bz.out.call C u;have A:v4.heap[n9]?=some (.cells #[.int .i64 (y:Int),.int .i64 (z:Int),.int .i64 (D:Int),.int .i64 0] 65 (0,0)):=(by rw [u.block n9 (Array.getElem?_eq_some_iff.1 b3.out).1 (by simp only [ne_eq,Option.some.injEq];exact aA)];exact b3.out);have bX:=il hc;have aN:=il A;clear C u hc A)
     obtain⟨_,_,_,H,p4⟩:=mI aN.out;have I:=p4 3;clear p4;go_upto_region 16 with fail
     have G:=bX.out.put h9 ah 3 (.int .i64 ((f:Int) / 2));have F:=heap_setCell_same v4 n9 3 _ _ (.int .i64 ((f:Int) / 2)) aN.out;generalize v4.setCell ⟨n9,3,none⟩ (.int .i64 ((f:Int) / 2))=x4 at*;have aD:=il G;have aI:Hid (x4.heap[n9]?=some (.cells #[.int .i64 (y:Int),.int .i64 (z:Int),.int .i64 (D:Int),.int .i64 ((f:Int) / 2)] 65 (0,0))):=F;clear G F H I bX aN;by_cases ho:f % 2=1
     ·have hl:Int.tmod (f:Int) 2=1:=by rw [Int.tmod_eq_emod_of_nonneg (by omega)];omega
      have dF:(f:Int) % 2=1:=by omega
      have aK:Hid (zag f= -((f:Int) / 2) - 1):=by unfold Hid zag;rw [if_pos ho];omega
      clear ho;obtain⟨_,_,_,H,p4⟩:=mI aI.out;have I:=p4 3;clear p4;go_upto_region 18 with fail
      have G:=aD.out.put h9 ah 3 (.int .i64 (-((f:Int) / 2) - 1));have F:=heap_setCell_same x4 n9 3 _ _ (.int .i64 (-((f:Int) / 2) - 1)) aI.out;generalize x4.setCell ⟨n9,3,none⟩ (.int .i64 (-((f:Int) / 2) - 1))=x5 at*;have aW:=il G;have cx:Hid (x5.heap[n9]?=some (.cells #[.int .i64 (y:Int),.int .i64 (z:Int),.int .i64 (D:Int),.int .i64 (-((f:Int) / 2) - 1)] 65 (0,0))):=F;clear G F H I;obtain⟨r0,r1,r2,r3,_⟩:=mI cx.out;have aJ:=il aW.out.row;have bx:B<=x5.heap.size:=aW.out.ord.2.2.2.2.2;have hcl:c.length<=15:=by have:=an.out;omega
      have Y:c.length+1<=maxLen:=by unfold maxLen;omega
      have aV:Hid (ll m (c++[⟨(y:Int),(z:Int),(D:Int), -((f:Int) / 2) - 1⟩]) l7 (bo || ba || bb || bn)=CC):=by
       have O:=E.out.2;rw [bi.out,ab.out,aK.out]at O;exact O
      go_wp2_with (at_builtin;go_must (refine iH rfl _ _ _ rfl B 65 i0 _ 4 32 Tryz.underlying66 bM bW bG bO rfl (by omega) (.slice P c.length N) c.length (jk c) rfl (iK aJ.out) ⟨x5.heap.size,0,none⟩ 1 1 [.int .i64 (y:Int),.int .i64 (z:Int),.int .i64 (D:Int),.int .i64 (-((f:Int) / 2) - 1)] rfl rfl (World.news_of_block (cs:= #[.int .i64 (y:Int),.int .i64 (z:Int),.int .i64 (D:Int),.int .i64 (-((f:Int) / 2) - 1)]) (t:=65) (fr:=(0,0)) (heap_alloc_new x5 _)) (by simp [Value.oneCell']) (by omega) Y (by omega) (by simp;omega) (x5.heap.size+1) (by simp) ?_);intro g8 aR bc J K S;have U:=il (aW.out.push (i:=⟨(y:Int),(z:Int),(D:Int), -((f:Int) / 2) - 1⟩) rfl J K);clear J K S)
      go_roundw
      case rel=>exact⟨m,_,l7,_,by omega,by go_num,il (by have:=an.out;simp;omega),⟨U.out,aV.out⟩⟩
      case measure=>simp [intOf]<;>omega
     ·have hl:Int.tmod (f:Int) 2=0:=by rw [Int.tmod_eq_emod_of_nonneg (by omega)];omega
      have dF:(f:Int) % 2=0:=by omega
      have aK:Hid (zag f=(f:Int) / 2):=by unfold Hid zag;rw [if_neg ho];omega
      clear ho;go_upto_region 18 with fail
      obtain⟨r0,r1,r2,r3,_⟩:=mI aI.out;have aJ:=il aD.out.row;have bx:B<=x4.heap.size:=aD.out.ord.2.2.2.2.2;have hcl:c.length<=15:=by have:=an.out;omega
      have Y:c.length+1<=maxLen:=by unfold maxLen;omega
      have aV:Hid (ll m (c++[⟨(y:Int),(z:Int),(D:Int),(f:Int) / 2⟩]) l7 (bo || ba || bb || bn)=CC):=by
       have O:=E.out.2;rw [bi.out,ab.out,aK.out]at O;exact O
      go_wp2_with (at_builtin;go_must (refine iH rfl _ _ _ rfl B 65 i0 _ 4 32 Tryz.underlying66 bM bW bG bO rfl (by omega) (.slice P c.length N) c.length (jk c) rfl (iK aJ.out) ⟨x4.heap.size,0,none⟩ 1 1 [.int .i64 (y:Int),.int .i64 (z:Int),.int .i64 (D:Int),.int .i64 ((f:Int) / 2)] rfl rfl (World.news_of_block (cs:= #[.int .i64 (y:Int),.int .i64 (z:Int),.int .i64 (D:Int),.int .i64 ((f:Int) / 2)]) (t:=65) (fr:=(0,0)) (heap_alloc_new x4 _)) (by simp [Value.oneCell']) (by omega) Y (by omega) (by simp;omega) (x4.heap.size+1) (by simp) ?_);intro g8 aR bc J K S;have U:=il (aD.out.push (i:=⟨(y:Int),(z:Int),(D:Int),(f:Int) / 2⟩) rfl J K);clear J K S)
      go_roundw
      case rel=>exact⟨m,_,l7,_,by omega,by go_num,il (by have:=an.out;simp;omega),⟨U.out,aV.out⟩⟩
      case measure=>simp [intOf]<;>omega
    ·have cC:Hid (CC=(c,r,M)):=by
      unfold Hid;rw [<-E.out.2];by_cases e:m=0
      ·rw [e];rfl
      ·have:M=true:=by
        cases M with
        | true=>rfl
        | false=>exact absurd ⟨by omega,rfl⟩ aP
       rw [this];exact A0 _ _ _
     have bV:Hid (lp k (p++[c]) r M=PP):=by
      have O:=HI.out.2;rw [bC.out,cC.out]at O;exact O
     have bw:Hid ((p++[c]).length+k<=4):=by have:=b4.out;unfold Hid;simp;omega
     obtain⟨rows,az,cy,cQ⟩:=E.out.1.thr;obtain⟨q1,q2,q3,rfl⟩:=iy az;have ei:=iC az;subst ei;have ap:=il az;have a0:w6.cell? ⟨n5,0,none⟩=some (.slice q1 p.length q3):=by simp [World.cell?,E.out.1.art]
     have bx:L<=w6.heap.size:=by have:=E.out.1.ord;omega
     have hp4:p.length<=4:=by have:=b4.out;omega
     have Y:p.length+1<=maxLen:=by unfold maxLen;omega
     clear aj az cy cQ;by_cases bQ:0<m
     ·have aX:M=true:=by
       cases M with
       | true=>rfl
       | false=>exact absurd ⟨bQ,rfl⟩ aP
      subst aX;have t1:(0:Int)<(m:Int):=by omega
      go_wp2_with (at_builtin;go_must (refine iH rfl _ _ _ rfl L 66 i1 _ 1 24 Tryz.underlying35 b0 bK bL ax rfl (by omega) (.slice q1 p.length q3) p.length rows rfl (iK ap.out) ⟨w6.heap.size,0,none⟩ 1 1 [.slice P c.length N] rfl rfl (World.news_of_block (cs:= #[.slice P c.length N]) (t:=66) (fr:=(0,0)) (heap_alloc_new w6 _)) (by simp [Value.oneCell']) (by omega) Y (by omega) (by simp;omega) (w6.heap.size+1) (by simp) ?_);intro g8 aR bc J K S;obtain⟨⟨H,I⟩,al⟩:=E.out.1.pushT rfl ap.out J K;have U:=il al;clear al J K S)
      go_roundw
      case rel=>exact⟨k,_,p++[c],r,_,by omega,by go_num,bw,⟨U.out,bV.out⟩⟩
      case measure=>simp [intOf]<;>omega
     ·skip
      have t1:(m:Int)<=0:=by omega
      go_wp2_with (at_builtin;go_must (refine iH rfl _ _ _ rfl L 66 i1 _ 1 24 Tryz.underlying35 b0 bK bL ax rfl (by omega) (.slice q1 p.length q3) p.length rows rfl (iK ap.out) ⟨w6.heap.size,0,none⟩ 1 1 [.slice P c.length N] rfl rfl (World.news_of_block (cs:= #[.slice P c.length N]) (t:=66) (fr:=(0,0)) (heap_alloc_new w6 _)) (by simp [Value.oneCell']) (by omega) Y (by omega) (by simp;omega) (w6.heap.size+1) (by simp) ?_);intro g8 aR bc J K S;obtain⟨⟨H,I⟩,al⟩:=E.out.1.pushT rfl ap.out J K;have U:=il al;clear al J K S)
      go_roundw
      case rel=>exact⟨k,_,p++[c],r,_,by omega,by go_num,bw,⟨U.out,bV.out⟩⟩
      case measure=>simp [intOf]<;>omega
  ·have bA:Hid (PP=(p,d,o)):=by
    unfold Hid;rw [<-HI.out.2];by_cases e:k=0
    ·rw [e];rfl
    ·have:o=true:=by
      cases o with
      | true=>rfl
      | false=>exact absurd ⟨by omega,rfl⟩ aM
     rw [this];exact AE _ _ _
   rw [bA.out]at X;simp only at X;have bu:Hid (GuS w w3 b n5 n2 L s d o tv (.slice none 0 0) (0,0,0) p []):=HI.out.1;have bR:Hid (∀ (w':World) (sv:Value),w'.heap[n2]?=some (.cells #[tv,sv,.int .i64 (lA d o).2.1.1,.int .i64 (lA d o).2.1.2.1,.int .i64 (lA d o).2.1.2.2] 56 (0,0))->ThrAt L w'.heap.size w' tv p->w'.ownsRow L 3 1 sv (lA d o).1.length (iM (lA d o).1)->w.grownBy w' none->∀ a,a=Ending.returned (.tuple #[.agg #[tv,sv,.int .i64 (lA d o).2.1.1,.int .i64 (lA d o).2.1.2.1,.int .i64 (lA d o).2.1.2.2],.bool (lA d o).2.2])->∃ tv sv,a= .returned (.tuple #[.agg #[tv,sv,.int .i64 GG.1.ver.1,.int .i64 GG.1.ver.2.1,.int .i64 GG.1.ver.2.2],.bool GG.2])/\w.grownBy w' none/\ThrAt w.heap.size w'.heap.size w' tv GG.1.prog/\w'.ownsRow w.heap.size 3 1 sv GG.1.sch.length (iM GG.1.sch)):=by
    intro w' sv g1 g2 T V a ha;rw [X.out];exact⟨tv,sv,ha,V,g2.low (by rw [R.out];exact b5.out),iR T (by rw [R.out];exact b5.out)⟩
   clear X bA;by_cases bY:0<k
   ·have aX:o=true:=by
     cases o with
     | true=>rfl
     | false=>exact absurd ⟨bY,rfl⟩ aM
    subst aX;have t1:(0:Int)<(k:Int):=by omega
    go_upto_if 28 with fail
    refine wp_cond_false rfl ?_;refine wp_exit ?_;refine ‹∀ a w,Code.wp Tryz.prog _ _ a w->_› _ _ ?_;refine CU bu Q ?_ ?_
    ·exact fun _ _ _ _ _ h=>h
    intro z0 z1 z4 z5 z6 z7 z8 z9 cc ds db dC dt cG dU dp dW eu cE c7 ey ea ez dP df el cD cR cl cW cw d9 cJ d5 cn dj dI dY cY en c2 cg em cN cK dM cA dd eq dJ ce eh cT c6 dl dy dN cU eC cZ dT eE dG dH et c9 ee ek dQ dK cV dR cj dk dD es ew dA cr co d1 dg ex du ec cm dm cX cu cf c4 d2 er ef ep eB ch dv cF c5 cz dw c3 c8 d6 dO di cp dB cH cq cL cM da dn dZ dh dq dE d3 eb eo ej d4 cb d7 dX dz eD cP d0 w' sv g1 g2 T V;have e0:w'.cell? ⟨n2,0,none⟩=some tv:=by simp only [World.cell?,g1];rfl
    have W:w'.cell? ⟨n2,1,none⟩=some sv:=by simp only [World.cell?,g1];rfl
    have Z:w'.cell? ⟨n2,2,none⟩=some (.int .i64 (lA d true).2.1.1):=by simp only [World.cell?,g1];rfl
    have e3:w'.cell? ⟨n2,3,none⟩=some (.int .i64 (lA d true).2.1.2.1):=by simp only [World.cell?,g1];rfl
    have e4:w'.cell? ⟨n2,4,none⟩=some (.int .i64 (lA d true).2.1.2.2):=by simp only [World.cell?,g1];rfl
    have HF:=il (bR.out w' sv g1 g2 T V _ rfl);clear g1 g2 T V;refine bodyPost_ret (v:= .tuple #[.agg #[tv,sv,.int .i64 (lA d true).2.1.1,.int .i64 (lA d true).2.1.2.1,.int .i64 (lA d true).2.1.2.2],.bool (lA d true).2.2]) ?_ rfl HF.out;simp [results,Tryz.results71,go_sem,e0,W,Z,e3,e4]
   ·have t1:(k:Int)<=0:=by omega
    go_upto_if 28 with fail
    refine wp_cond_false rfl ?_;refine wp_exit ?_;refine ‹∀ a w,Code.wp Tryz.prog _ _ a w->_› _ _ ?_;refine CU bu Q ?_ ?_
    ·exact fun _ _ _ _ _ h=>h
    intro z0 z1 z4 z5 z6 z7 z8 z9 cc ds db dC dt cG dU dp dW eu cE c7 ey ea ez dP df el cD cR cl cW cw d9 cJ d5 cn dj dI dY cY en c2 cg em cN cK dM cA dd eq dJ ce eh cT c6 dl dy dN cU eC cZ dT eE dG dH et c9 ee ek dQ dK cV dR cj dk dD es ew dA cr co d1 dg ex du ec cm dm cX cu cf c4 d2 er ef ep eB ch dv cF c5 cz dw c3 c8 d6 dO di cp dB cH cq cL cM da dn dZ dh dq dE d3 eb eo ej d4 cb d7 dX dz eD cP d0 w' sv g1 g2 T V;have e0:w'.cell? ⟨n2,0,none⟩=some tv:=by simp only [World.cell?,g1];rfl
    have W:w'.cell? ⟨n2,1,none⟩=some sv:=by simp only [World.cell?,g1];rfl
    have Z:w'.cell? ⟨n2,2,none⟩=some (.int .i64 (lA d o).2.1.1):=by simp only [World.cell?,g1];rfl
    have e3:w'.cell? ⟨n2,3,none⟩=some (.int .i64 (lA d o).2.1.2.1):=by simp only [World.cell?,g1];rfl
    have e4:w'.cell? ⟨n2,4,none⟩=some (.int .i64 (lA d o).2.1.2.2):=by simp only [World.cell?,g1];rfl
    have HF:=il (bR.out w' sv g1 g2 T V _ rfl);clear g1 g2 T V;refine bodyPost_ret (v:= .tuple #[.agg #[tv,sv,.int .i64 (lA d o).2.1.1,.int .i64 (lA d o).2.1.2.1,.int .i64 (lA d o).2.1.2.2],.bool (lA d o).2.2]) ?_ rfl HF.out;simp [results,Tryz.results71,go_sem,e0,W,Z,e3,e4]
end
end Go.Proofs.YtklenjmfalljgabGreatDoor
