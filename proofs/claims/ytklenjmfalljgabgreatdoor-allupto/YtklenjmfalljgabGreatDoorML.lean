/- The texts Rdo Rgg Rgi Rgj Prn2 RefA RefB RefC RefD. -/
import Derived.Test.YtklenjmfalljgabGreatDoorMK
import Derived.Test.YtklenjmfalljgabGreatDoorShelf
import Derived.Lib.QuietBelow
import Derived.Lib.AppendIntMem
namespace Go.Proofs.YtklenjmfalljgabGreatDoor
set_option maxRecDepth 100000
set_option maxHeartbeats 8000000
section
open Go.RowKit
attribute [local go_sem] Go.World.cell?_alloc_some
theorem pB(w:World)(ba:Nat)(a0 a1 a2 a3 a4:Value)(hA:w.heap[ba]?=some(.cells #[a0,a1,a2,a3,a4]56(0,0)))(b0 b1 b2 b3 b4:Value):
  let w':=((((w.setCell⟨ba,0,none⟩b0).setCell⟨ba,1,none⟩b1).setCell⟨ba,2,none⟩b2).setCell⟨ba,3,none⟩b3).setCell⟨ba,4,none⟩b4
  w'.cell?⟨ba,0,none⟩=some b0/\w'.cell?⟨ba,1,none⟩=some b1/\w'.cell?⟨ba,2,none⟩=some b2/\w'.cell?⟨ba,3,none⟩=some b3/\w'.cell?⟨ba,4,none⟩=some b4/\w.grownBy w'(some ba):=by
 have h1:=heap_setCell_same w ba 0 _ _ b0 hA;have h2:=heap_setCell_same _ ba 1 _ _ b1 h1;have h3:=heap_setCell_same _ ba 2 _ _ b2 h2;have h4:=heap_setCell_same _ ba 3 _ _ b3 h3;have h5:=heap_setCell_same _ ba 4 _ _ b4 h4;refine⟨?_, ?_, ?_, ?_, ?_,ic(ic(ic(ic iS iS)iS)iS)iS⟩
 ·simp [World.cell?,h5]
 ·simp [World.cell?,h5]
 ·simp [World.cell?,h5]
 ·simp [World.cell?,h5]
 ·simp [World.cell?,h5]
theorem DL(s:ByteArray)(w:World)(af:ShpAt w)(hs:s.size<=9223372036854775806):
  Calls Tryz.prog 41 #[.string s]w(DecS w(w.heap.size+6)s):=by
 have al:=hZ af;clear af;go_enter Tryz.func41,Tryz.ntmps41
 go_wp2_with fail
 have ab:w.grownBy(w.alloc(.cells #[.slice none 0 0, .slice none 0 0, .int .i64 0, .int .i64 0, .int .i64 0]56))none:=ij(il _ _);have ac:=heap_alloc_new w(.cells #[.slice none 0 0, .slice none 0 0, .int .i64 0, .int .i64 0, .int .i64 0]56);have aj:(w.alloc(.cells #[.slice none 0 0, .slice none 0 0, .int .i64 0, .int .i64 0, .int .i64 0]56)).heap.size=w.heap.size+1:=by simp
 generalize w.alloc(.cells #[.slice none 0 0, .slice none 0 0, .int .i64 0, .int .i64 0, .int .i64 0]56)=w1 at ab ac aj ⊢;have ae:=hZ(F3 s w1(ShpAt.pres al.out(ie ab))hs);have HL:Hid(w1.heap.size+5=w.heap.size+6):=by unfold Hid;omega
 rw [HL.out]at ae;have ak:=hZ ab;refine ae.out.mono ?_;rintro e w2⟨ad,hr⟩;have aa:w2.heap[w.heap.size]?=some(.cells #[.slice none 0 0, .slice none 0 0, .int .i64 0, .int .i64 0, .int .i64 0]56(0,0)):=by
  rw [ad.block _(by omega)(by simp)];exact ac
 have ah:=hZ(ic ak.out ad);clear ab ac ad aj;rcases hr with⟨hr,rfl⟩ | ⟨a,tv,sv,hr,rfl,ht,ho⟩
 ·have HR:=hZ hr;have d0:w2.cell?⟨w.heap.size,0,none⟩=some(.slice none 0 0):=by simp [World.cell?,aa]
  have z0:w2.frozen?⟨w.heap.size,0,none⟩=false:=by simp [World.frozen?,aa]
  have d1:w2.cell?⟨w.heap.size,1,none⟩=some(.slice none 0 0):=by simp [World.cell?,aa]
  have z1:w2.frozen?⟨w.heap.size,1,none⟩=false:=by simp [World.frozen?,aa]
  have d2:w2.cell?⟨w.heap.size,2,none⟩=some(.int .i64 0):=by simp [World.cell?,aa]
  have z2:w2.frozen?⟨w.heap.size,2,none⟩=false:=by simp [World.frozen?,aa]
  have d3:w2.cell?⟨w.heap.size,3,none⟩=some(.int .i64 0):=by simp [World.cell?,aa]
  have z3:w2.frozen?⟨w.heap.size,3,none⟩=false:=by simp [World.frozen?,aa]
  have d4:w2.cell?⟨w.heap.size,4,none⟩=some(.int .i64 0):=by simp [World.cell?,aa]
  have z4:w2.frozen?⟨w.heap.size,4,none⟩=false:=by simp [World.frozen?,aa]
  clear hr;unfold pP;simp only;go_wp2_with fail
  have J:=pB w2 w.heap.size _ _ _ _ _ aa(.slice none 0 0)(.slice none 0 0)(.int .i64 0)(.int .i64 0)(.int .i64 0);clear d0 d1 d2 d3 d4 z0 z1 z2 z3 z4;generalize(((((w2.setCell⟨w.heap.size,0,none⟩(.slice none 0 0)).setCell⟨w.heap.size,1,none⟩(.slice none 0 0)).setCell⟨w.heap.size,2,none⟩(.int .i64 0)).setCell⟨w.heap.size,3,none⟩(.int .i64 0)).setCell⟨w.heap.size,4,none⟩(.int .i64 0))=wz at J ⊢;obtain⟨e0,e1,e2,e3,e4,hz⟩:=J;refine bodyPost_ret(v:= .tuple #[.agg #[.slice none 0 0, .slice none 0 0, .int .i64 0, .int .i64 0, .int .i64 0], .int .i64 3]) ?_ rfl ?_
  ·simp [results,Tryz.results41,go_sem,e0,e1,e2,e3,e4]
  ·exact⟨nU ah.out hz(Nat.le_refl _),Or.inl⟨HR.out,rfl⟩⟩
 ·have HR:=hZ hr;obtain⟨t1,t2,t3,rfl⟩:=iq ht.choose_spec.1;obtain⟨s1,s2,s3,rfl⟩:=iq ho;obtain⟨p,l,x1,x2,x3⟩:=a;have HT:=hZ ht;have HO:=hZ ho;have d0:w2.cell?⟨w.heap.size,0,none⟩=some(.slice none 0 0):=by simp [World.cell?,aa]
  have z0:w2.frozen?⟨w.heap.size,0,none⟩=false:=by simp [World.frozen?,aa]
  have d1:w2.cell?⟨w.heap.size,1,none⟩=some(.slice none 0 0):=by simp [World.cell?,aa]
  have z1:w2.frozen?⟨w.heap.size,1,none⟩=false:=by simp [World.frozen?,aa]
  have d2:w2.cell?⟨w.heap.size,2,none⟩=some(.int .i64 0):=by simp [World.cell?,aa]
  have z2:w2.frozen?⟨w.heap.size,2,none⟩=false:=by simp [World.frozen?,aa]
  have d3:w2.cell?⟨w.heap.size,3,none⟩=some(.int .i64 0):=by simp [World.cell?,aa]
  have z3:w2.frozen?⟨w.heap.size,3,none⟩=false:=by simp [World.frozen?,aa]
  have d4:w2.cell?⟨w.heap.size,4,none⟩=some(.int .i64 0):=by simp [World.cell?,aa]
  have z4:w2.frozen?⟨w.heap.size,4,none⟩=false:=by simp [World.frozen?,aa]
  clear hr ht ho;unfold pP;simp only at HT HO ⊢;go_wp2_with fail
  have J:=pB w2 w.heap.size _ _ _ _ _ aa(.slice t1 t2 t3)(.slice s1 s2 s3)(.int .i64 x1)(.int .i64 x2)(.int .i64 x3);have ai:=hZ(ji(g:=w.heap.size)(o:=4)(u:= .int .i64 x3)(ji(g:=w.heap.size)(o:=3)(u:= .int .i64 x2)(ji(g:=w.heap.size)(o:=2)(u:= .int .i64 x1)(ji(g:=w.heap.size)(o:=1)(u:= .slice s1 s2 s3)(ji(g:=w.heap.size)(o:=0)(u:= .slice t1 t2 t3)HT.out(by omega))(by omega))(by omega))(by omega))(by omega));have ag:=hZ(jb(g:=w.heap.size)(o:=4)(u:= .int .i64 x3)(jb(g:=w.heap.size)(o:=3)(u:= .int .i64 x2)(jb(g:=w.heap.size)(o:=2)(u:= .int .i64 x1)(jb(g:=w.heap.size)(o:=1)(u:= .slice s1 s2 s3)(jb(g:=w.heap.size)(o:=0)(u:= .slice t1 t2 t3)HO.out(by omega))(by omega))(by omega))(by omega))(by omega));clear d0 d1 d2 d3 d4 z0 z1 z2 z3 z4;generalize(((((w2.setCell⟨w.heap.size,0,none⟩(.slice t1 t2 t3)).setCell⟨w.heap.size,1,none⟩(.slice s1 s2 s3)).setCell⟨w.heap.size,2,none⟩(.int .i64 x1)).setCell⟨w.heap.size,3,none⟩(.int .i64 x2)).setCell⟨w.heap.size,4,none⟩(.int .i64 x3))=wz at J ai ag ⊢;obtain⟨e0,e1,e2,e3,e4,hz⟩:=J;refine bodyPost_ret(v:= .tuple #[.agg #[.slice t1 t2 t3, .slice s1 s2 s3, .int .i64 x1, .int .i64 x2, .int .i64 x3], .int .i64 0]) ?_ rfl ?_
  ·simp [results,Tryz.results41,go_sem,e0,e1,e2,e3,e4]
  ·exact⟨nU ah.out hz(Nat.le_refl _),Or.inr⟨_,_,_,HR.out,rfl,ai.out,ag.out⟩⟩
end
section
open Go.RowKit
attribute [local go_sem] Go.World.cell?_alloc_some
def lB(l:List Nat)(bad:Bool):List Int ×(Int × Int × Int)× Bool:=
 let k:=iM 500 l
 let s:=nT k.1 []k.2.1(bad || k.2.2)
 let a:=iM 5 s.2.1
 let b:=iM 3 a.2.1
 let c:=iM 500 b.2.1
 (s.1,(a.1,b.1,c.1), !(s.2.2 || a.2.2 || b.2.2 || c.2.2))
theorem ym(n:Nat)(t:Int)(s:List Int)(h:¬s.length<=500):nK n t s=s:=by
 cases n with
 | zero=>rfl
 | succ n=>rw [nK,if_neg h]
theorem Aw(k:Nat)(s:List Int)(l:List Nat):nT k s l true=(s,l,true):=by cases k<;>rfl
theorem FL {W w:World} {b n5 n2 L:Nat} {s:ByteArray} {l:List Nat} {bad:Bool} {tv sv:Value} {p:List(List Ins)} {sc:List Int}(HS:Hid(GuS W w b n5 n2 L s l bad tv sv(0,0,0)p sc))(hs:s.size<=9223372036854775000)
  {Q:Exit->Act->World->Prop} {c0 c1 c3 c6 c7 c8 c9 dx d0 bV dR b0 cQ el en d1 ds dv eR cI cq co ef cD eh cJ eX d5 dP eA cy eD eC dt c5 dJ dC ek dn cH eS d2 cW ep cm d3 cn dF cv b6 dL eO cT ej ch dH eP eK dM eW dB dd d7 dO ci ei et cV eL cX dl dr cc di cM bU db dj b7 eN dq dk eM cO cu cE dI ew cF b3 cP cK dN dA dD cj cR aF bf ap bb bz aY bh bi aS bl a6 aN a5 bo aV aq bj aM aB a3 ar aD aE bq aw ay aJ bx aR bw br aX bA:Value}(ae:Hid(∀ c a d v w,Q(.panic c)(Act.put a(some d)v)w->Q(.panic c)a w))
  (HQ:Hid(∀ {z0 z1 z4 z5 z6 z7 z8 z9 cf b2 cg cS dw ez dc da d9 cs cp d4 bQ eB ca cN eI dZ b8 ed cL dh dp bS eg bT cB bY d8 ec eb ct ey dT cZ ex eq bX eY cw cb dX ev cU ee dE cz dS df b9 du dm dU c4 b4 eE eT cd er b5 dG eG dy dV dg eu eH cA cl eo de eU ea dW bZ eF ck es dz bW cY dK eQ cG dQ cr em c2 b1 ce aL bg aW bv aU bp a8 av bn aG aO ax au az be bc aP aC aT aQ bd a9 a7 aA bm a4 bu bt ba aK aI aH aZ:Value}(w':World)(bG:Value),w'.heap[n2]?=some(.cells #[tv,bG, .int .i64((iM 5 l).1:Nat), .int .i64((iM 3(iM 5 l).2.1).1:Nat), .int .i64((iM 500(iM 3(iM 5 l).2.1).2.1).1:Nat)]56(0,0))->ThrAt L w'.heap.size w' tv p->w'.ownsRow L 3 1 bG sc.length(iI sc)->W.grownBy w' none->Q .ret⟨#[z0,z1, .pointer(some⟨n2,0,none⟩), .bool(!(bad || (iM 5 l).2.2 || (iM 3(iM 5 l).2.1).2.2 || (iM 500(iM 3(iM 5 l).2.1).2.1).2.2)),z4,z5,z6,z7,z8,z9,cf,b2,cg,cS,dw,ez,dc,da,d9,cs,cp,d4,bQ,eB,ca,cN,eI,dZ,b8,ed,cL,dh,dp,bS,eg,bT,cB,bY,d8,ec,eb,ct,ey,dT,cZ,ex,eq,bX,eY,cw,cb,dX,ev,cU,ee,dE,cz,dS,df,b9,du,dm,dU,c4,b4,eE,eT,cd,er,b5,dG,eG,dy,dV,dg,eu,eH,cA,cl,eo,de,eU,ea,dW,bZ,eF,ck,es,dz,bW,cY,dK,eQ,cG,dQ,cr,em,c2,b1,ce,aL,bg,aW,bv,aU,bp,a8,av,bn,aG,aO,ax,au,az,be,bc,aP,aC,aT,aQ,bd,a9,a7,aA,bm,a4,bu,bt,ba,aK,aI,aH,aZ], []⟩w')):
  Code.wp Tryz.prog(oU Tryz.f71 28)Q⟨#[c0,c1, .pointer(some⟨n2,0,none⟩),c3, .pointer(some⟨b,0,none⟩), .pointer(some⟨n5,0,none⟩),c6,c7,c8,c9,dx,d0,bV,dR,b0,cQ,el,en,d1,ds,dv,eR,cI,cq,co,ef,cD,eh,cJ,eX,d5,dP,eA,cy,eD,eC,dt,c5,dJ,dC,ek,dn,cH,eS,d2,cW,ep,cm,d3,cn,dF,cv,b6,dL,eO,cT,ej,ch,dH,eP,eK,dM,eW,dB,dd,d7,dO,ci,ei,et,cV,eL,cX,dl,dr,cc,di,cM,bU,db,dj,b7,eN,dq,dk,eM,cO,cu,cE,dI,ew,cF,b3,cP,cK,dN,dA,dD,cj,cR,aF,bf,ap,bb,bz,aY,bh,bi,aS,bl,a6,aN,a5,bo,aV,aq,bj,aM,aB,a3,ar,aD,aE,bq,aw,ay,aJ,bx,aR,bw,br,aX,bA], []⟩w:=by
 conv=>arg 2;whnf
 have bB:∀ q,pt q= .pointer(some⟨q,0,none⟩):=fun _=>rfl
 have ao:=hZ(ny w b s l bad 5(by omega)HS.out.rd hs);rw [bB]at ao;have cC:=kD 5 l;generalize iM 5 l=x at*;obtain⟨a0,l1,bk⟩:=x;simp only at ao HQ cC;have hka1:(a0:Int)<=5:=by omega
 go_upto_region 29 with(go_at_call 98;refine ao.out.mono ?_;clear ao;rintro e v1⟨rfl,hr,hg⟩;have hc:=HS.out.call hr hg;have p6:=hc.acell.2.2.1;have p7:=hc.acell.2.2.2.2.2 2;have bO:=hZ hc;clear hr hg hc)
 have ad:=bO.out.setA 2(a0:Int)((a0:Int),0,0)(Or.inl⟨rfl,rfl⟩);generalize v1.setCell⟨n5,2,none⟩(.int .i64(a0:Int))=w1 at*;have bD:=hZ ad;clear ad p6 p7 bO;have an:=hZ(ny w1 b s l1(bad || bk)3(by omega)bD.out.rd hs);rw [bB]at an;have eV:=kD 3 l1;generalize iM 3 l1=x at*;obtain⟨a1,l2,bJ⟩:=x;simp only at an HQ eV;have hka2:(a1:Int)<=3:=by omega
 go_upto_region 30 with(go_at_call 98;refine an.out.mono ?_;clear an;rintro e v2⟨rfl,hr,hg⟩;have hc:=bD.out.call hr hg;have p6:=hc.acell.2.2.2.1;have p7:=hc.acell.2.2.2.2.2 3;have bF:=hZ hc;clear hr hg hc)
 have ad:=bF.out.setA 3(a1:Int)((a0:Int),(a1:Int),0)(Or.inr(Or.inl⟨rfl,rfl⟩));generalize v2.setCell⟨n5,3,none⟩(.int .i64(a1:Int))=w2 at*;have bC:=hZ ad;clear ad p6 p7 bF;have am:=hZ(ny w2 b s l2(bad || bk || bJ)500(by omega)bC.out.rd hs);rw [bB]at am;have cx:=kD 500 l2;generalize iM 500 l2=x at*;obtain⟨a2,l3,dY⟩:=x;simp only at am HQ cx;have hka3:(a2:Int)<=500:=by omega
 go_upto_region 31 with(go_at_call 98;refine am.out.mono ?_;clear am;rintro e v3⟨rfl,hr,hg⟩;have hc:=bC.out.call hr hg;have p6:=hc.acell.2.2.2.2.1;have p7:=hc.acell.2.2.2.2.2 4;have bE:=hZ hc;clear hr hg hc)
 have ad:=bE.out.setA 4(a2:Int)((a0:Int),(a1:Int),(a2:Int))(Or.inr(Or.inr⟨rfl,rfl⟩));generalize v3.setCell⟨n5,4,none⟩(.int .i64(a2:Int))=w3 at*;have ai:=hZ ad;clear ad p6 p7 bE;obtain⟨x1,x2,x3,hx⟩:=iq ai.out.thr.choose_spec.1;obtain⟨y1,y2,y3,hy⟩:=iq ai.out.row;subst hx hy;generalize d6:(bad || bk || bJ || dY)=BB at*;clear d6;have bL:Hid(∀ u:World,(∀ k,k≠n2->u.heap[k]?=w3.heap[k]?)->u.cell?⟨n5,0,none⟩=some(.slice x1 x2 x3)/\u.cell?⟨n5,1,none⟩=some(.slice y1 y2 y3)/\u.cell?⟨n5,2,none⟩=some(.int .i64(a0:Int))/\u.cell?⟨n5,3,none⟩=some(.int .i64(a1:Int))/\u.cell?⟨n5,4,none⟩=some(.int .i64(a2:Int))/\u.cell?⟨b,2,none⟩=some(.bool BB)):=fun u hu=>by
  have h:=ai.out;obtain⟨o1,o2,o3,o4⟩:=h.ord;obtain⟨e0,e1,e2,e3,e4,_⟩:=h.acell;have hn:u.heap[n5]?=w3.heap[n5]?:=hu n5(by omega);have hb:u.heap[b]?=w3.heap[b]?:=hu b(by omega);exact⟨by rw [World.cell?_of_block hn];exact e0,by rw [World.cell?_of_block hn];exact e1,by rw [World.cell?_of_block hn];exact e2,by rw [World.cell?_of_block hn];exact e3,by rw [World.cell?_of_block hn];exact e4,by rw [World.cell?_of_block hb];exact h.rd.bad⟩
 have bM:=bL.out w3.drew(fun k _=>rfl);refine iu(fun u=>u.cell?⟨n5,0,none⟩=some(.slice x1 x2 x3)/\u.cell?⟨n5,1,none⟩=some(.slice y1 y2 y3)/\u.cell?⟨n5,2,none⟩=some(.int .i64(a0:Int))/\u.cell?⟨n5,3,none⟩=some(.int .i64(a1:Int))/\u.cell?⟨n5,4,none⟩=some(.int .i64(a2:Int))/\u.cell?⟨b,2,none⟩=some(.bool BB))7(by kernel_rfl)(by kernel_rfl)bM ?_;intro aa;refine hY(i:=0)(v:= ?vv0)rfl(by kernel_rfl)(fun c _ _ h=>ae.out c _ _ _ _ h)(Or.inl⟨by kernel_rfl, ?hy0⟩)aa ?rest0
 case hy0=>(rintro u⟨aj,ah,ag,al,ak,af⟩;go_simp;try with_reducible rfl)
 simp only [Act.put,List.setIfInBounds_toArray];refine hY(i:=1)(v:= ?vv1)rfl(by kernel_rfl)(fun c _ _ h=>ae.out c _ _ _ _ h)(Or.inl⟨by kernel_rfl, ?hy1⟩)aa ?rest1
 case hy1=>(rintro u⟨aj,ah,ag,al,ak,af⟩;go_simp;try with_reducible rfl)
 simp only [Act.put];refine hY(i:=2)(v:= ?vv2)rfl(by kernel_rfl)(fun c _ _ h=>ae.out c _ _ _ _ h)(Or.inl⟨by kernel_rfl, ?hy2⟩)aa ?rest2
 case hy2=>(rintro u⟨aj,ah,ag,al,ak,af⟩;go_simp;try with_reducible rfl)
 simp only [Act.put];refine hY(i:=3)(v:= ?vv3)rfl(by kernel_rfl)(fun c _ _ h=>ae.out c _ _ _ _ h)(Or.inl⟨by kernel_rfl, ?hy3⟩)aa ?rest3
 case hy3=>(rintro u⟨aj,ah,ag,al,ak,af⟩;go_simp;try with_reducible rfl)
 simp only [Act.put];refine hY(i:=4)(v:= ?vv4)rfl(by kernel_rfl)(fun c _ _ h=>ae.out c _ _ _ _ h)(Or.inl⟨by kernel_rfl, ?hy4⟩)aa ?rest4
 case hy4=>(rintro u⟨aj,ah,ag,al,ak,af⟩;go_simp;try with_reducible rfl)
 simp only [Act.put];refine hY(i:=5)(v:= ?vv5)rfl(by kernel_rfl)(fun c _ _ h=>ae.out c _ _ _ _ h)(Or.inl⟨by kernel_rfl, ?hy5⟩)aa ?rest5
 case hy5=>(rintro u⟨aj,ah,ag,al,ak,af⟩;go_simp;try with_reducible rfl)
 simp only [Act.put];refine ip(i:=6)rfl(by kernel_rfl)(by kernel_rfl)(by kernel_rfl) ?_;intro K6 bP;have bN:=hZ bP;clear bP;have ab:w3.heap[n2]?=some(.cells #[.slice none 0 0, .slice none 0 0, .int .i64 0, .int .i64 0, .int .i64 0]56(0,0)):=ai.out.res;have r0:w3.cell?⟨n2,0,none⟩=some(.slice none 0 0):=by simp only [World.cell?,ab];rfl
 have r1:w3.cell?⟨n2,1,none⟩=some(.slice none 0 0):=by simp only [World.cell?,ab];rfl
 have r2:w3.cell?⟨n2,2,none⟩=some(.int .i64 0):=by simp only [World.cell?,ab];rfl
 have r3:w3.cell?⟨n2,3,none⟩=some(.int .i64 0):=by simp only [World.cell?,ab];rfl
 have r4:w3.cell?⟨n2,4,none⟩=some(.int .i64 0):=by simp only [World.cell?,ab];rfl
 have fz:∀ o,w3.frozen?⟨n2,o,none⟩=false:=fun o=>by simp [World.frozen?,ab]
 have z0:=fz 0;have z1:=fz 1;have z2:=fz 2;have z3:=fz 3;have z4:=fz 4;have eJ:=hZ ab;clear ab fz;go_simp;have bK:(((((w3.setCell⟨n2,0,none⟩(.slice x1 x2 x3)).setCell⟨n2,1,none⟩(.slice y1 y2 y3)).setCell⟨n2,2,none⟩(.int .i64(a0:Int))).setCell⟨n2,3,none⟩(.int .i64(a1:Int))).setCell⟨n2,4,none⟩(.int .i64(a2:Int))).heap[n2]?=some(.cells #[.slice x1 x2 x3, .slice y1 y2 y3, .int .i64(a0:Int), .int .i64(a1:Int), .int .i64(a2:Int)]56(0,0)):=by
  have e1:=heap_setCell_same w3 n2 0 _ _(.slice x1 x2 x3)eJ.out;have e2:=heap_setCell_same _ n2 1 _ _(.slice y1 y2 y3)e1;have e3:=heap_setCell_same _ n2 2 _ _(.int .i64(a0:Int))e2;have e4:=heap_setCell_same _ n2 3 _ _(.int .i64(a1:Int))e3;exact heap_setCell_same _ n2 4 _ _(.int .i64(a2:Int))e4
 have bI:w3.grownBy(((((w3.setCell⟨n2,0,none⟩(.slice x1 x2 x3)).setCell⟨n2,1,none⟩(.slice y1 y2 y3)).setCell⟨n2,2,none⟩(.int .i64(a0:Int))).setCell⟨n2,3,none⟩(.int .i64(a1:Int))).setCell⟨n2,4,none⟩(.int .i64(a2:Int)))(some n2):=ic(ic(ic(ic(jK _ _ _ _)(jK _ _ _ _))(jK _ _ _ _))(jK _ _ _ _))(jK _ _ _ _);have bH:∀ k,k≠n2->(((((w3.setCell⟨n2,0,none⟩(.slice x1 x2 x3)).setCell⟨n2,1,none⟩(.slice y1 y2 y3)).setCell⟨n2,2,none⟩(.int .i64(a0:Int))).setCell⟨n2,3,none⟩(.int .i64(a1:Int))).setCell⟨n2,4,none⟩(.int .i64(a2:Int))).heap[k]?=w3.heap[k]?:=fun k hk=>by
  rw [Below.heap_setCell _ _ _ _(by simpa using hk),Below.heap_setCell _ _ _ _(by simpa using hk),Below.heap_setCell _ _ _ _(by simpa using hk),Below.heap_setCell _ _ _ _(by simpa using hk),Below.heap_setCell _ _ _ _(by simpa using hk)]
 generalize((((w3.setCell⟨n2,0,none⟩(.slice x1 x2 x3)).setCell⟨n2,1,none⟩(.slice y1 y2 y3)).setCell⟨n2,2,none⟩(.int .i64(a0:Int))).setCell⟨n2,3,none⟩(.int .i64(a1:Int))).setCell⟨n2,4,none⟩(.int .i64(a2:Int))=w9 at*;refine bN.out _ _(bL.out w9.drew bH) ?_;clear bN r0 r1 r2 r3 r4 z0 z1 z2 z3 z4;try simp only [Act.put,List.setIfInBounds_toArray]
 refine iE rfl(by kernel_rfl)(by kernel_rfl)(by kernel_rfl) ?_;go_simp;have HF:Hid(ThrAt L w9.drew.heap.size w9.drew(.slice x1 x2 x3)p/\w9.drew.ownsRow L 3 1(.slice y1 y2 y3)sc.length(iI sc)/\W.grownBy w9.drew none):=by
  have h:=ai.out;obtain⟨o1,o2,o3,o4⟩:=h.ord;have ac:w3.grownBy w9.drew(some n2):=ir bI;refine⟨(h.thr.step ac(fun q e=>by simp only [Option.some.injEq]at e;omega)).mono ac.size,kF h.row ac(fun k e e2=>by simp only [Option.some.injEq]at e;have:=iw h.row k e2;omega), ?_⟩;exact⟨ac.os.trans h.base.os,ac.tape.trans h.base.tape,ac.output.trans h.base.output,Nat.le_trans h.base.size ac.size,fun k hk _=>by
   rw [ac.block k(Nat.lt_of_lt_of_le hk h.base.size)(fun e=>by simp only [Option.some.injEq]at e;omega)];exact h.base.block k hk(by simp)⟩
 have bR:=hZ bK;clear bK bI bH aa bM;go_wp2_with fail
 exact HQ.out w9.drew _ bR.out HF.out.1 HF.out.2.1 HF.out.2.2
theorem CE {W w:World} {b n5 n2 L:Nat} {s:ByteArray} {l:List Nat} {bad:Bool} {tv:Value} {p:List(List Ins)}(HS:Hid(GuS W w b n5 n2 L s l bad tv(.slice none 0 0)(0,0,0)p []))(hs:s.size<=9223372036854775000)
  {Q:Exit->Act->World->Prop} {c0 c1 c3 c6 c7 c8 c9 dt dY bJ dN bO cK em eo dZ dm dq eT cC ck ci eg cw ei cD eZ d5 dL eC cr eF eE dn cX dF dy el di cB eU d0 cQ eq cg d2 ch dB cp bW dH eP cN ek cb dD eQ eL dI eY dx c4 d6 dK cc ej ev cP eM cR dg dl b6 dd cG bI cZ de bX eO dk df eN cI co cx dE ey cy bS cJ cE dJ dw dz cd cL ax a5 ah a0 bo aQ a7 a8 aK ba aV aF aU bd aN ai a9 aE ar aS aj av aw bf am ao aB bn aJ bm bh aP bp:Value}(bz:Hid(∀ c a d v w,Q(.panic c)(Act.put a(some d)v)w->Q(.panic c)a w))
  (HQ:Hid(∀ {z0 z1 z4 z5 z6 z7 z8 z9 b9 bR ca cM ds eB c2 cY d8 cm cj d3 bF eD b4 cH eK dW bY ee cF dc dj bG eh bH cv bM d7 ec eb cn eA dR cU ez er bL e0 cq b5 dV ex cO ef dA ct dO da b3 dp dh dS cW bU eG eW b7 es bV dC eI du dT db ew eJ cu cf ep c5 eX ea dU bN eH ce et dv bK cT dG eS cA dM cl en cV bQ b8 aD a6 aO bl aM be aX al bc ay aG an ak ap a4 a2 aH au aL aI a3 aY aW aq bb aT bj bi aZ aC aA az aR:Value}(w':World)(sv:Value),w'.heap[n2]?=some(.cells #[tv,sv, .int .i64(lB l bad).2.1.1, .int .i64(lB l bad).2.1.2.1, .int .i64(lB l bad).2.1.2.2]56(0,0))->ThrAt L w'.heap.size w' tv p->w'.ownsRow L 3 1 sv(lB l bad).1.length(iI(lB l bad).1)->W.grownBy w' none->Q .ret⟨#[z0,z1, .pointer(some⟨n2,0,none⟩), .bool(lB l bad).2.2,z4,z5,z6,z7,z8,z9,b9,bR,ca,cM,ds,eB,c2,cY,d8,cm,cj,d3,bF,eD,b4,cH,eK,dW,bY,ee,cF,dc,dj,bG,eh,bH,cv,bM,d7,ec,eb,cn,eA,dR,cU,ez,er,bL,e0,cq,b5,dV,ex,cO,ef,dA,ct,dO,da,b3,dp,dh,dS,cW,bU,eG,eW,b7,es,bV,dC,eI,du,dT,db,ew,eJ,cu,cf,ep,c5,eX,ea,dU,bN,eH,ce,et,dv,bK,cT,dG,eS,cA,dM,cl,en,cV,bQ,b8,aD,a6,aO,bl,aM,be,aX,al,bc,ay,aG,an,ak,ap,a4,a2,aH,au,aL,aI,a3,aY,aW,aq,bb,aT,bj,bi,aZ,aC,aA,az,aR], []⟩w')):
  Code.wp Tryz.prog(oU Tryz.f71 20)Q⟨#[c0,c1, .pointer(some⟨n2,0,none⟩),c3, .pointer(some⟨b,0,none⟩), .pointer(some⟨n5,0,none⟩),c6,c7,c8,c9,dt,dY,bJ,dN,bO,cK,em,eo,dZ,dm,dq,eT,cC,ck,ci,eg,cw,ei,cD,eZ,d5,dL,eC,cr,eF,eE,dn,cX,dF,dy,el,di,cB,eU,d0,cQ,eq,cg,d2,ch,dB,cp,bW,dH,eP,cN,ek,cb,dD,eQ,eL,dI,eY,dx,c4,d6,dK,cc,ej,ev,cP,eM,cR,dg,dl,b6,dd,cG,bI,cZ,de,bX,eO,dk,df,eN,cI,co,cx,dE,ey,cy,bS,cJ,cE,dJ,dw,dz,cd,cL,ax,a5,ah,a0,bo,aQ,a7,a8,aK,ba,aV,aF,aU,bd,aN,ai,a9,aE,ar,aS,aj,av,aw,bf,am,ao,aB,bn,aJ,bm,bh,aP,bp], []⟩w:=by
 conv=>arg 2;whnf
 obtain⟨i0,eR,d9,ed,dQ⟩:=info_parts kt;have br:∀ q,pt q= .pointer(some⟨q,0,none⟩):=fun _=>rfl
 have HK:=hZ(ny w b s l bad 500(by omega)HS.out.rd hs);rw [br]at HK;have bD:=kD 500 l;have ag:Hid(lB l bad=(let s:=nT(iM 500 l).1 [](iM 500 l).2.1(bad || (iM 500 l).2.2);let a:=iM 5 s.2.1;let b:=iM 3 a.2.1;let c:=iM 500 b.2.1;((s.1,((a.1:Int),(b.1:Int),(c.1:Int)), !(s.2.2 || a.2.2 || b.2.2 || c.2.2)):List Int ×(Int × Int × Int)× Bool))):=rfl;generalize lB l bad=SG at*;generalize iM 500 l=x at*;obtain⟨k0,l0,b0⟩:=x;simp only at bD HK ag;generalize hR:nT k0 []l0(bad || b0)=R at*;have HR:=hZ hR;clear hR;have qk0:(k0:Int)<=500:=by omega
 go_wp2_with(go_at_call 98;refine HK.out.mono ?_;clear HK;rintro e w1⟨rfl,hr,hg⟩;have H1:=hZ(HS.out.call hr hg);clear hr hg)
 go_loopw [11](fun kv w'=>∃ (k:Nat)(sv:Value)(sc:List Int)(l':List Nat)(aa:Bool),k<=500/\kv= .int .i64 k/\Hid(sc.length<=501)/\Hid(GuS W w' b n5 n2 L s l' aa tv sv(0,0,0)p sc/\nT k sc l' aa=R))(fun kv _=>(intOf kv).toNat)
 case atStart=>exact⟨k0,_, [],l0,bad || b0,bD,rfl,hZ(by simp),⟨H1.out,HR.out⟩⟩
 case round=>
  clear H1 HR;obtain⟨k,sv,sc,l',aa,hk,rfl,bT,HI⟩:=hrel;obtain⟨w2,bv⟩:∃ w2,w2=wr:=⟨_,rfl⟩;rw [<-bv]at HI ⊢;clear bv;have kb:=HI.out.1.rd.bad;by_cases ae:0<k/\aa=false
  ·obtain⟨bx,rfl⟩:=ae;obtain⟨k,rfl⟩:∃ j,k=j+1:=⟨k - 1,by omega⟩;have t0:(0:Int)<((k+1:Nat):Int):=by omega
   have HT:=hZ(ny w2 b s l' false 63(by omega)HI.out.1.rd hs);rw [br]at HT;have dX:=kD 63 l';have bk:=kD 500(iM 63 l').2.1;have bg:Hid(nT(k+1)sc l' false=nT k(nK(iM 500(iM 63 l').2.1).1(iM 63 l').1 sc)(iM 500(iM 63 l').2.1).2.1((iM 63 l').2.2 || (iM 500(iM 63 l').2.1).2.2)):=rfl;generalize iM 63 l'=x at*;obtain⟨t,l1,b1⟩:=x;simp only at dX bk HT bg;simp only [Bool.false_or]at HT;have qt:(t:Int)<=63:=by omega
   go_upto_region 24 with(go_at_call 98;refine HT.out.mono ?_;clear HT;rintro e w3⟨rfl,hr,hg⟩;have H3:=hZ(HI.out.1.call hr hg);clear hr hg)
   have HN:=hZ(ny w3 b s l1 b1 500(by omega)H3.out.rd hs);rw [br]at HN;clear kb;generalize iM 500 l1=x at*;obtain⟨n,l2,b2⟩:=x;simp only at bk HN bg;have qn:(n:Int)<=500:=by omega
   go_wp2_with(go_at_call 98;refine HN.out.mono ?_;clear HN;rintro e w4⟨rfl,hr,hg⟩;have H4:=hZ(H3.out.call hr hg);clear hr hg)
   go_loopw [13](fun nv w'=>∃ (m:Nat)(bw:Value)(ab:List Int),m<=500/\nv= .int .i64 m/\Hid(ab.length<=501)/\Hid(GuS W w' b n5 n2 L s l2(b1 || b2)tv bw(0,0,0)p ab/\nK m t ab=nK n t sc))(fun nv _=>(intOf nv).toNat)
   case atStart=>exact⟨n,sv,sc,bk,rfl,bT,⟨H4.out,rfl⟩⟩
   case round=>
    clear H4 H3;obtain⟨m,bw,ab,hm,rfl,bC,HJ⟩:=hrel;obtain⟨w5,bB⟩:∃ w5,w5=wr:=⟨_,rfl⟩;rw [<-bB]at HJ ⊢;clear bB;obtain⟨_,a1,_,_,_,_⟩:=HJ.out.1.acell;have ac:=HJ.out.1.row;obtain⟨y1,y2,y3,rfl⟩:=iq ac;have eV:=iy ac;subst eV;have d1:=hZ ac;clear ac;by_cases ae:0<m/\ab.length<=500
    ·obtain⟨dP,cS⟩:=ae;obtain⟨m,rfl⟩:∃ j,m=j+1:=⟨m - 1,by omega⟩;have t1:(0:Int)<((m+1:Nat):Int):=by omega
     have t2:(ab.length:Int)<=500:=by omega
     have eu:Hid(nK m t(ab++ [(t:Int)])=nK n t sc):=by
      have:=HJ.out.2;rw [nK,if_pos cS]at this;exact this
     have cz:Hid((ab++ [(t:Int)]).length<=501):=by unfold Hid;simp;omega
     have hbase:L<=w5.heap.size:=by have:=HJ.out.1.ord;have:=HJ.out.1.lt;omega
     have dr:ab.length+1<=maxLen:=by unfold maxLen;omega
     go_wp2_with(at_builtin;go_must(refine iD rfl _ _ _ rfl L 3 i0 _ 1 8 Tryz.underlying39 eR d9 ed dQ rfl(by omega)(.slice y1 ab.length y3)ab.length(iI ab)rfl(iG d1.out)⟨w5.heap.size,0,none⟩1 1 [.int .i64(t:Int)]rfl rfl(World.news_of_block(cs:= #[.int .i64(t:Int)])(t:=3)(fr:=(0,0))(heap_alloc_new w5 _))(by simp [Value.oneCell'])(by omega)dr(by omega)(by simp;omega)(w5.heap.size+1)(by simp) ?_);intro g8 cap8 w8 ad af bq;obtain⟨⟨p6,p7⟩,bA⟩:=HJ.out.1.push(t:=(t:Int))rfl ad af;have d4:=hZ bA;clear bA ad af bq)
     go_roundw
     case rel=>exact⟨m,_,ab++ [(t:Int)],by omega,by go_num,cz,⟨d4.out,eu.out⟩⟩
     case measure=>simp [intOf]<;>omega
    ·have bE:Hid(nT k ab l2(b1 || b2)=R):=by
      have h1:=HI.out.2;have h2:=HJ.out.2;rw [bg.out]at h1;have h3:nK m(t:Int)ab=ab:=by
       by_cases e:ab.length<=500
       ·have:m=0:=by omega
        rw [this];rfl
       ·exact ym _ _ _ e
      rw [h3]at h2;rw [h2];exact h1
     by_cases dP:0<m
     ·have t1:(0:Int)<(m:Int):=by omega
      have t2:(500:Int)<(ab.length:Int):=by omega
      go_wp2_with fail
      go_roundw
      case rel=>exact⟨k,_,ab,l2,b1 || b2,by omega,by go_num,bC,⟨HJ.out.1,bE.out⟩⟩
      case measure=>simp [intOf]<;>omega
     ·have t1:(m:Int)<=0:=by omega
      go_wp2_with fail
      go_roundw
      case rel=>exact⟨k,_,ab,l2,b1 || b2,by omega,by go_num,bC,⟨HJ.out.1,bE.out⟩⟩
      case measure=>simp [intOf]<;>omega
  ·have bu:Hid(R=(sc,l',aa)):=by
    unfold Hid;rw [<-HI.out.2];by_cases e:k=0
    ·rw [e];rfl
    ·have:aa=true:=by
      cases aa with
      | true=>rfl
      | false=>exact absurd⟨by omega,rfl⟩ae
     rw [this];exact Aw _ _ _
   rw [bu.out]at ag;simp only at ag;have bt:Hid(GuS W w2 b n5 n2 L s l' aa tv sv(0,0,0)p sc):=HI.out.1;have bZ:=ag.out;clear ag;subst bZ;simp only at HQ;clear bu;by_cases bx:0<k
   ·have bP:aa=true:=by
     cases aa with
     | true=>rfl
     | false=>exact absurd⟨bx,rfl⟩ae
    subst bP;have t1:(0:Int)<(k:Int):=by omega
    go_upto_if 92 with fail
    refine wp_cond_false rfl ?_;refine wp_exit ?_;refine ‹∀ a w,Code.wp Tryz.prog _ _ a w->_› _ _ ?_;exact FL bt hs bz HQ
   ·have t1:(k:Int)<=0:=by omega
    go_upto_if 92 with fail
    refine wp_cond_false rfl ?_;refine wp_exit ?_;refine ‹∀ a w,Code.wp Tryz.prog _ _ a w->_› _ _ ?_;exact FL bt hs bz HQ
end
section
open Go.RowKit
theorem ThrAt.upto {L B:Nat} {w w':World} {tv:Value} {p:List(List Ins)}(h:ThrAt L B w tv p)(hb:∀ k,L<=k->k<B->w'.heap[k]?=w.heap[k]?):ThrAt L B w' tv p:=by
 obtain⟨rows,h1,h2,h3,h4⟩:=h;refine⟨rows,iJ h1(fun g e=>hb g(iw h1 g e)(h2 g e)),h2,fun j hj=> ?_,h4⟩;obtain⟨rv,e1,e2,e3⟩:=h3 j hj;exact⟨rv,e1,iJ e2(fun g e=>hb g(iw e2 g e)(e3 g e)),e3⟩
structure GuB(W w:World)(b n5 n2 L B:Nat)(s:ByteArray)(l:List Nat)(bad:Bool)(tv:Value)(p:List(List Ins))(lv:Value)(c:List Ins):Prop where
 rd:RdG w b s l bad
 art:w.heap[n5]?=some(.cells #[tv, .slice none 0 0, .int .i64 0, .int .i64 0, .int .i64 0]56(0,0))
 res:w.heap[n2]?=some(.cells #[.slice none 0 0, .slice none 0 0, .int .i64 0, .int .i64 0, .int .i64 0]56(0,0))
 thr:ThrAt L B w tv p
 row:w.ownsRow B 65 4 lv c.length(jh c)
 base:W.grownBy w none
 ord:W.heap.size<=n2/\n2<b/\b<n5/\L=n5+1/\L<=B/\B<=w.heap.size
section
variable {W w w' w6 : World} {b n5 n2 L B : Nat} {s : ByteArray} {l l' : List Nat} {bad bad' : Bool} {tv lv : Value} {p : List (List Ins)} {c : List Ins}
theorem GuB.step(h:GuB W w b n5 n2 L B s l bad tv p lv c)(hr:RdG w' b s l' bad') {q:Nat}(hg:w.grownBy w'(some q))(hq:q=b\/(B<=q/\lv.ownBlock≠some q)):GuB W w' b n5 n2 L B s l' bad' tv p lv c:=by
 obtain⟨o1,o2,o3,o4,o5,o6⟩:=h.ord;have aa:=(Array.getElem?_eq_some_iff.1 h.art).1;have ab:=(Array.getElem?_eq_some_iff.1 h.res).1;have hlo:W.heap.size<=q:=by rcases hq with e | e<;>omega
 refine⟨hr, ?_, ?_, ?_, ?_, ?_,o1,o2,o3,o4,o5,Nat.le_trans o6 hg.size⟩
 ·rw [hg.block n5 aa(by simp only [ne_eq,Option.some.injEq];rcases hq with e | e<;>omega)];exact h.art
 ·rw [hg.block n2 ab(by simp only [ne_eq,Option.some.injEq];rcases hq with e | e<;>omega)];exact h.res
 ·exact h.thr.upto(fun k h1 h2=>hg.block k(by omega)(by simp only [ne_eq,Option.some.injEq];rcases hq with e | e<;>omega))
 ·refine iJ h.row(fun g e=>hg.block g(iW h.row g e) ?_);simp only [ne_eq,Option.some.injEq];have:=iw h.row g e;rcases hq with e1 | e1
  ·omega
  ·intro e2;exact e1.2(by rw [<-e2];exact e)
 ·exact⟨hg.os.trans h.base.os,hg.tape.trans h.base.tape,hg.output.trans h.base.output,Nat.le_trans h.base.size hg.size,fun k hk _=>by
   rw [hg.block k(Nat.lt_of_lt_of_le hk h.base.size)(fun e=>by simp only [Option.some.injEq]at e;omega)];exact h.base.block k hk(by simp)⟩
theorem GuB.call(h:GuB W w b n5 n2 L B s l bad tv p lv c)(hr:RdG w' b s l' bad')(hg:w.grownBy w'(some b)):GuB W w' b n5 n2 L B s l' bad' tv p lv c:=h.step hr hg(Or.inl rfl)
theorem GuB.made(h:GuB W w b n5 n2 L B s l bad tv p lv c)(o:Obj):GuB W(w.alloc o)b n5 n2 L B s l bad tv p lv c:=by
 obtain⟨k,e,_⟩:=h.rd;have aa:=(Array.getElem?_eq_some_iff.1 e).1;exact h.call(h.rd.step(Below.heap_alloc _ _ _ aa))(ij(il _ _))
theorem GuB.put(h:GuB W w b n5 n2 L B s l bad tv p lv c) {n9:Nat}(h9:B<=n9)(aa:lv.ownBlock≠some n9)(j:Nat)(x:Value):GuB W(w.setCell⟨n9,j,none⟩x)b n5 n2 L B s l bad tv p lv c:=by
 obtain⟨o1,o2,o3,o4,o5,o6⟩:=h.ord;exact h.step(h.rd.step(Below.heap_setCell _ _ _ _(by simp only;omega)))(jK w n9 j x)(Or.inr⟨h9,aa⟩)
theorem GuS.begin(h:GuS W w b n5 n2 L s l bad tv(.slice none 0 0)(0,0,0)p []):GuB W(w.alloc(.cells #[]65))b n5 n2 L w.heap.size s l bad tv p(.slice(some⟨w.heap.size,0,none⟩)0 0) []:=by
 obtain⟨o1,o2,o3,o4⟩:=h.ord;obtain⟨h1,h2,h3⟩:=h.lt;refine⟨h.rd.step(Below.heap_alloc _ _ _ h1), ?_, ?_,h.thr.upto(fun k _ hk=>Below.heap_alloc _ _ _ hk),⟨rfl,Or.inr⟨w.heap.size,0, #[],rfl,Nat.le_refl _,heap_alloc_new w _,Nat.le_refl _,by unfold maxLen;omega,rfl,rfl⟩⟩,ij h.base,o1,o2,o3,o4,by omega,by simp⟩
 ·rw [Below.heap_alloc _ _ _ h2];exact h.art
 ·rw [Below.heap_alloc _ _ _ h3];exact h.res
theorem GuB.push(h:GuB W w b n5 n2 L B s l bad tv p lv c) {i:Ins} {o:Obj} {g6 c6 N:Nat}(hN:N=c.length)
  (ab:w6.ownsRow B 65 4(.slice(some⟨g6,0,none⟩)(N+1)c6)(N+1)(jh c++ [.int .i64 i.op, .int .i64 i.a, .int .i64 i.b, .int .i64 i.n]))
  (key:(lv.ownBlock=some g6/\(w.alloc o).grownBy w6(some g6))\/(g6=w.heap.size+1/\(w.alloc o).grownBy w6 none)):
  GuB W w6 b n5 n2 L B s l bad tv p(.slice(some⟨g6,0,none⟩)(N+1)c6)(c++ [i]):=by
 subst hN;obtain⟨o1,o2,o3,o4,o5,o6⟩:=h.ord;have ad:=(Array.getElem?_eq_some_iff.1 h.art).1;have af:=(Array.getElem?_eq_some_iff.1 h.res).1;have hB6:B<=g6:=iw ab g6 rfl;have hgl:(w.alloc o).os=w.os/\(w.alloc o).tape=w.tape/\(w.alloc o).output=w.output:=⟨rfl,rfl,rfl⟩;have ac:w.heap.size<=w6.heap.size:=by
  rcases key with⟨_,hg⟩ | ⟨_,hg⟩<;>(have:=hg.size;simp at this;omega)
 have aa:∀ k,k<w.heap.size->k<B->w6.heap[k]?=w.heap[k]?:=fun k hk hne=>by
  rcases key with⟨_,hg⟩ | ⟨_,hg⟩
  ·rw [hg.block k(by simp;omega)(by simp;omega),Below.heap_alloc _ _ _ hk]
  ·rw [hg.block k(by simp;omega)(by simp),Below.heap_alloc _ _ _ hk]
 have ae:W.grownBy w6 none:=by
  rcases key with⟨_,hg⟩ | ⟨_,hg⟩<;>
  exact⟨hg.os.trans h.base.os,hg.tape.trans h.base.tape,hg.output.trans h.base.output,Nat.le_trans h.base.size ac,fun k hk _=>by
    rw [aa k(Nat.lt_of_lt_of_le hk h.base.size)(by omega)];exact h.base.block k hk(by simp)⟩
 refine⟨h.rd.step(aa b(by omega)(by omega)),by rw [aa n5 ad(by omega)];exact h.art,by rw [aa n2 af(by omega)];exact h.res,h.thr.upto(fun k _ hk=>aa k(by omega)hk), ?_,ae,o1,o2,o3,o4,o5,by omega⟩;have e1:(c++ [i]).length=c.length+1:=by simp
 have e2:jh(c++ [i])=jh c++ [.int .i64 i.op, .int .i64 i.a, .int .i64 i.b, .int .i64 i.n]:=by rw [pG];rfl
 rw [e1,e2];exact ab
theorem GuB.pushT(h:GuB W w b n5 n2 L B s l bad tv p lv c) {o:Obj} {rows:List Value} {g6 c6 N:Nat}(hN:N=p.length)(ae:w.ownsRow L 66 1 tv N rows)
  (ab:w6.ownsRow L 66 1(.slice(some⟨g6,0,none⟩)(N+1)c6)(N+1)(rows++ [lv]))
  (key:(tv.ownBlock=some g6/\(w.alloc o).grownBy w6(some g6))\/(g6=w.heap.size+1/\(w.alloc o).grownBy w6 none)):
  (w6.cell?⟨n5,0,none⟩=some tv/\w6.frozen?⟨n5,0,none⟩=false)/\GuS W(w6.setCell⟨n5,0,none⟩(.slice(some⟨g6,0,none⟩)(N+1)c6))b n5 n2 L s l bad(.slice(some⟨g6,0,none⟩)(N+1)c6)(.slice none 0 0)(0,0,0)(p++ [c]) []:=by
 subst hN;obtain⟨o1,o2,o3,o4,o5,o6⟩:=h.ord;have ah:=(Array.getElem?_eq_some_iff.1 h.art).1;have ak:=(Array.getElem?_eq_some_iff.1 h.res).1;have hL6:L<=g6:=iw ab g6 rfl;have ag:w.heap.size<=w6.heap.size:=by
  rcases key with⟨_,hg⟩ | ⟨_,hg⟩<;>(have:=hg.size;simp at this;omega)
 have aa:∀ k,k<w.heap.size->k<L->w6.heap[k]?=w.heap[k]?:=fun k hk hne=>by
  rcases key with⟨_,hg⟩ | ⟨_,hg⟩
  ·rw [hg.block k(by simp;omega)(by simp;omega),Below.heap_alloc _ _ _ hk]
  ·rw [hg.block k(by simp;omega)(by simp),Below.heap_alloc _ _ _ hk]
 have aj:W.grownBy w6 none:=by
  rcases key with⟨_,hg⟩ | ⟨_,hg⟩<;>
  exact⟨hg.os.trans h.base.os,hg.tape.trans h.base.tape,hg.output.trans h.base.output,Nat.le_trans h.base.size ag,fun k hk _=>by
    rw [aa k(Nat.lt_of_lt_of_le hk h.base.size)(by omega)];exact h.base.block k hk(by simp)⟩
 have ai:(w.alloc o).grownBy w6 tv.ownBlock:=by
  rcases key with⟨e,hg⟩ | ⟨_,hg⟩
  ·rw [e];exact hg
  ·exact⟨hg.os,hg.tape,hg.output,hg.size,fun k hk _=>hg.block k hk(by simp)⟩
 have af:ThrAt L w6.heap.size w6(.slice(some⟨g6,0,none⟩)(p.length+1)c6)(p++ [c]):=
  ThrAt.snoc h.thr o6(fun q e=>iw h.row q e)ae⟨iN h.row o5,fun q e=>iW h.row q e⟩(ij(il _ _))ai ab ag(fun q e=>iW ab q e)
 have ac:w6.heap[n5]?=some(.cells #[tv, .slice none 0 0, .int .i64 0, .int .i64 0, .int .i64 0]56(0,0)):=by rw [aa n5 ah(by omega)];exact h.art
 have ad:=jK w6 n5 0(.slice(some⟨g6,0,none⟩)(p.length+1)c6);refine⟨⟨by simp [World.cell?,ac],by simp [World.frozen?,ac]⟩,⟨?_, ?_, ?_, ?_,⟨rfl,Or.inl⟨rfl,rfl⟩⟩,iC aj(by omega),o1,o2,o3,o4⟩⟩
 ·exact(h.rd.step(aa b(by omega)(by omega))).step(Below.heap_setCell _ _ _ _(by simp only;omega))
 ·rw [heap_setCell_same w6 n5 0 _ _ _ ac];rfl
 ·rw [Below.heap_setCell _ _ _ _(by simp only;omega),aa n2 ak(by omega)];exact h.res
 ·exact(af.step ad(fun q e=>by simp only [Option.some.injEq]at e;omega)).mono ad.size
end
end
section
open Go.RowKit
attribute [local go_sem] Go.World.cell?_alloc_some
theorem EZ:((Tryz.prog.info? 66).map fun i=>(i.zero,i.size,i.bytes))=some(some(.slice none 0 0),1,24):=by kernel_rfl
theorem Ax(k:Nat)(p:List(List Ins))(l:List Nat):ls k p l true=(p,l,true):=by cases k<;>rfl
theorem AY(k:Nat)(c:List Ins)(l:List Nat):lu k c l true=(c,l,true):=by cases k<;>rfl
theorem mN {w:World} {g:Nat} {x0 x1 x2 x3:Value} {t:TypeId}(h:w.heap[g]?=some(.cells #[x0,x1,x2,x3]t(0,0))):w.cell?⟨g,0,none⟩=some x0/\w.cell?⟨g,1,none⟩=some x1/\w.cell?⟨g,2,none⟩=some x2/\w.cell?⟨g,3,none⟩=some x3/\∀ o,w.frozen?⟨g,o,none⟩=false:=by
 simp [World.cell?,World.frozen?,h]
theorem ET(s:ByteArray)(w:World)(hs:s.size<=9223372036854775000):
  Calls Tryz.prog 71 #[.string s]w fun e w'=>∃ tv sv,e= .returned(.tuple #[.agg #[tv,sv, .int .i64(jX(byt s)).1.ver.1, .int .i64(jX(byt s)).1.ver.2.1, .int .i64(jX(byt s)).1.ver.2.2], .bool(jX(byt s)).2])/\w.grownBy w' none/\ThrAt w.heap.size w'.heap.size w' tv(jX(byt s)).1.prog/\w'.ownsRow w.heap.size 3 1 sv(jX(byt s)).1.sch.length(iI(jX(byt s)).1.sch):=by
 obtain⟨i0,b9,bS,bT,bN⟩:=info_parts xy;obtain⟨i1,bL,bV,b7,aH⟩:=info_parts EZ;have ar:∀ q,pt q= .pointer(some⟨q,0,none⟩):=fun _=>rfl
 have aq:Hid(jX(byt s)=(⟨(ls(iM 4((byt s).drop 3)).1 [](iM 4((byt s).drop 3)).2.1(iM 4((byt s).drop 3)).2.2).1,(lB(ls(iM 4((byt s).drop 3)).1 [](iM 4((byt s).drop 3)).2.1(iM 4((byt s).drop 3)).2.2).2.1(ls(iM 4((byt s).drop 3)).1 [](iM 4((byt s).drop 3)).2.1(iM 4((byt s).drop 3)).2.2).2.2).1,(lB(ls(iM 4((byt s).drop 3)).1 [](iM 4((byt s).drop 3)).2.1(iM 4((byt s).drop 3)).2.2).2.1(ls(iM 4((byt s).drop 3)).1 [](iM 4((byt s).drop 3)).2.1(iM 4((byt s).drop 3)).2.2).2.2).2.1⟩,(lB(ls(iM 4((byt s).drop 3)).1 [](iM 4((byt s).drop 3)).2.1(iM 4((byt s).drop 3)).2.2).2.1(ls(iM 4((byt s).drop 3)).1 [](iM 4((byt s).drop 3)).2.1(iM 4((byt s).drop 3)).2.2).2.2).2.2)):=rfl;generalize jX(byt s)=GG at*;obtain⟨l0,bw⟩:∃ l,l=(byt s).drop 3:=⟨_,rfl⟩;rw [<-bw]at aq;go_enter Tryz.func71,Tryz.ntmps71
 go_upto_region 3 with fail
 obtain⟨w1,a4⟩:∃ w1,w1=((w.alloc(.cells #[.slice none 0 0, .slice none 0 0, .int .i64 0, .int .i64 0, .int .i64 0]56)).alloc(.cells #[.string s, .int .i64 3, .bool false]180)).alloc(.cells #[.slice none 0 0, .slice none 0 0, .int .i64 0, .int .i64 0, .int .i64 0]56):=⟨_,rfl⟩;rw [<-a4];have HS:Hid(GuS w w1(w.heap.size+1)(w.heap.size+1+1)w.heap.size(w.heap.size+1+1+1)s l0 false(.slice none 0 0)(.slice none 0 0)(0,0,0) [] []):=by
  unfold Hid;rw [a4];have e0:=heap_alloc_new w(.cells #[.slice none 0 0, .slice none 0 0, .int .i64 0, .int .i64 0, .int .i64 0]56);have e1:=heap_alloc_new(w.alloc(.cells #[.slice none 0 0, .slice none 0 0, .int .i64 0, .int .i64 0, .int .i64 0]56))(.cells #[.string s, .int .i64 3, .bool false]180);have e2:=heap_alloc_new((w.alloc(.cells #[.slice none 0 0, .slice none 0 0, .int .i64 0, .int .i64 0, .int .i64 0]56)).alloc(.cells #[.string s, .int .i64 3, .bool false]180))(.cells #[.slice none 0 0, .slice none 0 0, .int .i64 0, .int .i64 0, .int .i64 0]56);simp only [World.size_alloc]at e1 e2;refine⟨⟨3, ?_,bw,by omega⟩,e2, ?_,⟨[],⟨rfl,Or.inl⟨rfl,rfl⟩⟩,fun h e=>(by cases e),fun j hj=>absurd hj(Nat.not_lt_zero j),Apt.nil⟩,⟨rfl,Or.inl⟨rfl,rfl⟩⟩,ij(ij(ij(il _ _))),by omega,by omega,by omega,by omega⟩
  ·rw [Below.heap_alloc _ _ _(by simp)];exact e1
  ·rw [Below.heap_alloc _ _ _(by simp;omega),Below.heap_alloc _ _ _(by simp)];exact e0
 clear a4 bw;have b0:Hid(w.heap.size<=w.heap.size+1+1+1):=by unfold Hid;omega
 generalize hb:w.heap.size+1=b at*;generalize dz:b+1=n5 at*;generalize hL:n5+1=L at*;generalize bB:w.heap.size=n2 at*;have ak:=hZ bB;clear hb dz hL bB;have HK:=hZ(ny w1 b s l0 false 4(by omega)HS.out.rd hs);rw [ar]at HK;have aW:=kD 4 l0;generalize iM 4 l0=x at*;obtain⟨k0,l1,b1⟩:=x;simp only [Bool.false_or]at aW HK aq;generalize hP:ls k0 []l1 b1=PP at*;have HP:=hZ hP;clear hP;have qk0:(k0:Int)<=4:=by omega
 go_wp2_with(go_at_call 98;refine HK.out.mono ?_;clear HK;rintro e w2⟨rfl,hr,hg⟩;have H1:=hZ(HS.out.call hr hg);clear hr hg)
 go_loopw [6](fun kv w'=>∃ (k:Nat)(tv:Value)(p:List(List Ins))(l':List Nat)(aa:Bool),k<=4/\kv= .int .i64 k/\Hid(p.length+k<=4)/\Hid(GuS w w' b n5 n2 L s l' aa tv(.slice none 0 0)(0,0,0)p []/\ls k p l' aa=PP))(fun kv _=>(intOf kv).toNat)
 case atStart=>exact⟨k0,_, [],l1,b1,aW,rfl,hZ(by simpa using aW),⟨H1.out,HP.out⟩⟩
 case round=>
  clear H1 HP HS;obtain⟨k,tv,p,l',aa,hk,rfl,bF,HI⟩:=hrel;obtain⟨w3,b6⟩:∃ w3,w3=wr:=⟨_,rfl⟩;rw [<-b6]at HI ⊢;clear b6;have kb:=HI.out.1.rd.bad;by_cases aI:0<k/\aa=false
  ·obtain⟨bK,rfl⟩:=aI;obtain⟨k,rfl⟩:∃ j,k=j+1:=⟨k - 1,by omega⟩;have t0:(0:Int)<((k+1:Nat):Int):=by omega
   have aA:=hZ HI.out.1.begin;have bU:Hid(ls(k+1)p l' false=ls k(p++ [(lu(iM 16 l').1 [](iM 16 l').2.1(iM 16 l').2.2).1])(lu(iM 16 l').1 [](iM 16 l').2.1(iM 16 l').2.2).2.1(lu(iM 16 l').1 [](iM 16 l').2.1(iM 16 l').2.2).2.2):=rfl;go_upto_region 7 with fail
   obtain⟨w4,bP⟩:∃ w4,w4=w3.alloc(.cells #[]65):=⟨_,rfl⟩;rw [<-bP]at aA ⊢;clear bP kb;generalize hB:w3.heap.size=B at*;clear hB;have HN:=hZ(ny w4 b s l' false 16(by omega)aA.out.rd hs);rw [ar]at HN;have am:=kD 16 l';generalize iM 16 l'=x at*;obtain⟨n,l2,b2⟩:=x;simp only [Bool.false_or]at am HN bU;generalize hC:lu n []l2 b2=CC at*;have HC:=hZ hC;clear hC;have qn:(n:Int)<=16:=by omega
   go_wp2_with(go_at_call 98;refine HN.out.mono ?_;clear HN;rintro e w5⟨rfl,hr,hg⟩;have H5:=hZ(aA.out.call hr hg);clear hr hg)
   go_loopw [7,8](fun lv mv w'=>∃ (m:Nat)(c:List Ins)(l3:List Nat)(bd:Bool),m<=16/\mv= .int .i64 m/\Hid(c.length+m<=16)/\Hid(GuB w w' b n5 n2 L B s l3 bd tv p lv c/\lu m c l3 bd=CC))(fun _ mv _=>(intOf mv).toNat)
   case atStart=>exact⟨n, [],l2,b2,am,rfl,hZ(by simpa using am),⟨H5.out,HC.out⟩⟩
   case round=>
    clear H5 HC aA;obtain⟨m,c,l3,bd,hm,rfl,aE,HJ⟩:=hrel;obtain⟨w6,b4⟩:∃ w6,w6=wr:=⟨_,rfl⟩;rw [<-b4]at HJ ⊢;clear b4;have kb:=HJ.out.1.rd.bad;have ag:=HJ.out.1.row;obtain⟨y1,y2,y3,rfl⟩:=iq ag;have aH:=iy ag;subst aH;by_cases an:0<m/\bd=false
    ·obtain⟨bM,rfl⟩:=an;obtain⟨m,rfl⟩:∃ j,m=j+1:=⟨m - 1,by omega⟩;have t1:(0:Int)<((m+1:Nat):Int):=by omega
     have bR:Hid(lu(m+1)c l3 false=lu m(c++ [(qB l3).1])(qB l3).2.1(qB l3).2.2):=rfl;have ao:Hid(qB l3=(⟨((iM 11 l3).1:Nat),((iM 3(iM 11 l3).2.1).1:Nat),((iM 3(iM 3(iM 11 l3).2.1).2.1).1:Nat),zag(mu 10 1 0(iM 3(iM 3(iM 11 l3).2.1).2.1).2.1).1⟩,(mu 10 1 0(iM 3(iM 3(iM 11 l3).2.1).2.1).2.1).2.1,(iM 11 l3).2.2 || (iM 3(iM 11 l3).2.1).2.2 || (iM 3(iM 3(iM 11 l3).2.1).2.1).2.2 || (mu 10 1 0(iM 3(iM 3(iM 11 l3).2.1).2.1).2.1).2.2)):=rfl;go_upto_region 11 with fail
     obtain⟨w7,aG⟩:∃ w7,w7=w6.alloc(.cells #[.int .i64 0, .int .i64 0, .int .i64 0, .int .i64 0]65):=⟨_,rfl⟩;have bO:Hid(GuB w w7 b n5 n2 L B s l3 false tv p(.slice y1 c.length y3)c):=by unfold Hid;rw [aG];exact HJ.out.1.made _
     have bW:Hid(w7.heap[w6.heap.size]?=some(.cells #[.int .i64 0, .int .i64 0, .int .i64 0, .int .i64 0]65(0,0))):=by unfold Hid;rw [aG];exact heap_alloc_new w6 _
     have h9:B<=w6.heap.size:=HJ.out.1.ord.2.2.2.2.2;have aw:(Value.slice y1 c.length y3).ownBlock≠some w6.heap.size:=fun e=>by have:=iW ag _ e;omega
     have az:w6.heap.size≠b:=by have:=HJ.out.1.ord;omega
     rw [<-aG];clear aG ag kb;generalize w6.heap.size=n9 at*;have ay:=hZ(ny w7 b s l3 false 11(by omega)bO.out.rd hs);rw [ar]at ay;have dr:=kD 11 l3;generalize iM 11 l3=x at*;obtain⟨xo,l4,bo⟩:=x;simp only [Bool.false_or]at ay ao dr;have qv1:(xo:Int)<=11:=by omega
     go_upto_region 12 with(go_at_call 98;refine ay.out.mono ?_;clear ay;rintro e v1⟨rfl,hr,hg⟩;have hc:=bO.out.call hr hg;have hi:v1.heap[n9]?=some(.cells #[.int .i64 0, .int .i64 0, .int .i64 0, .int .i64 0]65(0,0)):=(by rw [hg.block n9(Array.getElem?_eq_some_iff.1 bW.out).1(by simp only [ne_eq,Option.some.injEq];exact az)];exact bW.out);have p6:=(mN hi).1;have p7:=(mN hi).2.2.2.2 0;have bZ:=hZ hc;have bX:=hZ hi;clear hr hg hc hi)
     have af:=bZ.out.put h9 aw 0(.int .i64(xo:Int));have ae:=heap_setCell_same v1 n9 0 _ _(.int .i64(xo:Int))bX.out;generalize v1.setCell⟨n9,0,none⟩(.int .i64(xo:Int))=x1 at*;have bC:=hZ af;have b5:Hid(x1.heap[n9]?=some(.cells #[.int .i64(xo:Int), .int .i64 0, .int .i64 0, .int .i64 0]65(0,0))):=ae;clear af ae p6 p7 bZ bX;have ak:=hZ(ny x1 b s l4 bo 3(by omega)bC.out.rd hs);rw [ar]at ak;have cc:=kD 3 l4;generalize iM 3 l4=x at*;obtain⟨xa,l5,ba⟩:=x;simp only at ak ao cc;have qv2:(xa:Int)<=3:=by omega
     go_upto_region 13 with(go_at_call 98;refine ak.out.mono ?_;clear ak;rintro e v2⟨rfl,hr,hg⟩;have hc:=bC.out.call hr hg;have hi:v2.heap[n9]?=some(.cells #[.int .i64(xo:Int), .int .i64 0, .int .i64 0, .int .i64 0]65(0,0)):=(by rw [hg.block n9(Array.getElem?_eq_some_iff.1 b5.out).1(by simp only [ne_eq,Option.some.injEq];exact az)];exact b5.out);have p6:=(mN hi).2.1;have p7:=(mN hi).2.2.2.2 1;have bI:=hZ hc;have bH:=hZ hi;clear hr hg hc hi)
     have af:=bI.out.put h9 aw 1(.int .i64(xa:Int));have ae:=heap_setCell_same v2 n9 1 _ _(.int .i64(xa:Int))bH.out;generalize v2.setCell⟨n9,1,none⟩(.int .i64(xa:Int))=x2 at*;have bz:=hZ af;have b8:Hid(x2.heap[n9]?=some(.cells #[.int .i64(xo:Int), .int .i64(xa:Int), .int .i64 0, .int .i64 0]65(0,0))):=ae;clear af ae p6 p7 bI bH;have aF:=hZ(ny x2 b s l5(bo || ba)3(by omega)bz.out.rd hs);rw [ar]at aF;have dj:=kD 3 l5;generalize iM 3 l5=x at*;obtain⟨xb,l6,bb⟩:=x;simp only at aF ao dj;have qv3:(xb:Int)<=3:=by omega
     go_upto_region 14 with(go_at_call 98;refine aF.out.mono ?_;clear aF;rintro e v3⟨rfl,hr,hg⟩;have hc:=bz.out.call hr hg;have hi:v3.heap[n9]?=some(.cells #[.int .i64(xo:Int), .int .i64(xa:Int), .int .i64 0, .int .i64 0]65(0,0)):=(by rw [hg.block n9(Array.getElem?_eq_some_iff.1 b8.out).1(by simp only [ne_eq,Option.some.injEq];exact az)];exact b8.out);have p6:=(mN hi).2.2.1;have p7:=(mN hi).2.2.2.2 2;have bG:=hZ hc;have bD:=hZ hi;clear hr hg hc hi)
     have af:=bG.out.put h9 aw 2(.int .i64(xb:Int));have ae:=heap_setCell_same v3 n9 2 _ _(.int .i64(xb:Int))bD.out;generalize v3.setCell⟨n9,2,none⟩(.int .i64(xb:Int))=x3 at*;have bQ:=hZ af;have bJ:Hid(x3.heap[n9]?=some(.cells #[.int .i64(xo:Int), .int .i64(xa:Int), .int .i64(xb:Int), .int .i64 0]65(0,0))):=ae;clear af ae p6 p7 bG bD;have aC:=hZ(FK x3 b s l6(bo || ba || bb)bQ.out.rd hs);rw [ar]at aC;have c8:=sC 10 1 0 l6;generalize mu 10 1 0 l6=x at*;obtain⟨xn,l7,bn⟩:=x;simp only at aC ao c8;have qn64:(xn:Int)<18446744073709551616:=by omega
     go_upto_region 15 with(go_at_call 99;refine aC.out.mono ?_;clear aC;rintro e v4⟨rfl,hr,hg⟩;have hc:=bQ.out.call hr hg;have hi:v4.heap[n9]?=some(.cells #[.int .i64(xo:Int), .int .i64(xa:Int), .int .i64(xb:Int), .int .i64 0]65(0,0)):=(by rw [hg.block n9(Array.getElem?_eq_some_iff.1 bJ.out).1(by simp only [ne_eq,Option.some.injEq];exact az)];exact bJ.out);have bY:=hZ hc;have bf:=hZ hi;clear hr hg hc hi)
     obtain⟨_,_,_,p6,p4⟩:=mN bf.out;have p7:=p4 3;clear p4;go_upto_region 16 with fail
     have af:=bY.out.put h9 aw 3(.int .i64((xn:Int)/ 2));have ae:=heap_setCell_same v4 n9 3 _ _(.int .i64((xn:Int)/ 2))bf.out;generalize v4.setCell⟨n9,3,none⟩(.int .i64((xn:Int)/ 2))=x4 at*;have aD:=hZ af;have bx:Hid(x4.heap[n9]?=some(.cells #[.int .i64(xo:Int), .int .i64(xa:Int), .int .i64(xb:Int), .int .i64((xn:Int)/ 2)]65(0,0))):=ae;clear af ae p6 p7 bY bf;by_cases ho:xn % 2=1
     ·have hl:Int.tmod(xn:Int)2=1:=by rw [Int.tmod_eq_emod_of_nonneg(by omega)];omega
      have dv:(xn:Int) % 2=1:=by omega
      have aN:Hid(zag xn= -((xn:Int)/ 2) - 1):=by unfold Hid zag;rw [if_pos ho];omega
      clear ho;obtain⟨_,_,_,p6,p4⟩:=mN bx.out;have p7:=p4 3;clear p4;go_upto_region 18 with fail
      have af:=aD.out.put h9 aw 3(.int .i64(-((xn:Int)/ 2) - 1));have ae:=heap_setCell_same x4 n9 3 _ _(.int .i64(-((xn:Int)/ 2) - 1))bx.out;generalize x4.setCell⟨n9,3,none⟩(.int .i64(-((xn:Int)/ 2) - 1))=x5 at*;have bv:=hZ af;have cv:Hid(x5.heap[n9]?=some(.cells #[.int .i64(xo:Int), .int .i64(xa:Int), .int .i64(xb:Int), .int .i64(-((xn:Int)/ 2) - 1)]65(0,0))):=ae;clear af ae p6 p7;obtain⟨r0,r1,r2,r3,_⟩:=mN cv.out;have bj:=hZ bv.out.row;have ai:B<=x5.heap.size:=bv.out.ord.2.2.2.2.2;have hcl:c.length<=15:=by have:=aE.out;omega
      have ap:c.length+1<=maxLen:=by unfold maxLen;omega
      have bu:Hid(lu m(c++ [⟨(xo:Int),(xa:Int),(xb:Int), -((xn:Int)/ 2) - 1⟩])l7(bo || ba || bb || bn)=CC):=by
       have h1:=HJ.out.2;rw [bR.out,ao.out,aN.out]at h1;exact h1
      go_wp2_with(at_builtin;go_must(refine iD rfl _ _ _ rfl B 65 i0 _ 4 32 Tryz.underlying66 b9 bS bT bN rfl(by omega)(.slice y1 c.length y3)c.length(jh c)rfl(iG bj.out)⟨x5.heap.size,0,none⟩1 1 [.int .i64(xo:Int), .int .i64(xa:Int), .int .i64(xb:Int), .int .i64(-((xn:Int)/ 2) - 1)]rfl rfl(World.news_of_block(cs:= #[.int .i64(xo:Int), .int .i64(xa:Int), .int .i64(xb:Int), .int .i64(-((xn:Int)/ 2) - 1)])(t:=65)(fr:=(0,0))(heap_alloc_new x5 _))(by simp [Value.oneCell'])(by omega)ap(by omega)(by simp;omega)(x5.heap.size+1)(by simp) ?_);intro g8 aj bm ab ac ad;have al:=hZ(bv.out.push(i:=⟨(xo:Int),(xa:Int),(xb:Int), -((xn:Int)/ 2) - 1⟩)rfl ab ac);clear ab ac ad)
      go_roundw
      case rel=>exact⟨m,_,l7,_,by omega,by go_num,hZ(by have:=aE.out;simp;omega),⟨al.out,bu.out⟩⟩
      case measure=>simp [intOf]<;>omega
     ·have hl:Int.tmod(xn:Int)2=0:=by rw [Int.tmod_eq_emod_of_nonneg(by omega)];omega
      have dv:(xn:Int) % 2=0:=by omega
      have aN:Hid(zag xn=(xn:Int)/ 2):=by unfold Hid zag;rw [if_neg ho];omega
      clear ho;go_upto_region 18 with fail
      obtain⟨r0,r1,r2,r3,_⟩:=mN bx.out;have bj:=hZ aD.out.row;have ai:B<=x4.heap.size:=aD.out.ord.2.2.2.2.2;have hcl:c.length<=15:=by have:=aE.out;omega
      have ap:c.length+1<=maxLen:=by unfold maxLen;omega
      have bu:Hid(lu m(c++ [⟨(xo:Int),(xa:Int),(xb:Int),(xn:Int)/ 2⟩])l7(bo || ba || bb || bn)=CC):=by
       have h1:=HJ.out.2;rw [bR.out,ao.out,aN.out]at h1;exact h1
      go_wp2_with(at_builtin;go_must(refine iD rfl _ _ _ rfl B 65 i0 _ 4 32 Tryz.underlying66 b9 bS bT bN rfl(by omega)(.slice y1 c.length y3)c.length(jh c)rfl(iG bj.out)⟨x4.heap.size,0,none⟩1 1 [.int .i64(xo:Int), .int .i64(xa:Int), .int .i64(xb:Int), .int .i64((xn:Int)/ 2)]rfl rfl(World.news_of_block(cs:= #[.int .i64(xo:Int), .int .i64(xa:Int), .int .i64(xb:Int), .int .i64((xn:Int)/ 2)])(t:=65)(fr:=(0,0))(heap_alloc_new x4 _))(by simp [Value.oneCell'])(by omega)ap(by omega)(by simp;omega)(x4.heap.size+1)(by simp) ?_);intro g8 aj bm ab ac ad;have al:=hZ(aD.out.push(i:=⟨(xo:Int),(xa:Int),(xb:Int),(xn:Int)/ 2⟩)rfl ab ac);clear ab ac ad)
      go_roundw
      case rel=>exact⟨m,_,l7,_,by omega,by go_num,hZ(by have:=aE.out;simp;omega),⟨al.out,bu.out⟩⟩
      case measure=>simp [intOf]<;>omega
    ·have dF:Hid(CC=(c,l3,bd)):=by
      unfold Hid;rw [<-HJ.out.2];by_cases e:m=0
      ·rw [e];rfl
      ·have:bd=true:=by
        cases bd with
        | true=>rfl
        | false=>exact absurd⟨by omega,rfl⟩an
       rw [this];exact AY _ _ _
     have b3:Hid(ls k(p++ [c])l3 bd=PP):=by
      have h1:=HI.out.2;rw [bU.out,dF.out]at h1;exact h1
     have ax:Hid((p++ [c]).length+k<=4):=by have:=bF.out;unfold Hid;simp;omega
     obtain⟨rows,aB,dM,cU⟩:=HJ.out.1.thr;obtain⟨q1,q2,q3,rfl⟩:=iq aB;have dw:=iy aB;subst dw;have ah:=hZ aB;have a0:w6.cell?⟨n5,0,none⟩=some(.slice q1 p.length q3):=by simp [World.cell?,HJ.out.1.art]
     have ai:L<=w6.heap.size:=by have:=HJ.out.1.ord;omega
     have hp4:p.length<=4:=by have:=bF.out;omega
     have ap:p.length+1<=maxLen:=by unfold maxLen;omega
     clear ag aB dM cU;by_cases bM:0<m
     ·have aK:bd=true:=by
       cases bd with
       | true=>rfl
       | false=>exact absurd⟨bM,rfl⟩an
      subst aK;have t1:(0:Int)<(m:Int):=by omega
      go_wp2_with(at_builtin;go_must(refine iD rfl _ _ _ rfl L 66 i1 _ 1 24 Tryz.underlying35 bL bV b7 aH rfl(by omega)(.slice q1 p.length q3)p.length rows rfl(iG ah.out)⟨w6.heap.size,0,none⟩1 1 [.slice y1 c.length y3]rfl rfl(World.news_of_block(cs:= #[.slice y1 c.length y3])(t:=66)(fr:=(0,0))(heap_alloc_new w6 _))(by simp [Value.oneCell'])(by omega)ap(by omega)(by simp;omega)(w6.heap.size+1)(by simp) ?_);intro g8 aj bm ab ac ad;obtain⟨⟨p6,p7⟩,au⟩:=HJ.out.1.pushT rfl ah.out ab ac;have al:=hZ au;clear au ab ac ad)
      go_roundw
      case rel=>exact⟨k,_,p++ [c],l3,_,by omega,by go_num,ax,⟨al.out,b3.out⟩⟩
      case measure=>simp [intOf]<;>omega
     ·skip
      have t1:(m:Int)<=0:=by omega
      go_wp2_with(at_builtin;go_must(refine iD rfl _ _ _ rfl L 66 i1 _ 1 24 Tryz.underlying35 bL bV b7 aH rfl(by omega)(.slice q1 p.length q3)p.length rows rfl(iG ah.out)⟨w6.heap.size,0,none⟩1 1 [.slice y1 c.length y3]rfl rfl(World.news_of_block(cs:= #[.slice y1 c.length y3])(t:=66)(fr:=(0,0))(heap_alloc_new w6 _))(by simp [Value.oneCell'])(by omega)ap(by omega)(by simp;omega)(w6.heap.size+1)(by simp) ?_);intro g8 aj bm ab ac ad;obtain⟨⟨p6,p7⟩,au⟩:=HJ.out.1.pushT rfl ah.out ab ac;have al:=hZ au;clear au ab ac ad)
      go_roundw
      case rel=>exact⟨k,_,p++ [c],l3,_,by omega,by go_num,ax,⟨al.out,b3.out⟩⟩
      case measure=>simp [intOf]<;>omega
  ·have bE:Hid(PP=(p,l',aa)):=by
    unfold Hid;rw [<-HI.out.2];by_cases e:k=0
    ·rw [e];rfl
    ·have:aa=true:=by
      cases aa with
      | true=>rfl
      | false=>exact absurd⟨by omega,rfl⟩aI
     rw [this];exact Ax _ _ _
   rw [bE.out]at aq;simp only at aq;have bA:Hid(GuS w w3 b n5 n2 L s l' aa tv(.slice none 0 0)(0,0,0)p []):=HI.out.1;have av:Hid(∀ (w':World)(sv:Value),w'.heap[n2]?=some(.cells #[tv,sv, .int .i64(lB l' aa).2.1.1, .int .i64(lB l' aa).2.1.2.1, .int .i64(lB l' aa).2.1.2.2]56(0,0))->ThrAt L w'.heap.size w' tv p->w'.ownsRow L 3 1 sv(lB l' aa).1.length(iI(lB l' aa).1)->w.grownBy w' none->∀ a,a=Ending.returned(.tuple #[.agg #[tv,sv, .int .i64(lB l' aa).2.1.1, .int .i64(lB l' aa).2.1.2.1, .int .i64(lB l' aa).2.1.2.2], .bool(lB l' aa).2.2])->∃ tv sv,a= .returned(.tuple #[.agg #[tv,sv, .int .i64 GG.1.ver.1, .int .i64 GG.1.ver.2.1, .int .i64 GG.1.ver.2.2], .bool GG.2])/\w.grownBy w' none/\ThrAt w.heap.size w'.heap.size w' tv GG.1.prog/\w'.ownsRow w.heap.size 3 1 sv GG.1.sch.length(iI GG.1.sch)):=by
    intro w' sv g1 g2 g3 g4 a ha;rw [aq.out];exact⟨tv,sv,ha,g4,g2.low(by rw [ak.out];exact b0.out),iN g3(by rw [ak.out];exact b0.out)⟩
   clear aq bE;by_cases bK:0<k
   ·have aK:aa=true:=by
     cases aa with
     | true=>rfl
     | false=>exact absurd⟨bK,rfl⟩aI
    subst aK;have t1:(0:Int)<(k:Int):=by omega
    go_upto_if 28 with fail
    refine wp_cond_false rfl ?_;refine wp_exit ?_;refine ‹∀ a w,Code.wp Tryz.prog _ _ a w->_› _ _ ?_;refine CE bA hs ?_ ?_
    ·exact fun _ _ _ _ _ h=>h
    intro z0 z1 z4 z5 z6 z7 z8 z9 ct cj cu cJ c2 dE cQ cP dh cA cy df ca dG co cI dL de cm dn cH cV cX cb dq cd cF cg dg dl dk cB dD dc cM dC du cf dQ cC cp dd dB cK dp c5 cD da cS cn cY cW db cO ck dH dO cq dx cl c6 dJ c3 cZ cT dA dK cE cx dt cR dP di dm ch dI cw dy c4 ce cL c7 dN cG c9 cz ds cN ci cr aV bi a3 bt a2 bp a8 aL bl aR aX aM aJ aO bh be aY aQ a1 aZ bg a9 a7 aP bk a6 br bq bc aU aT aS a5 w' sv g1 g2 g3 g4;have e0:w'.cell?⟨n2,0,none⟩=some tv:=by simp only [World.cell?,g1];rfl
    have e1:w'.cell?⟨n2,1,none⟩=some sv:=by simp only [World.cell?,g1];rfl
    have e2:w'.cell?⟨n2,2,none⟩=some(.int .i64(lB l' true).2.1.1):=by simp only [World.cell?,g1];rfl
    have e3:w'.cell?⟨n2,3,none⟩=some(.int .i64(lB l' true).2.1.2.1):=by simp only [World.cell?,g1];rfl
    have e4:w'.cell?⟨n2,4,none⟩=some(.int .i64(lB l' true).2.1.2.2):=by simp only [World.cell?,g1];rfl
    have HF:=hZ(av.out w' sv g1 g2 g3 g4 _ rfl);clear g1 g2 g3 g4;refine bodyPost_ret(v:= .tuple #[.agg #[tv,sv, .int .i64(lB l' true).2.1.1, .int .i64(lB l' true).2.1.2.1, .int .i64(lB l' true).2.1.2.2], .bool(lB l' true).2.2]) ?_ rfl HF.out;simp [results,Tryz.results71,go_sem,e0,e1,e2,e3,e4]
   ·have t1:(k:Int)<=0:=by omega
    go_upto_if 28 with fail
    refine wp_cond_false rfl ?_;refine wp_exit ?_;refine ‹∀ a w,Code.wp Tryz.prog _ _ a w->_› _ _ ?_;refine CE bA hs ?_ ?_
    ·exact fun _ _ _ _ _ h=>h
    intro z0 z1 z4 z5 z6 z7 z8 z9 ct cj cu cJ c2 dE cQ cP dh cA cy df ca dG co cI dL de cm dn cH cV cX cb dq cd cF cg dg dl dk cB dD dc cM dC du cf dQ cC cp dd dB cK dp c5 cD da cS cn cY cW db cO ck dH dO cq dx cl c6 dJ c3 cZ cT dA dK cE cx dt cR dP di dm ch dI cw dy c4 ce cL c7 dN cG c9 cz ds cN ci cr aV bi a3 bt a2 bp a8 aL bl aR aX aM aJ aO bh be aY aQ a1 aZ bg a9 a7 aP bk a6 br bq bc aU aT aS a5 w' sv g1 g2 g3 g4;have e0:w'.cell?⟨n2,0,none⟩=some tv:=by simp only [World.cell?,g1];rfl
    have e1:w'.cell?⟨n2,1,none⟩=some sv:=by simp only [World.cell?,g1];rfl
    have e2:w'.cell?⟨n2,2,none⟩=some(.int .i64(lB l' aa).2.1.1):=by simp only [World.cell?,g1];rfl
    have e3:w'.cell?⟨n2,3,none⟩=some(.int .i64(lB l' aa).2.1.2.1):=by simp only [World.cell?,g1];rfl
    have e4:w'.cell?⟨n2,4,none⟩=some(.int .i64(lB l' aa).2.1.2.2):=by simp only [World.cell?,g1];rfl
    have HF:=hZ(av.out w' sv g1 g2 g3 g4 _ rfl);clear g1 g2 g3 g4;refine bodyPost_ret(v:= .tuple #[.agg #[tv,sv, .int .i64(lB l' aa).2.1.1, .int .i64(lB l' aa).2.1.2.1, .int .i64(lB l' aa).2.1.2.2], .bool(lB l' aa).2.2]) ?_ rfl HF.out;simp [results,Tryz.results71,go_sem,e0,e1,e2,e3,e4]
end
section
open Go.RowKit
attribute [local go_sem] Go.World.cell?_alloc_some
def Tab(w:World):Prop:=Lib.TabIs Tryz.prog w "internal/strconv.uint64pow10" .u64 Lib.pow10Tab
theorem Tab.grown {w w':World}(h:Tab w)(hg:w.grownBy w' none):Tab w':=by
 unfold Tab at*;exact(Lib.tabBelow_of_tabIs h)w'⟨hg.os,hg.tape,hg.output,hg.size,fun k hk=>hg.block k hk(by simp)⟩
theorem B4(n:Int)(h0: -9223372036854775808<=n)(h1:n<=9223372036854775807)(w:World)(hT:Tab w):Calls Tryz.prog 144 #[.int .i64 n]w fun e w'=>e= .returned(.string⟨(Lib.itoa n).toArray⟩)/\w.grownBy w' none:=by
 refine(Tryz.strconv_Itoa n h0 h1 w hT).mono ?_;rintro e w'⟨rfl,k,os,rfl⟩;exact⟨rfl,kR(Lib.below_grow _ w(Nat.le_refl _)k os)⟩
theorem zT {u:Nat}(h:u<1000):(Lib.decDigits u).length<=3:=by
 have h1:∀ u,u<10->(Lib.decDigits u).length=1:=fun u h=>by rw [Lib.decDigits,dif_pos h];rfl
 have h2:∀ u,u<100->(Lib.decDigits u).length<=2:=fun u h=>by
  by_cases aa:u<10
  ·rw [h1 u aa];omega
  ·rw [Lib.decDigits,dif_neg aa,List.length_append,h1(u / 10)(by omega)];simp
 by_cases aa:u<10
 ·rw [h1 u aa];omega
 ·have:=h2(u / 10)(by omega);rw [Lib.decDigits,dif_neg aa,List.length_append];simp;omega
theorem oR {n:Int}(h0:0<=n)(h:n<1000):(Lib.itoa n).length<=3:=by
 unfold Lib.itoa;rw [if_neg(by omega)];exact zT(by omega)
theorem Gc(t n:Int)(w:World)(hT:Tab w)(ah:0<=t)(ht1:t<=63)(hn0:1<=n)(hn1:n<=500):
  Calls Tryz.prog 108 #[.agg #[.int .i64 t, .int .i64 n]]w fun e w'=>e= .returned(.string⟨(kY t n).toArray⟩)/\w.grownBy w' none:=by
 have HT:=hZ hT;clear hT;by_cases h1:n=1
 ·subst h1;go_enter Tryz.func108,Tryz.ntmps108
  go_wp2_with(go_at_call 144;refine(B4 _(by omega)(by omega)_(HT.out.grown(ij(il _ _)))).mono ?_;rintro e w'⟨rfl,hg⟩)
  go_ret;exact⟨by simp [kY],ic(ij(il _ _))hg⟩
 ·have hn:(n==1)=false:=by simpa using h1
  go_enter Tryz.func108,Tryz.ntmps108
  have aj:∀ o,Tab(w.alloc o):=fun o=>HT.out.grown(ij(il _ _))
  have call:∀ (m:Int)(ag: -9223372036854775808<=m)(af:m<=9223372036854775807)(o:Obj)(d:Nat)(os:Array Obj),Calls Tryz.prog 144 #[.int .i64 m](Sort.grow(redrawn(w.alloc o)d)os)fun e w''=>e= .returned(.string⟨(Lib.itoa m).toArray⟩)/\∃ p:Regrown,w''=Sort.grow(redrawn(w.alloc o)p.d)p.os:=by
   intro m ag af o d os;refine Calls.regrown_of((B4 m ag af _((aj o).grown(kR(below_regrown _ d os)))).mono ?_);rintro e w'⟨rfl,hg⟩;exact⟨rfl,hg.os,hg.tape,hg.output,hg.size,fun k hk=>hg.block k hk(by simp)⟩
  obtain⟨st,ad⟩:∃ st:ByteArray,st=⟨(Lib.itoa t).toArray⟩:=⟨_,rfl⟩;obtain⟨sn,ac⟩:∃ sn:ByteArray,sn=⟨(Lib.itoa n).toArray⟩:=⟨_,rfl⟩;have l1:st.size<=3:=by rw [ad];simpa [ByteArray.size]using oR ah(by omega)
  have l2:sn.size<=3:=by rw [ac];simpa [ByteArray.size]using oR(n:=n)(by omega)(by omega)
  have n1:¬9223372036854775807<st.size+1:=by omega
  have n2:¬9223372036854775807<st.size+1+sn.size:=by omega
  have aa:=fun o d os=>call t(by omega)(by omega)o d os
  have ab:=fun o d os=>call n(by omega)(by omega)o d os
  rw [<-ad]at aa;rw [<-ac]at ab;have al:Hid((⟨(kY t n).toArray⟩:ByteArray)=st++⟨#[42]⟩++sn):=by
   unfold Hid kY;rw [if_neg h1,ad,ac];apply ByteArray.ext;simp
  clear call ad ac;go_wp2_with fail
  have c0:∀ d os,(Sort.grow(redrawn(w.alloc(.cells #[.int .i64 t, .int .i64 n]187))d)os).cell?⟨w.heap.size,0,none⟩=some(.int .i64 t):=fun d os=>cell_regrown(by have:=heap_alloc_new w(.cells #[.int .i64 t, .int .i64 n]187);simp only [World.cell?,this];rfl)d os
  have c1:∀ d os,(Sort.grow(redrawn(w.alloc(.cells #[.int .i64 t, .int .i64 n]187))d)os).cell?⟨w.heap.size,1,none⟩=some(.int .i64 n):=fun d os=>cell_regrown(by have:=heap_alloc_new w(.cells #[.int .i64 t, .int .i64 n]187);simp only [World.cell?,this];rfl)d os
  refine wp_region_quiet_below(by kernel_rfl)(by kernel_rfl) ?_;repeat(quiet_step(first | exact aa _ _ _ | exact ab _ _ _))
  refine wpQuiet_nil ?_;intro _ ak;obtain⟨⟨dq,ai⟩,ae⟩:=ak;subst ae;go_wp2
  go_ret;exact⟨by rw [al.out];rfl,ic(ij(il _ _))(kR(below_regrown _ dq ai))⟩
def xf(q:List(List UInt8)):List Value:=q.map fun x=> .string⟨x.toArray⟩
def lW(q:List(Int × Int)):List(List UInt8):=q.map fun x=>kY x.1 x.2
theorem xN:((Tryz.prog.info? 9).map fun i=>(i.zero,i.size,i.bytes))=some(some(.string⟨#[]⟩),1,16):=by kernel_rfl
theorem Al(q:List(Int × Int))(k:Nat)(hk:k<q.length):(iO q)[k*2]?=some(.int .i64 q[k].1)/\(iO q)[k*2+1]?=some(.int .i64 q[k].2):=by
 induction q generalizing k with
 | nil=>simp at hk
 | cons y q ih=>
  have e1:iO(y::q)= .int .i64 y.1:: .int .i64 y.2::iO q:=rfl;cases k with
  | zero=>rw [e1];simp
  | succ k=>
   have:=ih k(by simpa using hk);have e2:(k+1)*2=k*2+1+1:=by omega
   rw [e1,e2];simpa using this
theorem DK {t n:Int}(h0:0<=t)(h1:t<=63)(h2:1<=n)(h3:n<=500):(kY t n).length<=7:=by
 have a:=oR h0(by omega);have b:=oR(n:=n)(by omega)(by omega);unfold kY;split
 ·omega
 ·simp;omega
theorem C2(q:List(List UInt8))(h:∀ x∈q,x.length<=7):(Lib.join q [32]).length<=8*q.length:=by
 cases q with
 | nil=>simp [Lib.join_nil]
 | cons x r=>
  rw [Lib.join_cons];have h1:∀ r:List(List UInt8),(∀ x∈r,x.length<=7)->(Lib.joinTail [32]r).length<=8*r.length:=by
   intro r;induction r with
   | nil=>intro _;simp [Lib.joinTail]
   | cons y r ih=>
    intro hr;have:=ih(fun x hx=>hr x(by simp [hx]));have hy:=hr y(by simp);simp [Lib.joinTail]at this ⊢;omega
  have:=h1 r(fun y hy=>h y(by simp [hy]));have hx:=h x(by simp);simp;omega
theorem rn {l:List Int}(h:i8 l=true):∀ x∈grp l,0<=x.1/\x.1<=63/\1<=x.2/\x.2<=500:=by
 intro x hx;simp only [i8,Bool.and_eq_true,decide_eq_true_eq,List.all_eq_true]at h;have:=qf l x hx;have h2:=h.2 x.1 this.1;exact⟨h2.1,h2.2,this.2.1,by omega⟩
theorem DC(l:List Int)(v:Value)(w:World)(hT:Tab w)(hI:IntsAt w.heap.size w v l)(hv:i8 l=true):
  Calls Tryz.prog 77 #[v]w fun e w'=>e= .returned(.string⟨(lU l).toArray⟩)/\w.grownBy w' none:=by
 obtain⟨i0,aA,aC,aE,ax⟩:=info_parts xN;have h5:l.length<=500:=by simp only [i8,Bool.and_eq_true,decide_eq_true_eq]at hv;exact hv.1
 have HT:=hZ hT;have aj:=hZ(GJ l v w hI h5);obtain⟨ao,cap,rfl⟩:=hI.form;have HV:=hZ(rn hv);have ah:=pq l;clear hT hI hv;go_enter Tryz.func77,Tryz.ntmps77
 go_wp2_with fail
 refine aj.out.mono ?_;rintro e w1⟨x,y,z,rfl,ho,hg⟩;have hy:=iy ho;subst hy;have HO:=hZ ho;have ak:=hZ hg;clear ho hg aj;have HJ:Hid(lU l=Lib.join(lW(grp l)) [32]):=rfl;generalize grp l=q at*;have hq:(q.length:Int)<=500:=by omega
 go_wp2_with fail
 go_loopw [3,9](fun lv i w'=>∃ k:Nat,k<=q.length/\i= .int .i64 k/\Hid(w'.ownsRow w1.heap.size 9 1 lv k(xf(lW(q.take k)))/\w1.grownBy w' none))(fun _ i _=>q.length - (intOf i).toNat)
 case atStart=>exact⟨0,Nat.zero_le _,rfl,⟨rfl,Or.inl⟨rfl,rfl⟩⟩,il _ _⟩
 case round=>
  obtain⟨k,hk,rfl,HL⟩:=hrel;obtain⟨w5,av⟩:∃ w5,w5=wr:=⟨_,rfl⟩;subst av;obtain⟨x1,x2,x3,rfl⟩:=iq HL.out.1;have H1:=hZ HL.out.1;have H2:=hZ HL.out.2;have hsz2:=HL.out.2.size;have ay:=iw H1.out;by_cases ag:k<q.length
  ·obtain⟨g,cp,e0,_,_⟩:=HO.out.form(by omega);simp only [Value.slice.injEq,true_and]at e0;obtain⟨rfl,rfl⟩:=e0;have fa:=Al q k ag;have d0:w5.cell?⟨g,k*2,none⟩=some(.int .i64 q[k].1):=ie H2.out _ _(by rw [HO.out.cellAt _(by omega)];exact fa.1);have d1:w5.cell?⟨g,k*2+1,none⟩=some(.int .i64 q[k].2):=ie H2.out _ _(by rw [HO.out.cellAt _(by omega)];exact fa.2);have hv:=HV.out q[k](List.getElem_mem ag);have am:Hid(xf(lW(q.take(k+1)))=xf(lW(q.take k))++ [.string⟨(kY q[k].1 q[k].2).toArray⟩]):=by
    unfold Hid xf lW;rw [List.take_succ_eq_append_getElem ag,List.map_append,List.map_append];rfl
   generalize q[k]=tn at*;obtain⟨t,n⟩:=tn;simp only at d0 d1 hv am;have hk0:(0:Int)<=(k:Int):=by omega
   have hk1:(k:Int)<q.length:=by omega
   have aD:k+1<=maxLen:=by unfold maxLen;omega
   have al:∀ o,Tab(w5.alloc o):=fun o=>HT.out.grown(ij(ic ak.out H2.out))
   clear fa;go_wp2_with fail
   refine(Gc t n _(al _)hv.1 hv.2.1 hv.2.2.1 hv.2.2.2).mono ?_;rintro e w6⟨rfl,ae⟩;have ac:w5.grownBy w6 none:=ic(ij(il _ _))ae;have az:Hid(w6.ownsRow w1.heap.size 9 1(.slice x1 x2 x3)k(xf(lW(q.take k)))):=iA H1.out ac(fun _ e=>by cases e);have ai:Hid(w1.grownBy w6 none):=ic H2.out ac;have hsz6:=ai.out.size;clear ae ac al;generalize kY t n=wd at*;go_wp2_with(at_builtin;refine wpList_append_lies _ rfl _ _ _ rfl w1.heap.size 9 i0 _ 1 16 Tryz.underlying24 aA aC aE ax rfl(by omega)(.slice x1 x2 x3)k(xf(lW(q.take k)))rfl(iG az.out)⟨w6.heap.size,0,none⟩1 1 [.string⟨wd.toArray⟩]rfl rfl(World.news_of_block(cs:= #[.string⟨wd.toArray⟩])(t:=9)(fr:=(0,0))(heap_alloc_new w6 _))(by simp [Value.oneCell'])(by omega)aD(by omega)(by simp;omega)(w6.heap.size+1)(by simp) ?_;intro g7 af w7 ab aa ap hlt7)
   have au:Hid(w7.ownsRow w1.heap.size 9 1(.slice(some⟨g7,0,none⟩)(k+1)af)(k+1)(xf(lW(q.take(k+1))))/\w1.grownBy w7 none):=by
    refine⟨?_,jD(ij ai.out)aa(fun q e=>ay q e)⟩;rw [am.out];exact ab
   clear ab aa ap;go_wp2
   go_roundw
   case rel=>exact⟨k+1,by omega,by go_num,au⟩
   case measure=>simp [intOf];omega
  ·have ek:k=q.length:=by omega
   have q2:(q.length:Int)<=(k:Int):=by omega
   subst ek;have h1:=H1.out;rw [List.take_length]at h1;have aw:(lW q).length=q.length:=by simp [lW]
   have aB:Hid(w.grownBy w5 none):=ic ak.out H2.out;have ad:Hid(Calls Tryz.prog 109 #[.slice x1 q.length x3, .string⟨#[32]⟩]w5 fun e w'=>e= .returned(.string⟨(Lib.join(lW q) [32]).toArray⟩)/\w5.grownBy w' none):=by
    by_cases h0:q.length=0
    ·have aq:q= []:=List.length_eq_zero_iff.1 h0;subst aq;refine(Tryz.strings_Join_none x1 x3⟨#[32]⟩w5).mono ?_;rintro e w'⟨rfl,rfl⟩;exact⟨rfl,il _ _⟩
    ·obtain⟨g,cp,e0,_,ah⟩:=h1.form(by omega);have hcp:q.length<=x3:=by
      rcases h1.2 with⟨_,e1⟩ | ⟨_,_,_,e1,_,_,e2,_⟩
      ·omega
      ·simp only [Value.slice.injEq]at e1;omega
     have an:=h1;rw [e0]at an;simp only [Value.slice.injEq]at e0;obtain⟨rfl,rfl,rfl⟩:=e0;have:=Tryz.strings_Join g 0 x3((lW q).map fun x=>(⟨x.toArray⟩:ByteArray))⟨#[32]⟩w5(fun j x hj=> ?_)ah(by simp;omega)(by simp;omega) ?_
     ·simp only [List.length_map,aw,List.map_map]at this;have e1:((fun(x:ByteArray)=>x.data.toList)∘ fun x:List UInt8=>(⟨x.toArray⟩:ByteArray))=id:=by funext x;rfl
      rw [e1,List.map_id]at this;refine this.mono ?_;rintro e w'⟨rfl,hb⟩;exact⟨rfl,kR hb⟩
     ·have aF:=(List.getElem?_eq_some_iff.1 hj).1;rw [Nat.zero_add,an.cellAt j(by simp at aF;omega)];unfold xf;rw [List.getElem?_map]at hj ⊢;cases hw:(lW q)[j]? with
      | none=>rw [hw]at hj;cases hj
      | some u=>rw [hw]at hj;simp at hj;simp [hj]
     ·have:=C2(lW q)(fun x hx=>by
       simp only [lW,List.mem_map]at hx;obtain⟨y,hy,rfl⟩:=hx;have:=HV.out y hy;exact DK this.1 this.2.1 this.2.2.1 this.2.2.2)
      have e1:((fun(x:ByteArray)=>x.data.toList)∘ fun x:List UInt8=>(⟨x.toArray⟩:ByteArray))=id:=by funext x;rfl
      rw [List.map_map,e1,List.map_id];simp only at this ⊢;omega
   have ar:=iy h1;subst ar;clear h1 H1 HL;go_wp2_with(go_at_call 109;refine ad.out.mono ?_;rintro e w6⟨rfl,ae⟩)
   go_ret;exact⟨by rw [HJ.out];rfl,ic aB.out ae⟩
theorem Ei(l:List Int)(v:Value)(w:World)(hT:Tab w)(hI:IntsAt w.heap.size w v l):
  Calls Tryz.prog 47 #[v]w fun e w'=>w.grownBy w' none/\((i8 l=true/\e= .returned(.tuple #[.string⟨(lU l).toArray⟩, .int .i64 0]))\/(i8 l=false/\e= .returned(.tuple #[.string⟨#[]⟩, .int .i64 2]))):=by
 have HT:=hZ hT;have HI:=hZ hI;obtain⟨ao,cap,rfl⟩:=hI.form;clear hT hI;go_enter Tryz.func47,Tryz.ntmps47
 go_wp2_with fail
 refine(Ae l _ w HI.out).mono ?_;rintro e w1⟨rfl,ab⟩;have aa:=hZ ab;clear ab;cases hv:i8 l with
 | false=>
  go_wp2_with fail
  refine bodyPost_ret(v:= .tuple #[.string⟨#[]⟩, .int .i64 2])(by simp [results,Tryz.results47,go_sem])rfl ?_;exact⟨aa.out,Or.inr⟨hv,rfl⟩⟩
 | true=>
  have HP:=hZ(DC l _ w1(HT.out.grown aa.out)((HI.out.pres(ie aa.out)).mono aa.out.size)hv);go_wp2_with(go_at_call 77;refine HP.out.mono ?_;rintro e w2⟨rfl,ac⟩)
  refine bodyPost_ret(v:= .tuple #[.string⟨(lU l).toArray⟩, .int .i64 0])(by simp [results,Tryz.results47,go_sem])rfl ?_;exact⟨ic aa.out ac,Or.inl⟨hv,rfl⟩⟩
theorem Aq(l:List Nat)(h:(jJ l).ok=true):(jJ l).at_=0:=by
 rw [qF]at h ⊢;unfold lK at*;split at h<;>rename_i h1
 ·rw [if_pos h1]
 ·rw [if_neg h1];cases hw:jg(iY l)(-1) []with
  | none=>rw [hw]at h;cases h
  | some x=>
   rw [hw]at h;simp only at h ⊢;split at h
   ·cases h
   ·rename_i h2;rw [if_neg h2]
theorem Bo(l:List Nat)(h:(jJ l).ok=false):(jJ l).out= []:=by
 rw [qF]at h ⊢;unfold lK at*;split at h<;>rename_i h1
 ·cases h
 ·rw [if_neg h1];cases hw:jg(iY l)(-1) []with
  | none=>rfl
  | some x=>
   rw [hw]at h;simp only at h ⊢;split at h
   ·rename_i h2;rw [if_pos h2]
   ·cases h
def Gm(ok:Bool):Int:=if ok=true then 0 else 4
theorem Eg(s:ByteArray)(w:World)(hs:s.size<=9223372036854775806):
  Calls Tryz.prog 45 #[.string s]w fun e w'=>∃ x y z,e= .returned(.tuple #[.slice x y z, .int .i64(jJ(byt s)).at_, .int .i64(Gm(jJ(byt s)).ok)])/\w'.ownsRow(w.heap.size+1)3 1(.slice x y z)(jJ(byt s)).out.length(iI(jJ(byt s)).out)/\w.grownBy w' none:=by
 go_enter Tryz.func45,Tryz.ntmps45
 go_wp2_with fail
 refine(CH s w hs).mono ?_;rintro e w1⟨x,y,z,rfl,ho,hg⟩;have HO:=hZ ho;have HG:=hZ hg;clear ho hg;cases hok:(jJ(byt s)).ok with
 | true=>
  have h0:(jJ(byt s)).at_=0:=by
   have:=(Aq(byt s))hok;exact this
  rw [h0];go_wp2_with fail
  refine bodyPost_ret(v:= .tuple #[.slice x y z, .int .i64 0, .int .i64 0])(by simp [results,Tryz.results45,go_sem])rfl ?_;exact⟨x,y,z,by rw [h0,hok];rfl,HO.out,HG.out⟩
 | false=>
  have h0:=Bo(byt s)hok;go_wp2_with fail
  refine bodyPost_ret(v:= .tuple #[.slice none 0 0, .int .i64(jJ(byt s)).at_, .int .i64 4])(by simp [results,Tryz.results45,go_sem])rfl ?_;refine⟨none,0,0,by rw [hok];rfl, ?_,HG.out⟩;rw [h0];exact⟨rfl,Or.inl⟨rfl,rfl⟩⟩
end
section
open Go.RowKit
attribute [local go_sem] Go.World.cell?_alloc_some
theorem wo(s:ByteArray)(p:Nat->Bool)(k:Nat)(h:k<s.size):((byt s).take(k+1)).all p=(((byt s).take k).all p && p s[k].toNat):=by
 have hk:k<(byt s).length:=by rw [iP];exact h
 rw [la(byt s)p k hk];have:(byt s)[k]=s[k].toNat:=by
  have:=mr s k h;rw [List.getElem?_eq_getElem hk]at this;exact Option.some.inj this
 rw [this]
theorem zB(s:ByteArray):byt s=s.toList.map UInt8.toNat:=by rw [ByteArray.toList_eq];rfl
theorem Cj(s:ByteArray)(l:List UInt8):byt s=l.map UInt8.toNat↔s.toList=l:=by
 rw [zB];constructor
 ·intro h;exact(List.map_inj_right(fun a b h=>UInt8.toNat_inj.1 h)).1 h
 ·intro h;rw [h]
theorem nJ(s:ByteArray):byt s= []↔s.toList= []:=Cj s []
theorem pK(s:ByteArray):byt s= [48]↔s.toList= [48]:=Cj s [48]
theorem De(s:ByteArray)(h:0<s.size):(byt s).head?=some s[0].toNat:=by
 rw [List.head?_eq_getElem?];exact mr s 0 h
theorem Dn {s:ByteArray}(h:¬s.toList= []):0<s.size:=by
 by_cases h0:s.size=0
 ·exact absurd((nJ s).1(List.length_eq_zero_iff.1(by rw [iP];exact h0)))h
 ·omega
theorem lA(s:ByteArray)(w:World)(hs:s.size<=9223372036854775806):
  Calls Tryz.prog 105 #[.string s]w fun e w'=>e= .returned(.bool(iZ(byt s)))/\w'=w:=by
 go_enter Tryz.func105,Tryz.ntmps105
 go_wp2
 go_loopw [3](fun i w'=>∃ k:Nat,k<=s.size/\i= .int .i64 k/\Hid(w'=w)/\Hid(((byt s).take k).all isD=true))(fun i _=>s.size - (intOf i).toNat)
 case atStart=>exact⟨0,Nat.zero_le _,rfl,rfl,rfl⟩
 case round=>
  obtain⟨k,hk,rfl,HW,HA⟩:=hrel;obtain rfl:=HW.out;by_cases ae:k<s.size
  ·have ad:=hZ(wo s isD k ae);have hk0:(0:Int)<=(k:Int):=by omega
   have hk1:(k:Int)<s.size:=by omega
   have HF:Hid(isD s[k].toNat=false->iZ(byt s)=false):=by
    intro h;have:((byt s).take(k+1)).all isD=false:=by rw [ad.out,h];simp
    unfold iZ;rw [<-List.take_append_drop(k+1)(byt s),List.all_append,this];rfl
   by_cases h0:s[k].toNat<48
   ·have ac:((s[k].toNat:Nat):Int)<48:=by omega
    have HE:=hZ(HF.out(by simp [isD];omega));go_wp2
    go_ret;exact⟨by rw [HE.out];rfl,rfl⟩
   ·have ac:¬((s[k].toNat:Nat):Int)<48:=by omega
    by_cases h1:s[k].toNat<=57
    ·have af:¬57<((s[k].toNat:Nat):Int):=by omega
     have aa:Hid(((byt s).take(k+1)).all isD=true):=by unfold Hid;rw [ad.out,HA.out];simp [isD];omega
     go_wp2
     go_roundw
     case rel=>exact⟨k+1,by omega,by go_num,hZ trivial,aa⟩
     case measure=>simp [intOf];omega
    ·have af:57<((s[k].toNat:Nat):Int):=by omega
     have HE:=hZ(HF.out(by simp [isD];omega));go_wp2
     go_ret;exact⟨by rw [HE.out];rfl,rfl⟩
  ·have aa:Hid((byt s).all isD=true):=by
    have:=HA.out;rw [List.take_of_length_le(by rw [iP];omega)]at this;exact this
   have q2:(s.size:Int)<=(k:Int):=by omega
   by_cases ha:s.toList= [48]
   ·have HE:Hid(iZ(byt s)=true):=by unfold Hid;rw [(pK s).2 ha];rfl
    go_wp2_with fail
    go_ret;exact⟨by rw [HE.out];rfl,rfl⟩
   ·by_cases hb:s.toList= []
    ·have HE:Hid(iZ(byt s)=false):=by unfold Hid;rw [(nJ s).2 hb];rfl
     go_wp2_with fail
     go_ret;exact⟨by rw [HE.out];rfl,rfl⟩
    ·have h0:=Dn hb;have HE:Hid(iZ(byt s)=(s.toList== [48] || (!s.toList.isEmpty &&(((s[0].toNat:Nat):Int) !=48)))):=by
      unfold Hid iZ;have e1:(byt s== [48])=false:=by simpa using fun e=>ha((pK s).1 e)
      have e2:(byt s== [])=false:=by simpa using fun e=>hb((nJ s).1 e)
      have e3:(s.toList== [48])=false:=by simpa using ha
      have e4:s.toList.isEmpty=false:=by simpa using hb
      rw [aa.out,e1,e2,e3,e4,De s h0];by_cases ab:s[0].toNat=48
      ·simp [ab]
      ·have h5:((s[0].toNat:Nat):Int)≠48:=by omega
       have h6:(((s[0].toNat:Nat):Int) !=48)=true:=by simpa using h5
       rw [h6];simpa using ab
     have ac:(0:Int)<s.size:=by omega
     go_wp2_with fail
     all_goals
      go_ret;exact⟨by rw [HE.out];rfl,rfl⟩
theorem zA(n:Int)(s:ByteArray)(k:Nat)(h:k<s.size):iB n((byt s).drop k)=if n<1000 then iB(10*n+(((s[k].toNat+208) % 256:Nat):Int))((byt s).drop(k+1))else min n 1000:=by
 rw [nx(mr s k h),iB]
theorem A9(n:Int)(s:ByteArray)(k:Nat)(h:s.size<=k):iB n((byt s).drop k)=min n 1000:=by
 rw [List.drop_eq_nil_of_le(by rw [iP];exact h),iB]
theorem lz(s:ByteArray)(w:World)(hs:s.size<=9223372036854775806):
  Calls Tryz.prog 106 #[.string s]w fun e w'=>e= .returned(.int .i64(iB 0(byt s)))/\w'=w:=by
 go_enter Tryz.func106,Tryz.ntmps106
 go_wp2
 go_loopw [3,4](fun v i w'=>∃ (k:Nat)(n:Int),k<=s.size/\i= .int .i64 k/\v= .int .i64 n/\Hid(w'=w)/\Hid(0<=n/\n<=20000/\iB n((byt s).drop k)=iB 0(byt s)))(fun _ i _=>s.size - (intOf i).toNat)
 case atStart=>exact⟨0,0,Nat.zero_le _,rfl,rfl,rfl,by simp [Hid]⟩
 case round=>
  obtain⟨k,n,hk,rfl,rfl,HW,HA⟩:=hrel;obtain rfl:=HW.out;obtain⟨hn0,hn1,ab⟩:=HA.out;have aa:=hZ ab;clear ab HA;by_cases ad:k<s.size
  ·have hk0:(0:Int)<=(k:Int):=by omega
   have hk1:(k:Int)<s.size:=by omega
   have hb:=s[k].toNat_lt;have HS:=hZ(zA n s k ad);by_cases h1:n<1000
   ·have hu:IntKind.u8.wrap(((s[k].toNat:Nat):Int) - 48)=(((s[k].toNat+208) % 256:Nat):Int):=by
     simp only [IntKind.wrap,IntKind.signed,IntKind.bits];simp;omega
    have ac:Hid(iB(10*n+(((s[k].toNat+208) % 256:Nat):Int))((byt s).drop(k+1))=iB 0(byt s)):=by
     unfold Hid;rw [<-aa.out,HS.out,if_pos h1]
    have hm:(s[k].toNat+208) % 256<256:=Nat.mod_lt _(by decide);generalize((s[k].toNat+208) % 256)=d at*;have hd0:(0:Int)<=(d:Int):=by omega
    have hd1:(d:Int)<256:=by omega
    go_wp2_with fail
    go_roundw
    case rel=>exact⟨k+1,_,by omega,by go_num,rfl,hZ trivial,hZ⟨by omega,by omega,ac.out⟩⟩
    case measure=>simp [intOf];omega
   ·have HE:Hid(iB 0(byt s)=1000):=by unfold Hid;rw [<-aa.out,HS.out,if_neg h1];omega
    by_cases h2:1000<n
    ·go_wp2_with fail
     go_ret;exact⟨by rw [HE.out];rfl,rfl⟩
    ·have h3:Hid(n=1000):=by unfold Hid;omega
     go_wp2_with fail
     go_ret;exact⟨by rw [HE.out,<-h3.out];rfl,rfl⟩
  ·have HE:Hid(iB 0(byt s)=min n 1000):=by unfold Hid;rw [<-aa.out,A9 n s k(by omega)]
   have q2:(s.size:Int)<=(k:Int):=by omega
   by_cases h2:1000<n
   ·have h3:Hid(min n 1000=1000):=by unfold Hid;omega
    go_wp2_with fail
    go_ret;exact⟨by rw [HE.out,h3.out];rfl,rfl⟩
   ·have h3:Hid(min n 1000=n):=by unfold Hid;omega
    go_wp2_with fail
    go_ret;exact⟨by rw [HE.out,h3.out];rfl,rfl⟩
theorem nM(s:ByteArray)(a b:Nat):byt(s.extract a b)=((byt s).take b).drop a:=by
 unfold byt;rw [ByteArray.data_extract,Array.toList_extract,List.extract_eq_take_drop,List.map_take,List.map_drop];rw [List.drop_take]
theorem Fj(l:List Nat)(k:Nat)(hk:l[k]?=some 42)(h:∀ x∈l.take k,x≠42):jj l=l.take k/\na l=l.drop(k+1)/\lG l=true:=by
 have e:l=l.take k++42::l.drop(k+1):=by rw [<-nx hk,List.take_append_drop]
 have:=pD(bb:=l.drop(k+1))h;rw [<-e]at this;exact this
theorem xW(s:ByteArray)(w:World)(hs:s.size<=9223372036854775806):
  Calls Tryz.prog 104 #[.string s]w fun e w'=>jr w' w/\∃ a b,e= .returned(.tuple #[.string a, .string b, .bool(lG(byt s))])/\byt a=jj(byt s)/\byt b=na(byt s)/\a.size<=s.size/\b.size<=s.size:=by
 go_enter Tryz.func104,Tryz.ntmps104
 go_wp2
 go_loopw [5](fun i w'=>∃ k:Nat,k<=s.size/\i= .int .i64 k/\Hid(w'=w)/\Hid(∀ x∈(byt s).take k,x≠42))(fun i _=>s.size - (intOf i).toNat)
 case atStart=>exact⟨0,Nat.zero_le _,rfl,rfl,by simp [Hid]⟩
 case round=>
  obtain⟨k,hk,rfl,HW,HA⟩:=hrel;obtain rfl:=HW.out;by_cases ad:k<s.size
  ·have hk0:(0:Int)<=(k:Int):=by omega
   have hk1:(k:Int)<s.size:=by omega
   have hk2:(k:Int)<=s.size:=by omega
   have hk3:(k:Int)+1<=s.size:=by omega
   have HG:=hZ(mr s k ad);by_cases ab:s[k].toNat=42
   ·have aa:((s[k].toNat:Nat):Int)=42:=by omega
    have h42'':(((s[k].toNat:Nat):Int)==42)=true:=by simpa using aa
    have HH:Hid(jj(byt s)=(byt s).take k/\na(byt s)=(byt s).drop(k+1)/\lG(byt s)=true):=Fj _ k(by rw [HG.out,ab])HA.out;clear ab aa;go_wp2_with fail
    go_quiet(fail)
    go_wp2_with fail
    refine bodyPost_ret(v:= .tuple #[.string(s.extract 0 k), .string(s.extract(k+1)s.size), .bool true])(by simp [results,Tryz.results104,go_sem])rfl ?_;refine⟨jR(jp _)_,_,_,by rw [HH.out.2.2], ?_, ?_,by simp<;>omega,by simp<;>omega⟩
    ·rw [HH.out.1,nM,List.drop_zero]
    ·rw [HH.out.2.1,nM,List.take_of_length_le(by rw [iP];exact Nat.le_refl _)]
   ·have aa:((s[k].toNat:Nat):Int)≠42:=by omega
    have ae:Hid(∀ x∈(byt s).take(k+1),x≠42):=by
     intro x hx;have ac:k<(byt s).length:=by rw [iP];exact ad
     rw [List.take_succ_eq_append_getElem ac]at hx;rcases List.mem_append.1 hx with hx | hx
     ·exact HA.out x hx
     ·have e:=HG.out;rw [List.getElem?_eq_getElem ac]at e;rw [Option.some.inj e]at hx;simp at hx;rw [hx];exact ab
    clear ab;go_wp2_with fail
    go_roundw
    case rel=>exact⟨k+1,by omega,by go_num,hZ trivial,ae⟩
    case measure=>simp [intOf];omega
  ·have q2:(s.size:Int)<=(k:Int):=by omega
   have HH:Hid(jj(byt s)=byt s/\na(byt s)= []/\lG(byt s)=false):=by
    have:=HA.out;rw [List.take_of_length_le(by rw [iP];omega)]at this;exact px this
   go_wp2_with fail
   refine bodyPost_ret(v:= .tuple #[.string s, .string⟨#[]⟩, .bool false])(by simp [results,Tryz.results104,go_sem])rfl ?_;exact⟨jp _,s,⟨#[]⟩,by rw [HH.out.2.2],HH.out.1.symm,HH.out.2.1.symm,Nat.le_refl _,Nat.zero_le _⟩
end
section
open Go.RowKit
attribute [local go_sem] Go.World.cell?_alloc_some
def F8(o:Option(Int × Int)):Value:=match o with
 | none=> .tuple #[.int .i64 0, .int .i64 0, .bool false]
 | some(t,n)=> .tuple #[.int .i64 t, .int .i64 n, .bool true]
theorem Gd(s:ByteArray)(aa:Int)(w:World)(hs:s.size<=9223372036854775806):
  Calls Tryz.prog 103 #[.string s, .int .i64 aa]w fun e w'=>jr w' w/\e= .returned(F8(kT(byt s)aa)):=by
 go_enter Tryz.func103,Tryz.ntmps103
 go_wp2_with fail
 refine(xW s w hs).mono ?_;rintro e w1⟨hl,a,b,rfl,ha,hb,ae,af⟩;have HL:=hZ hl;have hR:kT(byt s)aa=if(!iZ(byt a) || decide(63<iB 0(byt a)) || (iB 0(byt a)==aa))=true then none
  else if(lG(byt s)&&(!iZ(byt b) || decide(iB 0(byt b)<2)))=true then none
  else if lG(byt s)=true then some(iB 0(byt a),iB 0(byt b))else some(iB 0(byt a),1):=by rw [ha,hb];rfl
 have hza:a.size<=9223372036854775806:=by omega
 have hzb:b.size<=9223372036854775806:=by omega
 have HR:=hZ hR;clear hl ha hb ae af hs hR;cases hpa:iZ(byt a)with
 | false=>
  have HE:Hid(kT(byt s)aa=none):=by unfold Hid;rw [HR.out,hpa];simp
  go_wp2_with(first | (go_at_call 105;refine(lA _ _(by assumption)).mono ?_;rintro e w'⟨rfl,rfl⟩;first | rw [hpa]) | (go_at_call 106;refine(lz _ _(by assumption)).mono ?_;rintro e w'⟨rfl,rfl⟩))
  refine bodyPost_ret(v:= .tuple #[.int .i64 0, .int .i64 0, .bool false])(by simp [results,Tryz.results103,go_sem])rfl ?_;exact⟨HL.out,by rw [HE.out];rfl⟩
 | true=>
  by_cases ad:63<iB 0(byt a)
  ·have HE:Hid(kT(byt s)aa=none):=by unfold Hid;rw [HR.out,hpa];simp [ad]
   go_wp2_with(first | (go_at_call 105;refine(lA _ _(by assumption)).mono ?_;rintro e w'⟨rfl,rfl⟩;first | rw [hpa]) | (go_at_call 106;refine(lz _ _(by assumption)).mono ?_;rintro e w'⟨rfl,rfl⟩))
   refine bodyPost_ret(v:= .tuple #[.int .i64 0, .int .i64 0, .bool false])(by simp [results,Tryz.results103,go_sem])rfl ?_;exact⟨HL.out,by rw [HE.out];rfl⟩
  ·by_cases ab:iB 0(byt a)=aa
   ·have HE:Hid(kT(byt s)aa=none):=by unfold Hid;rw [HR.out,hpa];simp [ab]
    have hq:(iB 0(byt a)==aa)=true:=by simpa using ab
    clear ab;go_wp2_with(first | (go_at_call 105;refine(lA _ _(by assumption)).mono ?_;rintro e w'⟨rfl,rfl⟩;first | rw [hpa]) | (go_at_call 106;refine(lz _ _(by assumption)).mono ?_;rintro e w'⟨rfl,rfl⟩))
    refine bodyPost_ret(v:= .tuple #[.int .i64 0, .int .i64 0, .bool false])(by simp [results,Tryz.results103,go_sem])rfl ?_;exact⟨HL.out,by rw [HE.out];rfl⟩
   ·have hq:(iB 0(byt a)==aa)=false:=by simpa using ab
    have ac:Hid(kT(byt s)aa=if(lG(byt s)&&(!iZ(byt b) || decide(iB 0(byt b)<2)))=true then none else if lG(byt s)=true then some(iB 0(byt a),iB 0(byt b))else some(iB 0(byt a),1)):=by
     unfold Hid;rw [HR.out,hq,hpa];have:decide(63<iB 0(byt a))=false:=by simpa using ad
     rw [this];simp
    clear ab;cases hst:lG(byt s)with
    | false=>
     have HE:Hid(kT(byt s)aa=some(iB 0(byt a),1)):=by unfold Hid;rw [ac.out,hst];simp
     cases hpb:iZ(byt b)with
     | true=>
      go_wp2_with(first | (go_at_call 105;refine(lA _ _(by assumption)).mono ?_;rintro e w'⟨rfl,rfl⟩;first | rw [hpa] | rw [hpb]) | (go_at_call 106;refine(lz _ _(by assumption)).mono ?_;rintro e w'⟨rfl,rfl⟩))
      refine bodyPost_ret(v:= .tuple #[.int .i64(iB 0(byt a)), .int .i64 1, .bool true])(by simp [results,Tryz.results103,go_sem])rfl ?_;exact⟨HL.out,by rw [HE.out];rfl⟩
     | false=>
      go_wp2_with(first | (go_at_call 105;refine(lA _ _(by assumption)).mono ?_;rintro e w'⟨rfl,rfl⟩;first | rw [hpa] | rw [hpb]) | (go_at_call 106;refine(lz _ _(by assumption)).mono ?_;rintro e w'⟨rfl,rfl⟩))
      refine bodyPost_ret(v:= .tuple #[.int .i64(iB 0(byt a)), .int .i64 1, .bool true])(by simp [results,Tryz.results103,go_sem])rfl ?_;exact⟨HL.out,by rw [HE.out];rfl⟩
    | true=>
     cases hpb:iZ(byt b)with
     | false=>
      have HE:Hid(kT(byt s)aa=none):=by unfold Hid;rw [ac.out,hst,hpb];simp
      go_wp2_with(first | (go_at_call 105;refine(lA _ _(by assumption)).mono ?_;rintro e w'⟨rfl,rfl⟩;first | rw [hpa] | rw [hpb]) | (go_at_call 106;refine(lz _ _(by assumption)).mono ?_;rintro e w'⟨rfl,rfl⟩))
      refine bodyPost_ret(v:= .tuple #[.int .i64 0, .int .i64 0, .bool false])(by simp [results,Tryz.results103,go_sem])rfl ?_;exact⟨HL.out,by rw [HE.out];rfl⟩
     | true=>
      by_cases h2:iB 0(byt b)<2
      ·have HE:Hid(kT(byt s)aa=none):=by unfold Hid;rw [ac.out,hst,hpb];simp [h2]
       go_wp2_with(first | (go_at_call 105;refine(lA _ _(by assumption)).mono ?_;rintro e w'⟨rfl,rfl⟩;first | rw [hpa] | rw [hpb]) | (go_at_call 106;refine(lz _ _(by assumption)).mono ?_;rintro e w'⟨rfl,rfl⟩))
       refine bodyPost_ret(v:= .tuple #[.int .i64 0, .int .i64 0, .bool false])(by simp [results,Tryz.results103,go_sem])rfl ?_;exact⟨HL.out,by rw [HE.out];rfl⟩
      ·have HE:Hid(kT(byt s)aa=some(iB 0(byt a),iB 0(byt b))):=by unfold Hid;rw [ac.out,hst,hpb];simp [h2]
       go_wp2_with(first | (go_at_call 105;refine(lA _ _(by assumption)).mono ?_;rintro e w'⟨rfl,rfl⟩;first | rw [hpa] | rw [hpb]) | (go_at_call 106;refine(lz _ _(by assumption)).mono ?_;rintro e w'⟨rfl,rfl⟩))
       refine bodyPost_ret(v:= .tuple #[.int .i64(iB 0(byt a)), .int .i64(iB 0(byt b)), .bool true])(by simp [results,Tryz.results103,go_sem])rfl ?_;exact⟨HL.out,by rw [HE.out];rfl⟩
theorem BK(s:ByteArray)(aa:Int)(w:World)(hs:s.size<=9223372036854775806):
  Calls Tryz.prog 75 #[.string s, .int .i64 aa]w fun e w'=>jr w' w/\e= .returned(.bool(jc(byt s)aa)):=by
 go_enter Tryz.func75,Tryz.ntmps75
 go_wp2_with fail
 refine(xW s w hs).mono ?_;rintro e w1⟨hl,a,b,rfl,ha,hb,ah,af⟩;have HL:=hZ hl;by_cases h0:s.toList= []
 ·have HE:Hid(jc(byt s)aa=true):=by unfold Hid;rw [(nJ s).2 h0];rfl
  clear hl ha hb ah af hs;generalize lG(byt s)=st at*;go_wp2_with fail
  go_ret;exact⟨HL.out,by rw [HE.out];rfl⟩
 ·have ac:(byt b= [])↔b.toList= []:=nJ b;have ad:(byt b= [48])↔b.toList= [48]:=pK b;have hR:jc(byt s)aa=if(!iZ(byt a) || decide(63<iB 0(byt a)))=true then false
   else if lG(byt s)=true then !(iB 0(byt a)==aa)&&((byt b== []) || (iZ(byt b)&& !(byt b== [48])))
   else !(iB 0(byt a)==aa) || (decide(1<=iB 0(byt a))&& decide(iB 0(byt a)<=6)):=by
   conv=>lhs;unfold jc
   rw [if_neg(fun e=>h0((nJ s).1 e)),ha,hb]
  have ae:(byt b== [])=b.toList.isEmpty:=by
   by_cases h:b.toList= []
   ·rw [ac.2 h,h];rfl
   ·have h2:byt b≠ []:=fun e=>h(ac.1 e)
    have h3:b.toList.isEmpty=false:=by simpa using h
    rw [h3];simpa using h2
  have ai:(byt b== [48])=(b.toList== [48]):=by
   by_cases h:b.toList= [48]
   ·rw [ad.2 h,h];rfl
   ·have h2:byt b≠ [48]:=fun e=>h(ad.1 e)
    have h3:(b.toList== [48])=false:=by simpa using h
    rw [h3];simpa using h2
  rw [ae,ai]at hR;have hza:a.size<=9223372036854775806:=by omega
  have hzb:b.size<=9223372036854775806:=by omega
  have HR:=hZ hR;have hie:s.toList.isEmpty=false:=by simpa using h0
  clear hl ha hb ah af hs ac ad ae ai hR h0;cases hpa:iZ(byt a)with
  | false=>
   have HE:Hid(jc(byt s)aa=false):=by unfold Hid;rw [HR.out,hpa];simp
   go_wp2_with(first | (go_at_call 105;refine(lA _ _(by assumption)).mono ?_;rintro e w'⟨rfl,rfl⟩;first | rw [hpa]) | (go_at_call 106;refine(lz _ _(by assumption)).mono ?_;rintro e w'⟨rfl,rfl⟩))
   go_ret;exact⟨HL.out,by rw [HE.out];rfl⟩
  | true=>
   by_cases ag:63<iB 0(byt a)
   ·have HE:Hid(jc(byt s)aa=false):=by unfold Hid;rw [HR.out,hpa];simp [ag]
    go_wp2_with(first | (go_at_call 105;refine(lA _ _(by assumption)).mono ?_;rintro e w'⟨rfl,rfl⟩;first | rw [hpa]) | (go_at_call 106;refine(lz _ _(by assumption)).mono ?_;rintro e w'⟨rfl,rfl⟩))
    go_ret;exact⟨HL.out,by rw [HE.out];rfl⟩
   ·have ab:Hid(jc(byt s)aa=if lG(byt s)=true then !(iB 0(byt a)==aa)&&(b.toList.isEmpty || (iZ(byt b)&& !(b.toList== [48])))else !(iB 0(byt a)==aa) || (decide(1<=iB 0(byt a))&& decide(iB 0(byt a)<=6))):=by
     unfold Hid;rw [HR.out,hpa];have:decide(63<iB 0(byt a))=false:=by simpa using ag
     rw [this];simp
    clear HR;cases hst:lG(byt s)with
    | false=>
     rw [hst]at ab;simp only [Bool.false_eq_true,if_false]at ab;go_wp2_with(first | (go_at_call 105;refine(lA _ _(by assumption)).mono ?_;rintro e w'⟨rfl,rfl⟩;first | rw [hpa]) | (go_at_call 106;refine(lz _ _(by assumption)).mono ?_;rintro e w'⟨rfl,rfl⟩))
     all_goals
      go_ret;refine⟨HL.out, ?_⟩;rw [ab.out];simp [*]<;>first | rfl | omega
    | true=>
     rw [hst]at ab;simp only [if_true]at ab;cases hpb:iZ(byt b)with
     | true=>
      rw [hpb]at ab;go_wp2_with(first | (go_at_call 105;refine(lA _ _(by assumption)).mono ?_;rintro e w'⟨rfl,rfl⟩;first | rw [hpa] | rw [hpb]) | (go_at_call 106;refine(lz _ _(by assumption)).mono ?_;rintro e w'⟨rfl,rfl⟩))
      all_goals
       go_ret;refine⟨HL.out, ?_⟩;rw [ab.out];simp [*]<;>first | rfl | omega
     | false=>
      rw [hpb]at ab;go_wp2_with(first | (go_at_call 105;refine(lA _ _(by assumption)).mono ?_;rintro e w'⟨rfl,rfl⟩;first | rw [hpa] | rw [hpb]) | (go_at_call 106;refine(lz _ _(by assumption)).mono ?_;rintro e w'⟨rfl,rfl⟩))
      all_goals
       go_ret;refine⟨HL.out, ?_⟩;rw [ab.out];simp [*]<;>first | rfl | omega
end
section
open Go.RowKit
attribute [local go_sem] Go.World.cell?_alloc_some
def vA(L:List ByteArray):List Value:=L.map fun x=> .string x
theorem qu(s:ByteArray)(f k:Nat)(_hf:f<=k):byt(s.extract f k)=((byt s).drop f).take(k - f):=by
 rw [nM,List.drop_take]
structure PtsIn(s:ByteArray)(D:List ByteArray)(f k:Nat):Prop where
 le:k<=s.size
 fk:f<=k
 no:∀ x∈((byt s).drop f).take(k - f),x≠32
 eq:iY(byt s)=D.map byt++iY((byt s).drop f)
 sz:∀ x∈D,x.size<=s.size
 ln:D.length<=f
theorem PtsIn.cut {s:ByteArray} {D:List ByteArray} {f k:Nat}(h:PtsIn s D f k)(hk:(byt s)[k]?=some 32)(hlt:k<s.size):PtsIn s(D++ [s.extract f k])(k+1)(k+1):=by
 have hf:=h.fk;refine⟨by omega,Nat.le_refl _,by simp, ?_, ?_,by have:=h.ln;simp;omega⟩
 ·rw [h.eq,List.map_append,List.append_assoc];congr 1
  have e:(byt s).drop f=((byt s).drop f).take(k - f)++32::(byt s).drop(k+1):=by
   have h1:=nx hk;have h2:((byt s).drop f).drop(k - f)=(byt s).drop k:=by rw [List.drop_drop];congr 1;omega
   conv=>lhs;rw [<-List.take_append_drop(k - f)((byt s).drop f),h2,h1]
  rw [e,rN _ _ h.no];simp [qu s f k hf]
 ·intro x hx;rcases List.mem_append.1 hx with hx | hx
  ·exact h.sz x hx
  ·simp at hx;rw [hx];simp;omega
theorem PtsIn.step {s:ByteArray} {D:List ByteArray} {f k:Nat}(h:PtsIn s D f k)(aa:k<s.size)(hk:s[k].toNat≠32):PtsIn s D f(k+1):=by
 have hf:=h.fk;refine⟨by omega,by omega, ?_,h.eq,h.sz,h.ln⟩;intro x hx;have hl:k - f<((byt s).drop f).length:=by rw [List.length_drop,iP];omega
 have e:k+1 - f=(k - f)+1:=by omega
 rw [e,List.take_succ_eq_append_getElem hl]at hx;rcases List.mem_append.1 hx with hx | hx
 ·exact h.no x hx
 ·have e2:((byt s).drop f)[k - f]?=some s[k].toNat:=by
   rw [List.getElem?_drop,show f+(k - f)=k by omega];exact mr s k aa
  rw [List.getElem?_eq_getElem hl]at e2;rw [Option.some.inj e2]at hx;simp at hx;rw [hx];exact hk
theorem PtsIn.fin {s:ByteArray} {D:List ByteArray} {f:Nat}(h:PtsIn s D f s.size):iY(byt s)=(D++ [s.extract f s.size]).map byt/\(∀ x∈D++ [s.extract f s.size],x.size<=s.size)/\(D++ [s.extract f s.size]).length<=s.size+1:=by
 have hf:=h.fk;have hn:=h.no;have e0:((byt s).drop f).take(s.size - f)=(byt s).drop f:=List.take_of_length_le(by rw [List.length_drop,iP];omega);rw [e0]at hn;refine⟨?_, ?_,by have:=h.ln;simp;omega⟩
 ·rw [h.eq,ro _ hn,List.map_append];simp [qu s f s.size hf,e0]
 ·intro x hx;rcases List.mem_append.1 hx with hx | hx
  ·exact h.sz x hx
  ·simp at hx;rw [hx];simp
theorem Fb(s:ByteArray)(w:World)(hs:s.size<=1048576):
  Calls Tryz.prog 74 #[.string s]w fun e w'=>∃ (L:List ByteArray)(x:Option Addr)(z:Nat),e= .returned(.slice x L.length z)/\L.map byt=iY(byt s)/\(∀ y∈L,y.size<=s.size)/\w'.ownsRow w.heap.size 9 1(.slice x L.length z)L.length(vA L)/\w.grownBy w' none:=by
 obtain⟨i0,ak,al,an,ao⟩:=info_parts xN;have H0:Hid(PtsIn s []0 0):=⟨by omega,by omega,by simp,by simp,by simp,by simp⟩;go_enter Tryz.func74,Tryz.ntmps74
 go_wp2_with fail
 go_loopw [3,4,5](fun lv fv i w'=>∃ (D:List ByteArray)(f k:Nat),i= .int .i64 k/\fv= .int .i64 f/\k<=s.size+1/\Hid(PtsIn s D f k\/(k=s.size+1/\D.map byt=iY(byt s)/\(∀ y∈D,y.size<=s.size)))/\Hid(D.length<=k)/\Hid(w'.ownsRow w.heap.size 9 1 lv D.length(vA D)/\w.grownBy w' none))(fun _ _ i _=>s.size+1 - (intOf i).toNat)
 case atStart=>exact⟨[],0,0,rfl,rfl,by omega,hZ(Or.inl H0.out),hZ(by simp),⟨rfl,Or.inl⟨rfl,rfl⟩⟩,il _ _⟩
 case round=>
  obtain⟨D,f,k,rfl,rfl,hk,HP,HD,HL⟩:=hrel;obtain⟨w5,av⟩:∃ w5,w5=wr:=⟨_,rfl⟩;subst av;obtain⟨x1,x2,x3,rfl⟩:=iq HL.out.1;have ar:=iy HL.out.1;subst ar;have H1:=hZ HL.out.1;have H2:=hZ HL.out.2;have hsz2:=HL.out.2.size;have ap:=iw H1.out;have hDl:=HD.out;have am:D.length+1<=maxLen:=by unfold maxLen;omega
  rcases HP.out with hp | ⟨hk1,hd1,hd2⟩
  ·have ag:=hZ hp;have aq:=hp.le;have hfk:=hp.fk;have q0:(k:Int)<=s.size:=by omega
   have q1:(0:Int)<=(f:Int):=by omega
   have q2:(f:Int)<=k:=by omega
   have ad:Hid(∀ (w6:World)(g6 ac:Nat),w6.ownsRow w.heap.size 9 1(.slice(some⟨g6,0,none⟩)(D.length+1)ac)(D.length+1)(vA D++ [.string(s.extract f k)])->(w5.alloc(.cells #[.string(s.extract f k)]9)).grownBy w6(Value.slice x1 D.length x3).ownBlock->w6.ownsRow w.heap.size 9 1(.slice(some⟨g6,0,none⟩)(D.length+1)ac)(D++ [s.extract f k]).length(vA(D++ [s.extract f k]))/\w.grownBy w6 none):=by
    intro w6 g6 ac h1 h2;refine⟨?_,jD(ij H2.out)h2(fun q e=>ap q e)⟩;simpa [vA]using h1
   clear hp HP HL;by_cases ai:k<s.size
   ·have q3:(k:Int)<s.size:=by omega
    have q4:((k:Int)==(s.size:Int))=false:=by simp;omega
    by_cases ae:s[k].toNat=32
    ·have aj:(((s[k].toNat:Nat):Int)==32)=true:=by simp;omega
     have HN:Hid(PtsIn s(D++ [s.extract f k])(k+1)(k+1)):=ag.out.cut(by rw [mr s k ai,ae])ai;clear ae;go_wp2_with(at_builtin;refine wpList_append_lies _ rfl _ _ _ rfl w.heap.size 9 i0 _ 1 16 Tryz.underlying24 ak al an ao rfl(by omega)(.slice x1 D.length x3)D.length(vA D)rfl(iG H1.out)⟨w5.heap.size,0,none⟩1 1 [.string(s.extract f k)]rfl rfl(World.news_of_block(cs:= #[.string(s.extract f k)])(t:=9)(fr:=(0,0))(heap_alloc_new w5 _))(by simp [Value.oneCell'])(by omega)am(by omega)(by simp;omega)(w5.heap.size+1)(by simp) ?_;intro g6 ac w6 ab aa af ah;have F:=hZ(ad.out w6 g6 ac ab aa);clear ab aa af)
     go_roundw
     case rel=>exact⟨D++ [s.extract f k],k+1,k+1,by go_num,by go_num,by omega,hZ(Or.inl HN.out),hZ(by simp;omega),F⟩
     case measure=>simp [intOf];omega
    ·have aj:(((s[k].toNat:Nat):Int)==32)=false:=by simp;omega
     have HN:Hid(PtsIn s D f(k+1)):=ag.out.step ai ae;clear ae;go_wp2_with fail
     go_roundw
     case rel=>exact⟨D,f,k+1,by go_num,rfl,by omega,hZ(Or.inl HN.out),hZ(by omega),H1.out,H2.out⟩
     case measure=>simp [intOf];omega
   ·have ek:k=s.size:=by omega
    have q4:((k:Int)==(s.size:Int))=true:=by simp;omega
    have q5:k<=s.size:=aq;have HN:Hid(iY(byt s)=(D++ [s.extract f k]).map byt/\(∀ x∈D++ [s.extract f k],x.size<=s.size)/\(D++ [s.extract f k]).length<=s.size+1):=by
     have:=ag.out;rw [ek]at this ⊢;exact this.fin
    have au:=hZ ek;clear ek;go_wp2_with(at_builtin;refine wpList_append_lies _ rfl _ _ _ rfl w.heap.size 9 i0 _ 1 16 Tryz.underlying24 ak al an ao rfl(by omega)(.slice x1 D.length x3)D.length(vA D)rfl(iG H1.out)⟨w5.heap.size,0,none⟩1 1 [.string(s.extract f k)]rfl rfl(World.news_of_block(cs:= #[.string(s.extract f k)])(t:=9)(fr:=(0,0))(heap_alloc_new w5 _))(by simp [Value.oneCell'])(by omega)am(by omega)(by simp;omega)(w5.heap.size+1)(by simp) ?_;intro g6 ac w6 ab aa af ah;have F:=hZ(ad.out w6 g6 ac ab aa);clear ab aa af)
    go_roundw
    case rel=>exact⟨D++ [s.extract f k],k+1,k+1,by go_num,by go_num,by omega,hZ(Or.inr⟨by rw [au.out],HN.out.1.symm,HN.out.2.1⟩),hZ(by simp;omega),F⟩
    case measure=>simp [intOf];omega
  ·have q0:(s.size:Int)<k:=by omega
   have HE:=hZ hd1;have HS:=hZ hd2;clear hd1 hd2 hk1 HP HL;go_wp2_with fail
   go_ret;exact⟨D,x1,x3,rfl,HE.out,HS.out,H1.out,H2.out⟩
end
section
open Go.RowKit
attribute [local go_sem] Go.World.cell?_alloc_some
def StrsAt(w:World)(v:Value)(L:List ByteArray):Prop:=
 ∃ ao cap,v= .slice ao L.length cap/\∀ k(hk:k<L.length),∃ g o,ao=some⟨g,o,none⟩/\w.cell?⟨g,o+k,none⟩=some(.string L[k])
theorem StrsAt.pres {w w':World} {v:Value} {L:List ByteArray}(h:StrsAt w v L)(hp:Pres w w'):StrsAt w' v L:=by
 obtain⟨ao,aa,e,hc⟩:=h;exact⟨ao,aa,e,fun k hk=>by obtain⟨g,o,e2,c⟩:=hc k hk;exact⟨g,o,e2,hp _ _ c⟩⟩
theorem BM {w:World} {base:Nat} {x:Option Addr} {z:Nat} {L:List ByteArray}(h:w.ownsRow base 9 1(.slice x L.length z)L.length(vA L)):StrsAt w(.slice x L.length z)L:=by
 rcases h.2 with⟨e,e0⟩ | ⟨g,cap,cur,hv,hb,hh,hc,_⟩
 ·exact⟨x,z,rfl,fun k hk=>by omega⟩
 ·simp only [Value.slice.injEq,true_and]at hv;obtain⟨rfl,rfl⟩:=hv;refine⟨some⟨g,0,none⟩,z,rfl,fun k hk=>⟨g,0,rfl, ?_⟩⟩;rw [Nat.zero_add,h.cellAt k(by omega)];simp [vA,hk]
theorem StrsAt.init {w:World} {x:Option Addr} {z:Nat} {L:List ByteArray}(h:StrsAt w(.slice x L.length z)L)(m:Nat)(hm:m<=L.length):StrsAt w(.slice x m z)(L.take m):=by
 obtain⟨ao,cap,e,hc⟩:=h;simp only [Value.slice.injEq,true_and]at e;obtain⟨rfl,rfl⟩:=e;refine⟨x,z,by simp [Nat.min_eq_left hm],fun k hk=> ?_⟩;have aa:k<L.length:=by simp at hk;omega
 obtain⟨g,o,e2,c⟩:=hc k aa;exact⟨g,o,e2,by simpa using c⟩
theorem Br(out:List Int)(t n:Int)(hn:0<n)(ho:out.length<=500):lN(out++ [t])t(n - 1)=lN out t n:=by
 unfold lN;have e:min n.toNat(501 - out.length)=min(n - 1).toNat(501 - (out++ [t]).length)+1:=by simp;omega
 rw [e,List.replicate_succ,List.append_assoc];rfl
theorem xr(out:List Int)(t n:Int)(h:¬(0<n/\out.length<=500)):lN out t n=out:=by
 unfold lN;have e:min n.toNat(501 - out.length)=0:=by omega
 rw [e];simp
theorem BW(l:List Nat):∀ n,iB n l<=1000:=by
 induction l with
 | nil=>intro n;unfold iB;omega
 | cons b r ih=>intro n;unfold iB;split
          ·exact ih _
          ·omega
theorem FV {l:List Nat} {ah t n:Int}(h:kT l ah=some(t,n)):n<=1000:=by
 unfold kT at h;split at h
 ·cases h
 ·split at h
  ·cases h
  ·split at h
   ·simp only [Option.some.injEq,Prod.mk.injEq]at h;rw [<-h.2];exact BW _ _
   ·simp only [Option.some.injEq,Prod.mk.injEq]at h;omega
def tH(o:Option(List Int × Int))(v:Value):Value:=match o with
 | none=> .tuple #[.slice none 0 0, .int .i64 0, .bool false]
 | some(_,a)=> .tuple #[v, .int .i64 a, .bool true]
def r9(o:Option(List Int × Int)):List Int:=match o with
 | none=> []
 | some(l,_)=>l
def EN(L:List(List Nat))(w:World)(e:Ending)(w':World):Prop:=
 ∃ x y z,e= .returned(tH(jg L(-1) [])(.slice x y z))/\w'.ownsRow w.heap.size 3 1(.slice x y z)(r9(jg L(-1) [])).length(iI(r9(jg L(-1) [])))/\w.grownBy w' none/\(r9(jg L(-1) [])).length<=501
theorem Ac(L:List ByteArray)(v:Value)(w:World)(hS:StrsAt w v L)(hz:∀ x∈L,x.size<=9223372036854775806)(hln:L.length<=9223372036854775806):
  Calls Tryz.prog 73 #[v]w(EN(L.map byt)w):=by
 obtain⟨i0,aA,aC,aF,aw⟩:=info_parts kt;obtain⟨ao,cap,rfl,hc⟩:=hS;have HC:=hZ hc;have HZ:=hZ hz;clear hc hz;go_enter Tryz.func73,Tryz.ntmps73
 go_wp2_with fail
 go_loopw [5,6,7](fun ov av i w'=>∃ (out:List Int)(ah:Int)(k:Nat),k<=L.length/\i= .int .i64 k/\av= .int .i64 ah/\Hid(jg((L.map byt).drop k)ah out=jg(L.map byt)(-1) [])/\Hid(out.length<=501)/\Hid(w'.ownsRow w.heap.size 3 1 ov out.length(iI out)/\w.grownBy w' none))(fun _ _ i _=>L.length - (intOf i).toNat)
 case atStart=>exact⟨[], -1,0,Nat.zero_le _,rfl,rfl,by simp [Hid],hZ(by simp),⟨rfl,Or.inl⟨rfl,rfl⟩⟩,il _ _⟩
 case round=>
  obtain⟨out,ah,k,hk,rfl,rfl,HW,HO,HL⟩:=hrel;obtain⟨w5,ar⟩:∃ w5,w5=wr:=⟨_,rfl⟩;subst ar;obtain⟨x1,x2,x3,rfl⟩:=iq HL.out.1;have ap:=iy HL.out.1;subst ap;have H1:=hZ HL.out.1;have H2:=hZ HL.out.2;have al:=HO.out;by_cases ad:k<L.length
  ·obtain⟨g,o,rfl,c0⟩:=HC.out k ad;have d0:=ie H2.out _ _ c0;have hk0:(0:Int)<=(k:Int):=by omega
   have hk1:(k:Int)<L.length:=by omega
   have aB:k<(L.map byt).length:=by simpa using ad
   have af:Hid(jg((L.map byt).drop k)ah out=match kT(byt L[k])ah with | none=>none | some(t,n)=>jg((L.map byt).drop(k+1))t(lN out t n)):=by
    unfold Hid;rw [List.drop_eq_getElem_cons aB,jg];simp only [List.getElem_map];cases kT(byt L[k])ah<;>rfl
   have aj:=hZ(Gd L[k]ah w5(HZ.out _(List.getElem_mem ad)));clear c0 HL HO;generalize hR:kT(byt L[k])ah=R at*;generalize L[k]=sk at*;go_wp2_with fail
   refine aj.out.mono ?_;clear aj;rintro e w6⟨ag,rfl⟩;have az:Hid(w6.ownsRow w.heap.size 3 1(.slice x1 out.length x3)out.length(iI out)):=iA H1.out(iH(r:=none)ag)(fun _ e=>by cases e);have ai:Hid(w.grownBy w6 none):=jd H2.out ag;clear ag;cases R with
   | none=>
    simp only [F8];have HE:Hid(jg(L.map byt)(-1) []=none):=by unfold Hid;rw [<-HW.out,af.out]
    go_wp2_with fail
    refine bodyPost_ret(v:= .tuple #[.slice none 0 0, .int .i64 0, .bool false])(by simp [results,Tryz.results73,go_sem])rfl ?_;refine⟨none,0,0,by rw [HE.out];rfl, ?_,ai.out, ?_⟩
    ·rw [HE.out];exact⟨rfl,Or.inl⟨rfl,rfl⟩⟩
    ·rw [HE.out];simp [r9]
   | some tn=>
    obtain⟨t,n⟩:=tn;simp only [F8];have ak:Hid(jg((L.map byt).drop(k+1))t(lN out t n)=jg(L.map byt)(-1) []):=by unfold Hid;rw [<-HW.out,af.out]
    have hn1000:=FV hR;clear af HW hR;go_wp2_with fail
    go_loopw [5,9](fun ov nv w'=>∃ (o':List Int)(n':Int),nv= .int .i64 n'/\Hid(n'<=n/\lN o' t n'=lN out t n/\o'.length<=501)/\Hid(w'.ownsRow w.heap.size 3 1 ov o'.length(iI o')/\w.grownBy w' none))(fun _ nv _=>(intOf nv).toNat)
    case atStart=>exact⟨out,n,rfl,hZ⟨by omega,rfl,al⟩,az.out,ai.out⟩
    case round=>
     obtain⟨o',n',rfl,HF,HL⟩:=hrel;obtain⟨w7,am⟩:∃ w7,w7=wr:=⟨_,rfl⟩;subst am;obtain⟨y1,y2,y3,rfl⟩:=iq HL.out.1;have aD:=iy HL.out.1;subst aD;obtain⟨f1,f2,f3⟩:=HF.out;have G1:=hZ HL.out.1;have G2:=hZ HL.out.2;have hsz7:=HL.out.2.size;have ax:=iw G1.out;have F2:=hZ f2;clear HF HL f2;have aE:o'.length+1<=maxLen:=by unfold maxLen;omega
     by_cases aG:0<n'
     ·by_cases au:o'.length<=500
      ·have q5:(o'.length:Int)<=500:=by omega
       have aq:Hid(lN(o'++ [t])t(n' - 1)=lN out t n):=by unfold Hid;rw [Br o' t n' aG au];exact F2.out
       go_wp2_with(at_builtin;refine wpList_append_lies _ rfl _ _ _ rfl w.heap.size 3 i0 _ 1 8 Tryz.underlying39 aA aC aF aw rfl(by omega)(.slice y1 o'.length y3)o'.length(iI o')rfl(iG G1.out)⟨w7.heap.size,0,none⟩1 1 [.int .i64 t]rfl rfl(World.news_of_block(cs:= #[.int .i64 t])(t:=3)(fr:=(0,0))(heap_alloc_new w7 _))(by simp [Value.oneCell'])(by omega)aE(by omega)(by simp;omega)(w7.heap.size+1)(by simp) ?_;intro g8 ac w8 aa ab an hlt8)
       have ay:Hid(w8.ownsRow w.heap.size 3 1(.slice(some⟨g8,0,none⟩)(o'.length+1)ac)(o'++ [t]).length(iI(o'++ [t]))/\w.grownBy w8 none):=by
        refine⟨?_,jD(ij G2.out)ab(fun q e=>ax q e)⟩;simpa [iI]using aa
       clear aa ab an;go_wp2
       go_roundw
       case rel=>exact⟨o'++ [t],n' - 1,rfl,hZ⟨by omega,aq.out,by simp;omega⟩,ay⟩
       case measure=>simp [intOf];omega
      ·have q5:¬(o'.length:Int)<=500:=by omega
       have ae:Hid(o'=lN out t n):=by unfold Hid;rw [<-F2.out,xr o' t n'(by omega)]
       go_wp2_with fail
       go_roundw
       case rel=>exact⟨o',t,k+1,by omega,by go_num,rfl,hZ(by rw [ae.out];exact ak.out),hZ f3,G1.out,G2.out⟩
       case measure=>simp [intOf];omega
     ·have ae:Hid(o'=lN out t n):=by unfold Hid;rw [<-F2.out,xr o' t n'(by omega)]
      go_wp2_with fail
      go_roundw
      case rel=>exact⟨o',t,k+1,by omega,by go_num,rfl,hZ(by rw [ae.out];exact ak.out),hZ f3,G1.out,G2.out⟩
      case measure=>simp [intOf];omega
  ·have q2:(L.length:Int)<=(k:Int):=by omega
   have HE:Hid(jg(L.map byt)(-1) []=some(out,ah)):=by
    unfold Hid;rw [<-HW.out,List.drop_eq_nil_of_le(by simp;omega)];rfl
   go_wp2_with fail
   refine bodyPost_ret(v:= .tuple #[.slice x1 out.length x3, .int .i64 ah, .bool true])(by simp [results,Tryz.results73,go_sem])rfl ?_;refine⟨x1,out.length,x3,by rw [HE.out];rfl, ?_,H2.out, ?_⟩
   ·rw [HE.out];exact H1.out
   ·rw [HE.out];exact al
end
end Go.Proofs.YtklenjmfalljgabGreatDoor
