/- The texts Rgg Rgi Rgj Prn2 RefA RefB RefC RefD RefE. -/
import Derived.Test.YtklenjmfalljgabGreatDoorMK
import Derived.Test.YtklenjmfalljgabGreatDoorShelf
import Derived.Lib.QuietBelow
import Derived.Lib.AppendIntMem
namespace Go.Proofs.YtklenjmfalljgabGreatDoor
set_option maxRecDepth 100000
set_option maxHeartbeats 8000000
section
open Go.RowKit
attribute [local go_sem] Go.World.cell?_alloc_some
def lA(l:List Nat)(bad:Bool):List Int × (Int × Int × Int) × Bool:=
 let k:=iP 500 l
 let s:=nR k.1 [] k.2.1 (bad || k.2.2)
 let a:=iP 5 s.2.1
 let b:=iP 3 a.2.1
 let c:=iP 500 b.2.1
 (s.1,(a.1,b.1,c.1),!(s.2.2 || a.2.2 || b.2.2 || c.2.2))
theorem yY(n:Nat)(t:Int)(s:List Int)(h:¬s.length<=500):nA n t s=s:=by
 cases n with
 | zero=>rfl
 | succ n=>rw [nA,if_neg h]
theorem AS(k:Nat)(s:List Int)(l:List Nat):nR k s l true=(s,l,true):=by cases k<;>rfl
theorem E8{W w:World}{b j f L:Nat}{s:ByteArray}{l:List Nat}{bad:Bool}{tv sv:Value}{p:List (List Ins)}{M:List Int}(HS:Hid (GuS W w b j f L s l bad tv sv (0,0,0) p M))(hs:s.size<=9223372036854775000)
  {Q:Exit->Act->World->Prop} {c0 c1 c3 c6 c7 c8 c9 d5 bL eI ds dZ eP aU bN dj ep c4 dN fk fe a8 eK cS cq eS aF b8 dr dD d0 dy bZ b5 aW d2 cP eq cL bE aL db cV cB ci cd aO bk dS eB dH cC ey dT eJ a9 dc cf eG eZ bc bD cY eh dV el bi cx ed aE cJ be b7 dl ex eQ cp fb bY dE dC eg cw aP aX ek bS eA er cb cc eT aD ck d6 cZ df aA eH aM bO dQ aJ eV a7 fi bh d8 a3 dL eR dX eO cW e5 bA bI cu aB cv cM dF eE cO dR eb aT bH b1 bg:Value} (D:Hid (∀ c a d v w,Q (.panic c) (Act.put a (some d) v) w->Q (.panic c) a w))
  (T:Hid (∀ {z0 z1 z4 z5 z6 z7 z8 z9 dh cF e6 br a4 cj bl cr eu dG cg eN cn di cG a5 bQ aG bU b4 ch bJ bK cE cT fh ez dM bW dI ff ef dg aS dz aQ et ej dJ e8 ce bf aH dB c2 b2 bq e9 c5 d7 dd aN dt eC bM b9 dv eM bj eo bd dU dY a6 fd bB dx bV ew dO dk b3 d4 ev bo aI bP cz cQ b6 es bv aY dm cI aZ bz d9 fj ee bX dw aR cR dq ba d1 bn bR du bm cN ea d3 fg dK cH eW dP bu cK ca bp eX eU bF eY bG bx bC dW ec cs:Value} (w':World) (an:Value),w'.heap[f]?=some (.cells #[tv,an,.int .i64 ((iP 5 l).1:Nat),.int .i64 ((iP 3 (iP 5 l).2.1).1:Nat),.int .i64 ((iP 500 (iP 3 (iP 5 l).2.1).2.1).1:Nat)] 56 (0,0))->ThrAt L w'.heap.size w' tv p->w'.ownsRow L 3 1 an M.length (iL M)->W.grownBy w' none->Q .ret ⟨#[z0,z1,.pointer (some ⟨f,0,none⟩),.bool (!(bad || (iP 5 l).2.2 || (iP 3 (iP 5 l).2.1).2.2 || (iP 500 (iP 3 (iP 5 l).2.1).2.1).2.2)),z4,z5,z6,z7,z8,z9,dh,cF,e6,br,a4,cj,bl,cr,eu,dG,cg,eN,cn,di,cG,a5,bQ,aG,bU,b4,ch,bJ,bK,cE,cT,fh,ez,dM,bW,dI,ff,ef,dg,aS,dz,aQ,et,ej,dJ,e8,ce,bf,aH,dB,c2,b2,bq,e9,c5,d7,dd,aN,dt,eC,bM,b9,dv,eM,bj,eo,bd,dU,dY,a6,fd,bB,dx,bV,ew,dO,dk,b3,d4,ev,bo,aI,bP,cz,cQ,b6,es,bv,aY,dm,cI,aZ,bz,d9,fj,ee,bX,dw,aR,cR,dq,ba,d1,bn,bR,du,bm,cN,ea,d3,fg,dK,cH,eW,dP,bu,cK,ca,bp,eX,eU,bF,eY,bG,bx,bC,dW,ec,cs],[]⟩ w')):
  Code.wp Tryz.prog (oM Tryz.f71 28) Q ⟨#[c0,c1,.pointer (some ⟨f,0,none⟩),c3,.pointer (some ⟨b,0,none⟩),.pointer (some ⟨j,0,none⟩),c6,c7,c8,c9,d5,bL,eI,ds,dZ,eP,aU,bN,dj,ep,c4,dN,fk,fe,a8,eK,cS,cq,eS,aF,b8,dr,dD,d0,dy,bZ,b5,aW,d2,cP,eq,cL,bE,aL,db,cV,cB,ci,cd,aO,bk,dS,eB,dH,cC,ey,dT,eJ,a9,dc,cf,eG,eZ,bc,bD,cY,eh,dV,el,bi,cx,ed,aE,cJ,be,b7,dl,ex,eQ,cp,fb,bY,dE,dC,eg,cw,aP,aX,ek,bS,eA,er,cb,cc,eT,aD,ck,d6,cZ,df,aA,eH,aM,bO,dQ,aJ,eV,a7,fi,bh,d8,a3,dL,eR,dX,eO,cW,e5,bA,bI,cu,aB,cv,cM,dF,eE,cO,dR,eb,aT,bH,b1,bg],[]⟩ w:=by
 conv=>arg 2;whnf
 have ah:∀ q,pt q= .pointer (some ⟨q,0,none⟩):=fun _=>rfl
 have X:=ij (nk w b s l bad 5 (by omega) HS.out.rd hs);rw [ah]at X;have da:=kz 5 l;generalize iP 5 l=x at*;obtain⟨m,l1,Z⟩:=x;simp only at X T da;have hka1:(m:Int)<=5:=by omega
 go_upto_region 29 with (go_at_call 98;refine X.out.mono ?_;clear X;rintro e v1 ⟨rfl,y,z⟩;have hc:=HS.out.call y z;have G:=hc.acell.2.2.1;have S:=hc.acell.2.2.2.2.2 2;have aw:=ij hc;clear y z hc)
 have A:=aw.out.setA 2 (m:Int) ((m:Int),0,0) (Or.inl ⟨rfl,rfl⟩);generalize v1.setCell ⟨j,2,none⟩ (.int .i64 (m:Int))=w1 at*;have ar:=ij A;clear A G S aw;have U:=ij (nk w1 b s l1 (bad || Z) 3 (by omega) ar.out.rd hs);rw [ah]at U;have co:=kz 3 l1;generalize iP 3 l1=x at*;obtain⟨n,Y,ao⟩:=x;simp only at U T co;have hka2:(n:Int)<=3:=by omega
 go_upto_region 30 with (go_at_call 98;refine U.out.mono ?_;clear U;rintro e v2 ⟨rfl,y,z⟩;have hc:=ar.out.call y z;have G:=hc.acell.2.2.2.1;have S:=hc.acell.2.2.2.2.2 3;have ap:=ij hc;clear y z hc)
 have A:=ap.out.setA 3 (n:Int) ((m:Int),(n:Int),0) (Or.inr (Or.inl ⟨rfl,rfl⟩));generalize v2.setCell ⟨j,3,none⟩ (.int .i64 (n:Int))=w2 at*;have am:=ij A;clear A G S ap;have V:=ij (nk w2 b s Y (bad || Z || ao) 500 (by omega) am.out.rd hs);rw [ah]at V;have em:=kz 500 Y;generalize iP 500 Y=x at*;obtain⟨r,l3,dA⟩:=x;simp only at V T em;have hka3:(r:Int)<=500:=by omega
 go_upto_region 31 with (go_at_call 98;refine V.out.mono ?_;clear V;rintro e v3 ⟨rfl,y,z⟩;have hc:=am.out.call y z;have G:=hc.acell.2.2.2.2.1;have S:=hc.acell.2.2.2.2.2 4;have ay:=ij hc;clear y z hc)
 have A:=ay.out.setA 4 (r:Int) ((m:Int),(n:Int),(r:Int)) (Or.inr (Or.inr ⟨rfl,rfl⟩));generalize v3.setCell ⟨j,4,none⟩ (.int .i64 (r:Int))=w3 at*;have P:=ij A;clear A G S ay;obtain⟨x1,x2,x3,hx⟩:=iw P.out.thr.choose_spec.1;obtain⟨y1,y2,y3,hy⟩:=iw P.out.row;subst hx hy;generalize cm:(bad || Z || ao || dA)=BB at*;clear cm;have aj:Hid (∀ u:World,(∀ k,k≠f->u.heap[k]?=w3.heap[k]?)->u.cell? ⟨j,0,none⟩=some (.slice x1 x2 x3)/\u.cell? ⟨j,1,none⟩=some (.slice y1 y2 y3)/\u.cell? ⟨j,2,none⟩=some (.int .i64 (m:Int))/\u.cell? ⟨j,3,none⟩=some (.int .i64 (n:Int))/\u.cell? ⟨j,4,none⟩=some (.int .i64 (r:Int))/\u.cell? ⟨b,2,none⟩=some (.bool BB)):=fun u hu=>by
  have h:=P.out;obtain⟨o1,o2,o3,o4⟩:=h.ord;obtain⟨e0,e1,F,e3,e4,_⟩:=h.acell;have R:u.heap[j]?=w3.heap[j]?:=hu j (by omega);have hb:u.heap[b]?=w3.heap[b]?:=hu b (by omega);exact⟨by rw [World.cell?_of_block R];exact e0,by rw [World.cell?_of_block R];exact e1,by rw [World.cell?_of_block R];exact F,by rw [World.cell?_of_block R];exact e3,by rw [World.cell?_of_block R];exact e4,by rw [World.cell?_of_block hb];exact h.rd.bad⟩
 have ak:=aj.out w3.drew (fun k _=>rfl);refine iz (fun u=>u.cell? ⟨j,0,none⟩=some (.slice x1 x2 x3)/\u.cell? ⟨j,1,none⟩=some (.slice y1 y2 y3)/\u.cell? ⟨j,2,none⟩=some (.int .i64 (m:Int))/\u.cell? ⟨j,3,none⟩=some (.int .i64 (n:Int))/\u.cell? ⟨j,4,none⟩=some (.int .i64 (r:Int))/\u.cell? ⟨b,2,none⟩=some (.bool BB)) 7 (by kernel_rfl) (by kernel_rfl) ak ?_;intro C;refine gJ 0 ?v0 rfl (by kernel_rfl) (fun c _ _ h=>D.out c _ _ _ _ h) (by kernel_rfl) ?y0 C ?_
 case y0=>(rintro u ⟨H,K,O,N,I,J⟩;go_simp;try rfl)
 simp only [Act.put,List.setIfInBounds_toArray];refine gJ 1 ?v1 rfl (by kernel_rfl) (fun c _ _ h=>D.out c _ _ _ _ h) (by kernel_rfl) ?y1 C ?_
 case y1=>(rintro u ⟨H,K,O,N,I,J⟩;go_simp;try rfl)
 simp only [Act.put];refine gJ 2 ?v2 rfl (by kernel_rfl) (fun c _ _ h=>D.out c _ _ _ _ h) (by kernel_rfl) ?y2 C ?_
 case y2=>(rintro u ⟨H,K,O,N,I,J⟩;go_simp;try rfl)
 simp only [Act.put];refine gJ 3 ?v3 rfl (by kernel_rfl) (fun c _ _ h=>D.out c _ _ _ _ h) (by kernel_rfl) ?y3 C ?_
 case y3=>(rintro u ⟨H,K,O,N,I,J⟩;go_simp;try rfl)
 simp only [Act.put];refine gJ 4 ?v4 rfl (by kernel_rfl) (fun c _ _ h=>D.out c _ _ _ _ h) (by kernel_rfl) ?y4 C ?_
 case y4=>(rintro u ⟨H,K,O,N,I,J⟩;go_simp;try rfl)
 simp only [Act.put];refine gJ 5 ?v5 rfl (by kernel_rfl) (fun c _ _ h=>D.out c _ _ _ _ h) (by kernel_rfl) ?y5 C ?_
 case y5=>(rintro u ⟨H,K,O,N,I,J⟩;go_simp;try rfl)
 simp only [Act.put];refine iu (i:=6) rfl (by kernel_rfl) (by kernel_rfl) (by kernel_rfl) ?_;intro K6 az;have ax:=ij az;clear az;have t:w3.heap[f]?=some (.cells #[.slice none 0 0,.slice none 0 0,.int .i64 0,.int .i64 0,.int .i64 0] 56 (0,0)):=P.out.res;have r0:w3.cell? ⟨f,0,none⟩=some (.slice none 0 0):=by simp only [World.cell?,t];rfl
 have r1:w3.cell? ⟨f,1,none⟩=some (.slice none 0 0):=by simp only [World.cell?,t];rfl
 have r2:w3.cell? ⟨f,2,none⟩=some (.int .i64 0):=by simp only [World.cell?,t];rfl
 have r3:w3.cell? ⟨f,3,none⟩=some (.int .i64 0):=by simp only [World.cell?,t];rfl
 have r4:w3.cell? ⟨f,4,none⟩=some (.int .i64 0):=by simp only [World.cell?,t];rfl
 have E:∀ o,w3.frozen? ⟨f,o,none⟩=false:=fun o=>by simp [World.frozen?,t]
 have z0:=E 0;have z1:=E 1;have z2:=E 2;have z3:=E 3;have z4:=E 4;have cD:=ij t;clear t E;go_simp;have au:(((((w3.setCell ⟨f,0,none⟩ (.slice x1 x2 x3)).setCell ⟨f,1,none⟩ (.slice y1 y2 y3)).setCell ⟨f,2,none⟩ (.int .i64 (m:Int))).setCell ⟨f,3,none⟩ (.int .i64 (n:Int))).setCell ⟨f,4,none⟩ (.int .i64 (r:Int))).heap[f]?=some (.cells #[.slice x1 x2 x3,.slice y1 y2 y3,.int .i64 (m:Int),.int .i64 (n:Int),.int .i64 (r:Int)] 56 (0,0)):=by
  have e1:=heap_setCell_same w3 f 0 _ _ (.slice x1 x2 x3) cD.out;have F:=heap_setCell_same _ f 1 _ _ (.slice y1 y2 y3) e1;have e3:=heap_setCell_same _ f 2 _ _ (.int .i64 (m:Int)) F;have e4:=heap_setCell_same _ f 3 _ _ (.int .i64 (n:Int)) e3;exact heap_setCell_same _ f 4 _ _ (.int .i64 (r:Int)) e4
 have al:w3.grownBy (((((w3.setCell ⟨f,0,none⟩ (.slice x1 x2 x3)).setCell ⟨f,1,none⟩ (.slice y1 y2 y3)).setCell ⟨f,2,none⟩ (.int .i64 (m:Int))).setCell ⟨f,3,none⟩ (.int .i64 (n:Int))).setCell ⟨f,4,none⟩ (.int .i64 (r:Int))) (some f):=il (il (il (il (jN _ _ _ _) (jN _ _ _ _)) (jN _ _ _ _)) (jN _ _ _ _)) (jN _ _ _ _);have av:∀ k,k≠f->(((((w3.setCell ⟨f,0,none⟩ (.slice x1 x2 x3)).setCell ⟨f,1,none⟩ (.slice y1 y2 y3)).setCell ⟨f,2,none⟩ (.int .i64 (m:Int))).setCell ⟨f,3,none⟩ (.int .i64 (n:Int))).setCell ⟨f,4,none⟩ (.int .i64 (r:Int))).heap[k]?=w3.heap[k]?:=fun k hk=>by
  rw [Below.heap_setCell _ _ _ _ (by simpa using hk),Below.heap_setCell _ _ _ _ (by simpa using hk),Below.heap_setCell _ _ _ _ (by simpa using hk),Below.heap_setCell _ _ _ _ (by simpa using hk),Below.heap_setCell _ _ _ _ (by simpa using hk)]
 generalize ((((w3.setCell ⟨f,0,none⟩ (.slice x1 x2 x3)).setCell ⟨f,1,none⟩ (.slice y1 y2 y3)).setCell ⟨f,2,none⟩ (.int .i64 (m:Int))).setCell ⟨f,3,none⟩ (.int .i64 (n:Int))).setCell ⟨f,4,none⟩ (.int .i64 (r:Int))=w9 at*;refine ax.out _ _ (aj.out w9.drew av) ?_;clear ax r0 r1 r2 r3 r4 z0 z1 z2 z3 z4;try simp only [Act.put,List.setIfInBounds_toArray]
 refine iH rfl (by kernel_rfl) (by kernel_rfl) (by kernel_rfl) ?_;go_simp;have HF:Hid (ThrAt L w9.drew.heap.size w9.drew (.slice x1 x2 x3) p/\w9.drew.ownsRow L 3 1 (.slice y1 y2 y3) M.length (iL M)/\W.grownBy w9.drew none):=by
  have h:=P.out;obtain⟨o1,o2,o3,o4⟩:=h.ord;have B:w3.grownBy w9.drew (some f):=iy al;refine⟨(h.thr.step B (fun q e=>by simp only [Option.some.injEq]at e;omega)).mono B.size,kB h.row B (fun k e F=>by simp only [Option.some.injEq]at e;have:=iA h.row k F;omega),?_⟩;exact⟨B.os.trans h.base.os,B.tape.trans h.base.tape,B.output.trans h.base.output,Nat.le_trans h.base.size B.size,fun k hk _=>by
   rw [B.block k (Nat.lt_of_lt_of_le hk h.base.size) (fun e=>by simp only [Option.some.injEq]at e;omega)];exact h.base.block k hk (by simp)⟩
 have dn:=ij au;clear au al av C ak;go_wp2_with fail
 exact T.out w9.drew _ dn.out HF.out.1 HF.out.2.1 HF.out.2.2
theorem Di{W w:World}{b H z L:Nat}{s:ByteArray}{l:List Nat}{bad:Bool}{tv:Value}{p:List (List Ins)}(HS:Hid (GuS W w b H z L s l bad tv (.slice none 0 0) (0,0,0) p []))(F:s.size<=9223372036854775000)
  {Q:Exit->Act->World->Prop} {c0 c1 c3 c6 c7 c8 c9 d8 bG eL dt d2 eS aT bI dm es dd dO fh fb a4 eO cU cr eV aC b7 ds dE d3 dA bV b3 aU d5 cR et cM bB aH df c2 cC cj cc aM bg dV eF dI cD eB dW eM a5 dg cf eJ e2 a8 bA da em dY eq be cz eg aB cK ba b5 dp eA eT cq e9 bU dF dD ek cy aO aV ep bP eE eu ca cb eW aA cn d9 db di ax eK aK bJ dT aG eY a3 ff bd eb aY dM eU d1 eR c4 e3 bw bD cw ay cx cN dG eH cQ dU ee aS bC bW bc:Value} (Z:Hid (∀ c a d v w,Q (.panic c) (Act.put a (some d) v) w->Q (.panic c) a w))
  (S:Hid (∀ {z0 z1 z4 z5 z6 z7 z8 z9 dk cF e5 bn aZ cm bh ct ex dH ch eQ cp dl cG a0 bM aD bQ bZ ci bH bK cE cW fe eD dN bS dJ fc ei dj aR dB aP ew eo dK e7 ce bb aE dC dc bX bm e8 de ea dh aL du eG bL b6 dx eP bf er a9 dX d0 a2 fa bx dz bR ez dQ dn bY d7 ey bk aF bN cB cS b4 ev br aW dq cI aX bv ec fg eh bT dy aQ cT dr a6 d4 bj bO dv bi cO ed d6 fd dL cH eZ dS bq cL b9 bl e0 eX bE e1 bF bu bz dZ ef cu:Value} (w':World) (sv:Value),w'.heap[z]?=some (.cells #[tv,sv,.int .i64 (lA l bad).2.1.1,.int .i64 (lA l bad).2.1.2.1,.int .i64 (lA l bad).2.1.2.2] 56 (0,0))->ThrAt L w'.heap.size w' tv p->w'.ownsRow L 3 1 sv (lA l bad).1.length (iL (lA l bad).1)->W.grownBy w' none->Q .ret ⟨#[z0,z1,.pointer (some ⟨z,0,none⟩),.bool (lA l bad).2.2,z4,z5,z6,z7,z8,z9,dk,cF,e5,bn,aZ,cm,bh,ct,ex,dH,ch,eQ,cp,dl,cG,a0,bM,aD,bQ,bZ,ci,bH,bK,cE,cW,fe,eD,dN,bS,dJ,fc,ei,dj,aR,dB,aP,ew,eo,dK,e7,ce,bb,aE,dC,dc,bX,bm,e8,de,ea,dh,aL,du,eG,bL,b6,dx,eP,bf,er,a9,dX,d0,a2,fa,bx,dz,bR,ez,dQ,dn,bY,d7,ey,bk,aF,bN,cB,cS,b4,ev,br,aW,dq,cI,aX,bv,ec,fg,eh,bT,dy,aQ,cT,dr,a6,d4,bj,bO,dv,bi,cO,ed,d6,fd,dL,cH,eZ,dS,bq,cL,b9,bl,e0,eX,bE,e1,bF,bu,bz,dZ,ef,cu],[]⟩ w')):
  Code.wp Tryz.prog (oM Tryz.f71 20) Q ⟨#[c0,c1,.pointer (some ⟨z,0,none⟩),c3,.pointer (some ⟨b,0,none⟩),.pointer (some ⟨H,0,none⟩),c6,c7,c8,c9,d8,bG,eL,dt,d2,eS,aT,bI,dm,es,dd,dO,fh,fb,a4,eO,cU,cr,eV,aC,b7,ds,dE,d3,dA,bV,b3,aU,d5,cR,et,cM,bB,aH,df,c2,cC,cj,cc,aM,bg,dV,eF,dI,cD,eB,dW,eM,a5,dg,cf,eJ,e2,a8,bA,da,em,dY,eq,be,cz,eg,aB,cK,ba,b5,dp,eA,eT,cq,e9,bU,dF,dD,ek,cy,aO,aV,ep,bP,eE,eu,ca,cb,eW,aA,cn,d9,db,di,ax,eK,aK,bJ,dT,aG,eY,a3,ff,bd,eb,aY,dM,eU,d1,eR,c4,e3,bw,bD,cw,ay,cx,cN,dG,eH,cQ,dU,ee,aS,bC,bW,bc],[]⟩ w:=by
 conv=>arg 2;whnf
 obtain⟨i0,eN,ck,dR,ej⟩:=info_parts ko;have X:∀ q,pt q= .pointer (some ⟨q,0,none⟩):=fun _=>rfl
 have K:=ij (nk w b s l bad 500 (by omega) HS.out.rd F);rw [X]at K;have aw:=kz 500 l;have D:Hid (lA l bad=(let s:=nR (iP 500 l).1 [] (iP 500 l).2.1 (bad || (iP 500 l).2.2);let a:=iP 5 s.2.1;let b:=iP 3 a.2.1;let c:=iP 500 b.2.1;((s.1,((a.1:Int),(b.1:Int),(c.1:Int)),!(s.2.2 || a.2.2 || b.2.2 || c.2.2)):List Int × (Int × Int × Int) × Bool))):=rfl;generalize lA l bad=SG at*;generalize iP 500 l=x at*;obtain⟨k0,l0,b0⟩:=x;simp only at aw K D;generalize hR:nR k0 [] l0 (bad || b0)=R at*;have HR:=ij hR;clear hR;have qk0:(k0:Int)<=500:=by omega
 go_wp2_with (go_at_call 98;refine K.out.mono ?_;clear K;rintro e w1 ⟨rfl,u,y⟩;have H1:=ij (HS.out.call u y);clear u y)
 go_loopw [11] (fun kv w'=>∃ (k:Nat) (sv:Value) (i:List Int) (h:List Nat) (r:Bool),k<=500/\kv= .int .i64 k/\Hid (i.length<=501)/\Hid (GuS W w' b H z L s h r tv sv (0,0,0) p i/\nR k i h r=R)) (fun kv _=>(intOf kv).toNat)
 case atStart=>exact⟨k0,_,[],l0,bad || b0,aw,rfl,ij (by simp),⟨H1.out,HR.out⟩⟩
 case round=>
  clear H1 HR;obtain⟨k,sv,i,h,r,hk,rfl,cV,A⟩:=hrel;obtain⟨J,ab⟩:∃ J,J=wr:=⟨_,rfl⟩;rw [<-ab]at A ⊢;clear ab;have kb:=A.out.1.rd.bad;by_cases C:0<k/\r=false
  ·obtain⟨al,rfl⟩:=C;obtain⟨k,rfl⟩:∃ j,k=j+1:=⟨k - 1,by omega⟩;have t0:(0:Int)<((k+1:Nat):Int):=by omega
   have G:=ij (nk J b s h false 63 (by omega) A.out.1.rd F);rw [X]at G;have aJ:=kz 63 h;have U:=kz 500 (iP 63 h).2.1;have V:Hid (nR (k+1) i h false=nR k (nA (iP 500 (iP 63 h).2.1).1 (iP 63 h).1 i) (iP 500 (iP 63 h).2.1).2.1 ((iP 63 h).2.2 || (iP 500 (iP 63 h).2.1).2.2)):=rfl;generalize iP 63 h=x at*;obtain⟨t,l1,E⟩:=x;simp only at aJ U G V;simp only [Bool.false_or]at G;have qt:(t:Int)<=63:=by omega
   go_upto_region 24 with (go_at_call 98;refine G.out.mono ?_;clear G;rintro e w3 ⟨rfl,u,y⟩;have T:=ij (A.out.1.call u y);clear u y)
   have P:=ij (nk w3 b s l1 E 500 (by omega) T.out.rd F);rw [X]at P;clear kb;generalize iP 500 l1=x at*;obtain⟨n,M,I⟩:=x;simp only at U P V;have qn:(n:Int)<=500:=by omega
   go_wp2_with (go_at_call 98;refine P.out.mono ?_;clear P;rintro e w4 ⟨rfl,u,y⟩;have H4:=ij (T.out.call u y);clear u y)
   go_loopw [13] (fun nv w'=>∃ (m:Nat) (ac:Value) (f:List Int),m<=500/\nv= .int .i64 m/\Hid (f.length<=501)/\Hid (GuS W w' b H z L s M (E || I) tv ac (0,0,0) p f/\nA m t f=nA n t i)) (fun nv _=>(intOf nv).toNat)
   case atStart=>exact⟨n,sv,i,U,rfl,cV,⟨H4.out,rfl⟩⟩
   case round=>
    clear H4 T;obtain⟨m,ac,f,hm,rfl,ak,o⟩:=hrel;obtain⟨B,ao⟩:∃ B,B=wr:=⟨_,rfl⟩;rw [<-ao]at o ⊢;clear ao;obtain⟨_,a1,_,_,_,_⟩:=o.out.1.acell;have O:=o.out.1.row;obtain⟨y1,y2,y3,rfl⟩:=iw O;have el:=iB O;subst el;have cJ:=ij O;clear O;by_cases C:0<m/\f.length<=500
    ·obtain⟨cv,a7⟩:=C;obtain⟨m,rfl⟩:∃ j,m=j+1:=⟨m - 1,by omega⟩;have N:(0:Int)<((m+1:Nat):Int):=by omega
     have t2:(f.length:Int)<=500:=by omega
     have cd:Hid (nA m t (f++[(t:Int)])=nA n t i):=by
      have:=o.out.2;rw [nA,if_pos a7]at this;exact this
     have dw:Hid ((f++[(t:Int)]).length<=501):=by unfold Hid;simp;omega
     have hbase:L<=B.heap.size:=by have:=o.out.1.ord;have:=o.out.1.lt;omega
     have cX:f.length+1<=maxLen:=by unfold maxLen;omega
     go_wp2_with (at_builtin;go_must (refine iG rfl _ _ _ rfl L 3 i0 _ 1 8 Tryz.underlying39 eN ck dR ej rfl (by omega) (.slice y1 f.length y3) f.length (iL f) rfl (iJ cJ.out) ⟨B.heap.size,0,none⟩ 1 1 [.int .i64 (t:Int)] rfl rfl (World.news_of_block (cs:= #[.int .i64 (t:Int)]) (t:=3) (fr:=(0,0)) (heap_alloc_new B _)) (by simp [Value.oneCell']) (by omega) cX (by omega) (by simp;omega) (B.heap.size+1) (by simp) ?_);intro g8 cap8 w8 ai aq aI;obtain⟨⟨p6,p7⟩,ah⟩:=o.out.1.push (t:=(t:Int)) rfl ai aq;have dP:=ij ah;clear ah ai aq aI)
     go_roundw
     case rel=>exact⟨m,_,f++[(t:Int)],by omega,by go_num,dw,⟨dP.out,cd.out⟩⟩
     case measure=>simp [intOf]<;>omega
    ·have am:Hid (nR k f M (E || I)=R):=by
      have h1:=A.out.2;have Y:=o.out.2;rw [V.out]at h1;have h3:nA m (t:Int) f=f:=by
       by_cases e:f.length<=500
       ·have:m=0:=by omega
        rw [this];rfl
       ·exact yY _ _ _ e
      rw [h3]at Y;rw [Y];exact h1
     by_cases cv:0<m
     ·have N:(0:Int)<(m:Int):=by omega
      have t2:(500:Int)<(f.length:Int):=by omega
      go_wp2_with fail
      go_roundw
      case rel=>exact⟨k,_,f,M,E || I,by omega,by go_num,ak,⟨o.out.1,am.out⟩⟩
      case measure=>simp [intOf]<;>omega
     ·have N:(m:Int)<=0:=by omega
      go_wp2_with fail
      go_roundw
      case rel=>exact⟨k,_,f,M,E || I,by omega,by go_num,ak,⟨o.out.1,am.out⟩⟩
      case measure=>simp [intOf]<;>omega
  ·have ap:Hid (R=(i,h,r)):=by
    unfold Hid;rw [<-A.out.2];by_cases e:k=0
    ·rw [e];rfl
    ·have:r=true:=by
      cases r with
      | true=>rfl
      | false=>exact absurd ⟨by omega,rfl⟩ C
     rw [this];exact AS _ _ _
   rw [ap.out]at D;simp only at D;have an:Hid (GuS W J b H z L s h r tv sv (0,0,0) p i):=A.out.1;have cP:=D.out;clear D;subst cP;simp only at S;clear ap;by_cases al:0<k
   ·have b8:r=true:=by
     cases r with
     | true=>rfl
     | false=>exact absurd ⟨al,rfl⟩ C
    subst b8;have N:(0:Int)<(k:Int):=by omega
    go_upto_if 92 with fail
    refine wp_cond_false rfl ?_;refine wp_exit ?_;refine ‹∀ a w,Code.wp Tryz.prog _ _ a w->_› _ _ ?_;exact E8 an F Z S
   ·have N:(k:Int)<=0:=by omega
    go_upto_if 92 with fail
    refine wp_cond_false rfl ?_;refine wp_exit ?_;refine ‹∀ a w,Code.wp Tryz.prog _ _ a w->_› _ _ ?_;exact E8 an F Z S
end
section
open Go.RowKit
theorem ThrAt.upto{L B:Nat}{w w':World}{tv:Value}{p:List (List Ins)}(h:ThrAt L B w tv p)(f:∀ k,L<=k->k<B->w'.heap[k]?=w.heap[k]?):ThrAt L B w' tv p:=by
 obtain⟨rows,a,b,m,i⟩:=h;refine⟨rows,iM a (fun g e=>f g (iA a g e) (b g e)),b,fun j hj=>?_,i⟩;obtain⟨rv,l,d,c⟩:=m j hj;exact⟨rv,l,iM d (fun g e=>f g (iA d g e) (c g e)),c⟩
structure GuB(W w:World)(b n5 n2 L B:Nat)(s:ByteArray)(l:List Nat)(bad:Bool)(tv:Value)(p:List (List Ins))(lv:Value)(c:List Ins):Prop where
 rd:RdG w b s l bad
 art:w.heap[n5]?=some (.cells #[tv,.slice none 0 0,.int .i64 0,.int .i64 0,.int .i64 0] 56 (0,0))
 res:w.heap[n2]?=some (.cells #[.slice none 0 0,.slice none 0 0,.int .i64 0,.int .i64 0,.int .i64 0] 56 (0,0))
 thr:ThrAt L B w tv p
 row:w.ownsRow B 65 4 lv c.length (jk c)
 base:W.grownBy w none
 ord:W.heap.size<=n2/\n2<b/\b<n5/\L=n5+1/\L<=B/\B<=w.heap.size
section
variable {W w w' w6 : World} {b n5 n2 L B : Nat} {s : ByteArray} {l l' : List Nat} {bad bad' : Bool} {tv lv : Value} {p : List (List Ins)} {c : List Ins}
theorem GuB.step(h:GuB W w b n5 n2 L B s l bad tv p lv c)(r:RdG w' b s l' bad'){q:Nat}(a:w.grownBy w' (some q))(d:q=b\/(B<=q/\lv.ownBlock≠some q)):GuB W w' b n5 n2 L B s l' bad' tv p lv c:=by
 obtain⟨n,f,m,j,u,t⟩:=h.ord;have i:=(Array.getElem?_eq_some_iff.1 h.art).1;have v:=(Array.getElem?_eq_some_iff.1 h.res).1;have hlo:W.heap.size<=q:=by rcases d with e | e<;>omega
 refine⟨r,?_,?_,?_,?_,?_,n,f,m,j,u,Nat.le_trans t a.size⟩
 ·rw [a.block n5 i (by simp only [ne_eq,Option.some.injEq];rcases d with e | e<;>omega)];exact h.art
 ·rw [a.block n2 v (by simp only [ne_eq,Option.some.injEq];rcases d with e | e<;>omega)];exact h.res
 ·exact h.thr.upto (fun k h1 h2=>a.block k (by omega) (by simp only [ne_eq,Option.some.injEq];rcases d with e | e<;>omega))
 ·refine iM h.row (fun g e=>a.block g (iZ h.row g e) ?_);simp only [ne_eq,Option.some.injEq];have:=iA h.row g e;rcases d with e1 | e1
  ·omega
  ·intro o;exact e1.2 (by rw [<-o];exact e)
 ·exact⟨a.os.trans h.base.os,a.tape.trans h.base.tape,a.output.trans h.base.output,Nat.le_trans h.base.size a.size,fun k hk _=>by
   rw [a.block k (Nat.lt_of_lt_of_le hk h.base.size) (fun e=>by simp only [Option.some.injEq]at e;omega)];exact h.base.block k hk (by simp)⟩
theorem GuB.call(h:GuB W w b n5 n2 L B s l bad tv p lv c)(hr:RdG w' b s l' bad')(hg:w.grownBy w' (some b)):GuB W w' b n5 n2 L B s l' bad' tv p lv c:=h.step hr hg (Or.inl rfl)
theorem GuB.made(h:GuB W w b n5 n2 L B s l bad tv p lv c)(o:Obj):GuB W (w.alloc o) b n5 n2 L B s l bad tv p lv c:=by
 obtain⟨k,e,_⟩:=h.rd;have a:=(Array.getElem?_eq_some_iff.1 e).1;exact h.call (h.rd.step (Below.heap_alloc _ _ _ a)) (iq (ir _ _))
theorem GuB.put(h:GuB W w b n5 n2 L B s l bad tv p lv c){a:Nat}(e:B<=a)(d:lv.ownBlock≠some a)(j:Nat)(x:Value):GuB W (w.setCell ⟨a,j,none⟩ x) b n5 n2 L B s l bad tv p lv c:=by
 obtain⟨o1,o2,o3,o4,o5,o6⟩:=h.ord;exact h.step (h.rd.step (Below.heap_setCell _ _ _ _ (by simp only;omega))) (jN w a j x) (Or.inr ⟨e,d⟩)
theorem GuS.begin(h:GuS W w b n5 n2 L s l bad tv (.slice none 0 0) (0,0,0) p []):GuB W (w.alloc (.cells #[] 65)) b n5 n2 L w.heap.size s l bad tv p (.slice (some ⟨w.heap.size,0,none⟩) 0 0) []:=by
 obtain⟨j,c,i,e⟩:=h.ord;obtain⟨a,d,f⟩:=h.lt;refine⟨h.rd.step (Below.heap_alloc _ _ _ a),?_,?_,h.thr.upto (fun k _ hk=>Below.heap_alloc _ _ _ hk),⟨rfl,Or.inr ⟨w.heap.size,0,#[],rfl,Nat.le_refl _,heap_alloc_new w _,Nat.le_refl _,by unfold maxLen;omega,rfl,rfl⟩⟩,iq h.base,j,c,i,e,by omega,by simp⟩
 ·rw [Below.heap_alloc _ _ _ d];exact h.art
 ·rw [Below.heap_alloc _ _ _ f];exact h.res
theorem GuB.push(h:GuB W w b n5 n2 L B s l bad tv p lv c){i:Ins}{o:Obj}{g6 c6 N:Nat}(A:N=c.length)
  (e:w6.ownsRow B 65 4 (.slice (some ⟨g6,0,none⟩) (N+1) c6) (N+1) (jk c++[.int .i64 i.op,.int .i64 i.a,.int .i64 i.b,.int .i64 i.n]))
  (key:(lv.ownBlock=some g6/\(w.alloc o).grownBy w6 (some g6))\/(g6=w.heap.size+1/\(w.alloc o).grownBy w6 none)):
  GuB W w6 b n5 n2 L B s l bad tv p (.slice (some ⟨g6,0,none⟩) (N+1) c6) (c++[i]):=by
 subst A;obtain⟨q,f,z,y,u,o6⟩:=h.ord;have m:=(Array.getElem?_eq_some_iff.1 h.art).1;have v:=(Array.getElem?_eq_some_iff.1 h.res).1;have hB6:B<=g6:=iA e g6 rfl;have hgl:(w.alloc o).os=w.os/\(w.alloc o).tape=w.tape/\(w.alloc o).output=w.output:=⟨rfl,rfl,rfl⟩;have r:w.heap.size<=w6.heap.size:=by
  rcases key with ⟨_,hg⟩ | ⟨_,hg⟩<;>(have:=hg.size;simp at this;omega)
 have d:∀ k,k<w.heap.size->k<B->w6.heap[k]?=w.heap[k]?:=fun k hk hne=>by
  rcases key with ⟨_,hg⟩ | ⟨_,hg⟩
  ·rw [hg.block k (by simp;omega) (by simp;omega),Below.heap_alloc _ _ _ hk]
  ·rw [hg.block k (by simp;omega) (by simp),Below.heap_alloc _ _ _ hk]
 have x:W.grownBy w6 none:=by
  rcases key with ⟨_,hg⟩ | ⟨_,hg⟩<;>
  exact⟨hg.os.trans h.base.os,hg.tape.trans h.base.tape,hg.output.trans h.base.output,Nat.le_trans h.base.size r,fun k hk _=>by
    rw [d k (Nat.lt_of_lt_of_le hk h.base.size) (by omega)];exact h.base.block k hk (by simp)⟩
 refine⟨h.rd.step (d b (by omega) (by omega)),by rw [d n5 m (by omega)];exact h.art,by rw [d n2 v (by omega)];exact h.res,h.thr.upto (fun k _ hk=>d k (by omega) hk),?_,x,q,f,z,y,u,by omega⟩;have j:(c++[i]).length=c.length+1:=by simp
 have t:jk (c++[i])=jk c++[.int .i64 i.op,.int .i64 i.a,.int .i64 i.b,.int .i64 i.n]:=by rw [px];rfl
 rw [j,t];exact e
theorem GuB.pushT(h:GuB W w b n5 n2 L B s l bad tv p lv c){o:Obj}{rows:List Value}{g6 c6 N:Nat}(D:N=p.length)(r:w.ownsRow L 66 1 tv N rows)
  (i:w6.ownsRow L 66 1 (.slice (some ⟨g6,0,none⟩) (N+1) c6) (N+1) (rows++[lv]))
  (key:(tv.ownBlock=some g6/\(w.alloc o).grownBy w6 (some g6))\/(g6=w.heap.size+1/\(w.alloc o).grownBy w6 none)):
  (w6.cell? ⟨n5,0,none⟩=some tv/\w6.frozen? ⟨n5,0,none⟩=false)/\GuS W (w6.setCell ⟨n5,0,none⟩ (.slice (some ⟨g6,0,none⟩) (N+1) c6)) b n5 n2 L s l bad (.slice (some ⟨g6,0,none⟩) (N+1) c6) (.slice none 0 0) (0,0,0) (p++[c]) []:=by
 subst D;obtain⟨v,n,C,A,x,E⟩:=h.ord;have t:=(Array.getElem?_eq_some_iff.1 h.art).1;have y:=(Array.getElem?_eq_some_iff.1 h.res).1;have hL6:L<=g6:=iA i g6 rfl;have m:w.heap.size<=w6.heap.size:=by
  rcases key with ⟨_,hg⟩ | ⟨_,hg⟩<;>(have:=hg.size;simp at this;omega)
 have d:∀ k,k<w.heap.size->k<L->w6.heap[k]?=w.heap[k]?:=fun k hk hne=>by
  rcases key with ⟨_,hg⟩ | ⟨_,hg⟩
  ·rw [hg.block k (by simp;omega) (by simp;omega),Below.heap_alloc _ _ _ hk]
  ·rw [hg.block k (by simp;omega) (by simp),Below.heap_alloc _ _ _ hk]
 have z:W.grownBy w6 none:=by
  rcases key with ⟨_,hg⟩ | ⟨_,hg⟩<;>
  exact⟨hg.os.trans h.base.os,hg.tape.trans h.base.tape,hg.output.trans h.base.output,Nat.le_trans h.base.size m,fun k hk _=>by
    rw [d k (Nat.lt_of_lt_of_le hk h.base.size) (by omega)];exact h.base.block k hk (by simp)⟩
 have u:(w.alloc o).grownBy w6 tv.ownBlock:=by
  rcases key with ⟨e,hg⟩ | ⟨_,hg⟩
  ·rw [e];exact hg
  ·exact⟨hg.os,hg.tape,hg.output,hg.size,fun k hk _=>hg.block k hk (by simp)⟩
 have F:ThrAt L w6.heap.size w6 (.slice (some ⟨g6,0,none⟩) (p.length+1) c6) (p++[c]):=
  ThrAt.snoc h.thr E (fun q e=>iA h.row q e) r ⟨iQ h.row x,fun q e=>iZ h.row q e⟩ (iq (ir _ _)) u i m (fun q e=>iZ i q e)
 have f:w6.heap[n5]?=some (.cells #[tv,.slice none 0 0,.int .i64 0,.int .i64 0,.int .i64 0] 56 (0,0)):=by rw [d n5 t (by omega)];exact h.art
 have j:=jN w6 n5 0 (.slice (some ⟨g6,0,none⟩) (p.length+1) c6);refine⟨⟨by simp [World.cell?,f],by simp [World.frozen?,f]⟩,⟨?_,?_,?_,?_,⟨rfl,Or.inl ⟨rfl,rfl⟩⟩,iF z (by omega),v,n,C,A⟩⟩
 ·exact(h.rd.step (d b (by omega) (by omega))).step (Below.heap_setCell _ _ _ _ (by simp only;omega))
 ·rw [heap_setCell_same w6 n5 0 _ _ _ f];rfl
 ·rw [Below.heap_setCell _ _ _ _ (by simp only;omega),d n2 y (by omega)];exact h.res
 ·exact(F.step j (fun q e=>by simp only [Option.some.injEq]at e;omega)).mono j.size
end
end
section
open Go.RowKit
attribute [local go_sem] Go.World.cell?_alloc_some
theorem ES:((Tryz.prog.info? 66).map fun i=>(i.zero,i.size,i.bytes))=some (some (.slice none 0 0),1,24):=by kernel_rfl
theorem A9(k:Nat)(p:List (List Ins))(l:List Nat):lj k p l true=(p,l,true):=by cases k<;>rfl
theorem AK(k:Nat)(c:List Ins)(l:List Nat):ll k c l true=(c,l,true):=by cases k<;>rfl
theorem mI{w:World}{g:Nat}{x0 x1 x2 x3:Value}{t:TypeId}(h:w.heap[g]?=some (.cells #[x0,x1,x2,x3] t (0,0))):w.cell? ⟨g,0,none⟩=some x0/\w.cell? ⟨g,1,none⟩=some x1/\w.cell? ⟨g,2,none⟩=some x2/\w.cell? ⟨g,3,none⟩=some x3/\∀ o,w.frozen? ⟨g,o,none⟩=false:=by
 simp [World.cell?,World.frozen?,h]
theorem ER(s:ByteArray)(w:World)(Q:s.size<=9223372036854775000):
  Calls Tryz.prog 71 #[.string s] w fun e w'=>∃ tv sv,e= .returned (.tuple #[.agg #[tv,sv,.int .i64 (j3 (byt s)).1.ver.1,.int .i64 (j3 (byt s)).1.ver.2.1,.int .i64 (j3 (byt s)).1.ver.2.2],.bool (j3 (byt s)).2])/\w.grownBy w' none/\ThrAt w.heap.size w'.heap.size w' tv (j3 (byt s)).1.prog/\w'.ownsRow w.heap.size 3 1 sv (j3 (byt s)).1.sch.length (iL (j3 (byt s)).1.sch):=by
 obtain⟨i0,bX,bC,bJ,bP⟩:=info_parts xu;obtain⟨i1,bR,bz,bw,aE⟩:=info_parts ES;have ac:∀ q,pt q= .pointer (some ⟨q,0,none⟩):=fun _=>rfl
 have aa:Hid (j3 (byt s)=(⟨(lj (iP 4 ((byt s).drop 3)).1 [] (iP 4 ((byt s).drop 3)).2.1 (iP 4 ((byt s).drop 3)).2.2).1,(lA (lj (iP 4 ((byt s).drop 3)).1 [] (iP 4 ((byt s).drop 3)).2.1 (iP 4 ((byt s).drop 3)).2.2).2.1 (lj (iP 4 ((byt s).drop 3)).1 [] (iP 4 ((byt s).drop 3)).2.1 (iP 4 ((byt s).drop 3)).2.2).2.2).1,(lA (lj (iP 4 ((byt s).drop 3)).1 [] (iP 4 ((byt s).drop 3)).2.1 (iP 4 ((byt s).drop 3)).2.2).2.1 (lj (iP 4 ((byt s).drop 3)).1 [] (iP 4 ((byt s).drop 3)).2.1 (iP 4 ((byt s).drop 3)).2.2).2.2).2.1⟩,(lA (lj (iP 4 ((byt s).drop 3)).1 [] (iP 4 ((byt s).drop 3)).2.1 (iP 4 ((byt s).drop 3)).2.2).2.1 (lj (iP 4 ((byt s).drop 3)).1 [] (iP 4 ((byt s).drop 3)).2.1 (iP 4 ((byt s).drop 3)).2.2).2.2).2.2)):=rfl;generalize j3 (byt s)=GG at*;obtain⟨l0,aU⟩:∃ l,l=(byt s).drop 3:=⟨_,rfl⟩;rw [<-aU]at aa;go_enter Tryz.func71,Tryz.ntmps71
 go_upto_region 3 with fail
 obtain⟨w1,aP⟩:∃ w1,w1=((w.alloc (.cells #[.slice none 0 0,.slice none 0 0,.int .i64 0,.int .i64 0,.int .i64 0] 56)).alloc (.cells #[.string s,.int .i64 3,.bool false] 180)).alloc (.cells #[.slice none 0 0,.slice none 0 0,.int .i64 0,.int .i64 0,.int .i64 0] 56):=⟨_,rfl⟩;rw [<-aP];have HS:Hid (GuS w w1 (w.heap.size+1) (w.heap.size+1+1) w.heap.size (w.heap.size+1+1+1) s l0 false (.slice none 0 0) (.slice none 0 0) (0,0,0) [] []):=by
  unfold Hid;rw [aP];have e0:=heap_alloc_new w (.cells #[.slice none 0 0,.slice none 0 0,.int .i64 0,.int .i64 0,.int .i64 0] 56);have e1:=heap_alloc_new (w.alloc (.cells #[.slice none 0 0,.slice none 0 0,.int .i64 0,.int .i64 0,.int .i64 0] 56)) (.cells #[.string s,.int .i64 3,.bool false] 180);have W:=heap_alloc_new ((w.alloc (.cells #[.slice none 0 0,.slice none 0 0,.int .i64 0,.int .i64 0,.int .i64 0] 56)).alloc (.cells #[.string s,.int .i64 3,.bool false] 180)) (.cells #[.slice none 0 0,.slice none 0 0,.int .i64 0,.int .i64 0,.int .i64 0] 56);simp only [World.size_alloc]at e1 W;refine⟨⟨3,?_,aU,by omega⟩,W,?_,⟨[],⟨rfl,Or.inl ⟨rfl,rfl⟩⟩,fun h e=>(by cases e),fun j hj=>absurd hj (Nat.not_lt_zero j),Apt.nil⟩,⟨rfl,Or.inl ⟨rfl,rfl⟩⟩,iq (iq (iq (ir _ _))),by omega,by omega,by omega,by omega⟩
  ·rw [Below.heap_alloc _ _ _ (by simp)];exact e1
  ·rw [Below.heap_alloc _ _ _ (by simp;omega),Below.heap_alloc _ _ _ (by simp)];exact e0
 clear aP aU;have bO:Hid (w.heap.size<=w.heap.size+1+1+1):=by unfold Hid;omega
 generalize hb:w.heap.size+1=b at*;generalize c8:b+1=n5 at*;generalize hL:n5+1=L at*;generalize bH:w.heap.size=n2 at*;have V:=ij bH;clear hb c8 hL bH;have HK:=ij (nk w1 b s l0 false 4 (by omega) HS.out.rd Q);rw [ac]at HK;have aK:=kz 4 l0;generalize iP 4 l0=x at*;obtain⟨k0,l1,b1⟩:=x;simp only [Bool.false_or]at aK HK aa;generalize hP:lj k0 [] l1 b1=PP at*;have HP:=ij hP;clear hP;have qk0:(k0:Int)<=4:=by omega
 go_wp2_with (go_at_call 98;refine HK.out.mono ?_;clear HK;rintro e w2 ⟨rfl,A,u⟩;have H1:=ij (HS.out.call A u);clear A u)
 go_loopw [6] (fun kv w'=>∃ (k:Nat) (tv:Value) (p:List (List Ins)) (d:List Nat) (o:Bool),k<=4/\kv= .int .i64 k/\Hid (p.length+k<=4)/\Hid (GuS w w' b n5 n2 L s d o tv (.slice none 0 0) (0,0,0) p []/\lj k p d o=PP)) (fun kv _=>(intOf kv).toNat)
 case atStart=>exact⟨k0,_,[],l1,b1,aK,rfl,ij (by simpa using aK),⟨H1.out,HP.out⟩⟩
 case round=>
  clear H1 HP HS;obtain⟨k,tv,p,d,o,hk,rfl,b7,Y⟩:=hrel;obtain⟨w3,bU⟩:∃ w3,w3=wr:=⟨_,rfl⟩;rw [<-bU]at Y ⊢;clear bU;have kb:=Y.out.1.rd.bad;by_cases aH:0<k/\o=false
  ·obtain⟨bK,rfl⟩:=aH;obtain⟨k,rfl⟩:∃ j,k=j+1:=⟨k - 1,by omega⟩;have t0:(0:Int)<((k+1:Nat):Int):=by omega
   have aA:=ij Y.out.1.begin;have bM:Hid (lj (k+1) p d false=lj k (p++[(ll (iP 16 d).1 [] (iP 16 d).2.1 (iP 16 d).2.2).1]) (ll (iP 16 d).1 [] (iP 16 d).2.1 (iP 16 d).2.2).2.1 (ll (iP 16 d).1 [] (iP 16 d).2.1 (iP 16 d).2.2).2.2):=rfl;go_upto_region 7 with fail
   obtain⟨w4,b5⟩:∃ w4,w4=w3.alloc (.cells #[] 65):=⟨_,rfl⟩;rw [<-b5]at aA ⊢;clear b5 kb;generalize hB:w3.heap.size=B at*;clear hB;have HN:=ij (nk w4 b s d false 16 (by omega) aA.out.rd Q);rw [ac]at HN;have aY:=kz 16 d;generalize iP 16 d=x at*;obtain⟨n,l2,b2⟩:=x;simp only [Bool.false_or]at aY HN bM;generalize hC:ll n [] l2 b2=CC at*;have HC:=ij hC;clear hC;have qn:(n:Int)<=16:=by omega
   go_wp2_with (go_at_call 98;refine HN.out.mono ?_;clear HN;rintro e w5 ⟨rfl,A,u⟩;have H5:=ij (aA.out.call A u);clear A u)
   go_loopw [7,8] (fun lv mv w'=>∃ (m:Nat) (c:List Ins) (r:List Nat) (M:Bool),m<=16/\mv= .int .i64 m/\Hid (c.length+m<=16)/\Hid (GuB w w' b n5 n2 L B s r M tv p lv c/\ll m c r M=CC)) (fun _ mv _=>(intOf mv).toNat)
   case atStart=>exact⟨n,[],l2,b2,aY,rfl,ij (by simpa using aY),⟨H5.out,HC.out⟩⟩
   case round=>
    clear H5 HC aA;obtain⟨m,c,r,M,hm,rfl,aG,E⟩:=hrel;obtain⟨w6,bj⟩:∃ w6,w6=wr:=⟨_,rfl⟩;rw [<-bj]at E ⊢;clear bj;have kb:=E.out.1.rd.bad;have aj:=E.out.1.row;obtain⟨N,y2,P,rfl⟩:=iw aj;have aE:=iB aj;subst aE;by_cases aI:0<m/\M=false
    ·obtain⟨bD,rfl⟩:=aI;obtain⟨m,rfl⟩:∃ j,m=j+1:=⟨m - 1,by omega⟩;have t1:(0:Int)<((m+1:Nat):Int):=by omega
     have bp:Hid (ll (m+1) c r false=ll m (c++[(qJ r).1]) (qJ r).2.1 (qJ r).2.2):=rfl;have X:Hid (qJ r=(⟨((iP 11 r).1:Nat),((iP 3 (iP 11 r).2.1).1:Nat),((iP 3 (iP 3 (iP 11 r).2.1).2.1).1:Nat),zag (mp 10 1 0 (iP 3 (iP 3 (iP 11 r).2.1).2.1).2.1).1⟩,(mp 10 1 0 (iP 3 (iP 3 (iP 11 r).2.1).2.1).2.1).2.1,(iP 11 r).2.2 || (iP 3 (iP 11 r).2.1).2.2 || (iP 3 (iP 3 (iP 11 r).2.1).2.1).2.2 || (mp 10 1 0 (iP 3 (iP 3 (iP 11 r).2.1).2.1).2.1).2.2)):=rfl;go_upto_region 11 with fail
     obtain⟨w7,aB⟩:∃ w7,w7=w6.alloc (.cells #[.int .i64 0,.int .i64 0,.int .i64 0,.int .i64 0] 65):=⟨_,rfl⟩;have br:Hid (GuB w w7 b n5 n2 L B s r false tv p (.slice N c.length P) c):=by unfold Hid;rw [aB];exact E.out.1.made _
     have bx:Hid (w7.heap[w6.heap.size]?=some (.cells #[.int .i64 0,.int .i64 0,.int .i64 0,.int .i64 0] 65 (0,0))):=by unfold Hid;rw [aB];exact heap_alloc_new w6 _
     have h9:B<=w6.heap.size:=E.out.1.ord.2.2.2.2.2;have ah:(Value.slice N c.length P).ownBlock≠some w6.heap.size:=fun e=>by have:=iZ aj _ e;omega
     have aw:w6.heap.size≠b:=by have:=E.out.1.ord;omega
     rw [<-aB];clear aB aj kb;generalize w6.heap.size=n9 at*;have am:=ij (nk w7 b s r false 11 (by omega) br.out.rd Q);rw [ac]at am;have cp:=kz 11 r;generalize iP 11 r=x at*;obtain⟨y,l4,bo⟩:=x;simp only [Bool.false_or]at am X cp;have qv1:(y:Int)<=11:=by omega
     go_upto_region 12 with (go_at_call 98;refine am.out.mono ?_;clear am;rintro e v1 ⟨rfl,A,u⟩;have hc:=br.out.call A u;have C:v1.heap[n9]?=some (.cells #[.int .i64 0,.int .i64 0,.int .i64 0,.int .i64 0] 65 (0,0)):=(by rw [u.block n9 (Array.getElem?_eq_some_iff.1 bx.out).1 (by simp only [ne_eq,Option.some.injEq];exact aw)];exact bx.out);have H:=(mI C).1;have K:=(mI C).2.2.2.2 0;have bL:=ij hc;have bE:=ij C;clear A u hc C)
     have G:=bL.out.put h9 ah 0 (.int .i64 (y:Int));have F:=heap_setCell_same v1 n9 0 _ _ (.int .i64 (y:Int)) bE.out;generalize v1.setCell ⟨n9,0,none⟩ (.int .i64 (y:Int))=x1 at*;have bG:=ij G;have bW:Hid (x1.heap[n9]?=some (.cells #[.int .i64 (y:Int),.int .i64 0,.int .i64 0,.int .i64 0] 65 (0,0))):=F;clear G F H K bL bE;have V:=ij (nk x1 b s l4 bo 3 (by omega) bG.out.rd Q);rw [ac]at V;have c2:=kz 3 l4;generalize iP 3 l4=x at*;obtain⟨z,l5,ba⟩:=x;simp only at V X c2;have qv2:(z:Int)<=3:=by omega
     go_upto_region 13 with (go_at_call 98;refine V.out.mono ?_;clear V;rintro e v2 ⟨rfl,A,u⟩;have hc:=bG.out.call A u;have C:v2.heap[n9]?=some (.cells #[.int .i64 (y:Int),.int .i64 0,.int .i64 0,.int .i64 0] 65 (0,0)):=(by rw [u.block n9 (Array.getElem?_eq_some_iff.1 bW.out).1 (by simp only [ne_eq,Option.some.injEq];exact aw)];exact bW.out);have H:=(mI C).2.1;have K:=(mI C).2.2.2.2 1;have bB:=ij hc;have b3:=ij C;clear A u hc C)
     have G:=bB.out.put h9 ah 1 (.int .i64 (z:Int));have F:=heap_setCell_same v2 n9 1 _ _ (.int .i64 (z:Int)) b3.out;generalize v2.setCell ⟨n9,1,none⟩ (.int .i64 (z:Int))=x2 at*;have bi:=ij G;have bS:Hid (x2.heap[n9]?=some (.cells #[.int .i64 (y:Int),.int .i64 (z:Int),.int .i64 0,.int .i64 0] 65 (0,0))):=F;clear G F H K bB b3;have ax:=ij (nk x2 b s l5 (bo || ba) 3 (by omega) bi.out.rd Q);rw [ac]at ax;have ea:=kz 3 l5;generalize iP 3 l5=x at*;obtain⟨D,l6,bb⟩:=x;simp only at ax X ea;have qv3:(D:Int)<=3:=by omega
     go_upto_region 14 with (go_at_call 98;refine ax.out.mono ?_;clear ax;rintro e v3 ⟨rfl,A,u⟩;have hc:=bi.out.call A u;have C:v3.heap[n9]?=some (.cells #[.int .i64 (y:Int),.int .i64 (z:Int),.int .i64 0,.int .i64 0] 65 (0,0)):=(by rw [u.block n9 (Array.getElem?_eq_some_iff.1 bS.out).1 (by simp only [ne_eq,Option.some.injEq];exact aw)];exact bS.out);have H:=(mI C).2.2.1;have K:=(mI C).2.2.2.2 2;have bY:=ij hc;have b9:=ij C;clear A u hc C)
     have G:=bY.out.put h9 ah 2 (.int .i64 (D:Int));have F:=heap_setCell_same v3 n9 2 _ _ (.int .i64 (D:Int)) b9.out;generalize v3.setCell ⟨n9,2,none⟩ (.int .i64 (D:Int))=x3 at*;have bV:=ij G;have b4:Hid (x3.heap[n9]?=some (.cells #[.int .i64 (y:Int),.int .i64 (z:Int),.int .i64 (D:Int),.int .i64 0] 65 (0,0))):=F;clear G F H K bY b9;have ar:=ij (Fc x3 b s l6 (bo || ba || bb) bV.out.rd Q);rw [ac]at ar;have cf:=rW 10 1 0 l6;generalize mp 10 1 0 l6=x at*;obtain⟨f,l7,bn⟩:=x;simp only at ar X cf;have qn64:(f:Int)<18446744073709551616:=by omega
     go_upto_region 15 with (go_at_call 99;refine ar.out.mono ?_;clear ar;rintro e v4 ⟨rfl,A,u⟩;have hc:=bV.out.call A u;have C:v4.heap[n9]?=some (.cells #[.int .i64 (y:Int),.int .i64 (z:Int),.int .i64 (D:Int),.int .i64 0] 65 (0,0)):=(by rw [u.block n9 (Array.getElem?_eq_some_iff.1 b4.out).1 (by simp only [ne_eq,Option.some.injEq];exact aw)];exact b4.out);have bm:=ij hc;have bc:=ij C;clear A u hc C)
     obtain⟨_,_,_,H,p4⟩:=mI bc.out;have K:=p4 3;clear p4;go_upto_region 16 with fail
     have G:=bm.out.put h9 ah 3 (.int .i64 ((f:Int) / 2));have F:=heap_setCell_same v4 n9 3 _ _ (.int .i64 ((f:Int) / 2)) bc.out;generalize v4.setCell ⟨n9,3,none⟩ (.int .i64 ((f:Int) / 2))=x4 at*;have az:=ij G;have aN:Hid (x4.heap[n9]?=some (.cells #[.int .i64 (y:Int),.int .i64 (z:Int),.int .i64 (D:Int),.int .i64 ((f:Int) / 2)] 65 (0,0))):=F;clear G F H K bm bc;by_cases ho:f % 2=1
     ·have hl:Int.tmod (f:Int) 2=1:=by rw [Int.tmod_eq_emod_of_nonneg (by omega)];omega
      have cE:(f:Int) % 2=1:=by omega
      have a4:Hid (zag f= -((f:Int) / 2) - 1):=by unfold Hid zag;rw [if_pos ho];omega
      clear ho;obtain⟨_,_,_,H,p4⟩:=mI aN.out;have K:=p4 3;clear p4;go_upto_region 18 with fail
      have G:=az.out.put h9 ah 3 (.int .i64 (-((f:Int) / 2) - 1));have F:=heap_setCell_same x4 n9 3 _ _ (.int .i64 (-((f:Int) / 2) - 1)) aN.out;generalize x4.setCell ⟨n9,3,none⟩ (.int .i64 (-((f:Int) / 2) - 1))=x5 at*;have aS:=ij G;have ct:Hid (x5.heap[n9]?=some (.cells #[.int .i64 (y:Int),.int .i64 (z:Int),.int .i64 (D:Int),.int .i64 (-((f:Int) / 2) - 1)] 65 (0,0))):=F;clear G F H K;obtain⟨r0,r1,r2,r3,_⟩:=mI ct.out;have aT:=ij aS.out.row;have b8:B<=x5.heap.size:=aS.out.ord.2.2.2.2.2;have hcl:c.length<=15:=by have:=aG.out;omega
      have Z:c.length+1<=maxLen:=by unfold maxLen;omega
      have aM:Hid (ll m (c++[⟨(y:Int),(z:Int),(D:Int), -((f:Int) / 2) - 1⟩]) l7 (bo || ba || bb || bn)=CC):=by
       have O:=E.out.2;rw [bp.out,X.out,a4.out]at O;exact O
      go_wp2_with (at_builtin;go_must (refine iG rfl _ _ _ rfl B 65 i0 _ 4 32 Tryz.underlying66 bX bC bJ bP rfl (by omega) (.slice N c.length P) c.length (jk c) rfl (iJ aT.out) ⟨x5.heap.size,0,none⟩ 1 1 [.int .i64 (y:Int),.int .i64 (z:Int),.int .i64 (D:Int),.int .i64 (-((f:Int) / 2) - 1)] rfl rfl (World.news_of_block (cs:= #[.int .i64 (y:Int),.int .i64 (z:Int),.int .i64 (D:Int),.int .i64 (-((f:Int) / 2) - 1)]) (t:=65) (fr:=(0,0)) (heap_alloc_new x5 _)) (by simp [Value.oneCell']) (by omega) Z (by omega) (by simp;omega) (x5.heap.size+1) (by simp) ?_);intro g8 aJ a3 I J S;have U:=ij (aS.out.push (i:=⟨(y:Int),(z:Int),(D:Int), -((f:Int) / 2) - 1⟩) rfl I J);clear I J S)
      go_roundw
      case rel=>exact⟨m,_,l7,_,by omega,by go_num,ij (by have:=aG.out;simp;omega),⟨U.out,aM.out⟩⟩
      case measure=>simp [intOf]<;>omega
     ·have hl:Int.tmod (f:Int) 2=0:=by rw [Int.tmod_eq_emod_of_nonneg (by omega)];omega
      have cE:(f:Int) % 2=0:=by omega
      have a4:Hid (zag f=(f:Int) / 2):=by unfold Hid zag;rw [if_neg ho];omega
      clear ho;go_upto_region 18 with fail
      obtain⟨r0,r1,r2,r3,_⟩:=mI aN.out;have aT:=ij az.out.row;have b8:B<=x4.heap.size:=az.out.ord.2.2.2.2.2;have hcl:c.length<=15:=by have:=aG.out;omega
      have Z:c.length+1<=maxLen:=by unfold maxLen;omega
      have aM:Hid (ll m (c++[⟨(y:Int),(z:Int),(D:Int),(f:Int) / 2⟩]) l7 (bo || ba || bb || bn)=CC):=by
       have O:=E.out.2;rw [bp.out,X.out,a4.out]at O;exact O
      go_wp2_with (at_builtin;go_must (refine iG rfl _ _ _ rfl B 65 i0 _ 4 32 Tryz.underlying66 bX bC bJ bP rfl (by omega) (.slice N c.length P) c.length (jk c) rfl (iJ aT.out) ⟨x4.heap.size,0,none⟩ 1 1 [.int .i64 (y:Int),.int .i64 (z:Int),.int .i64 (D:Int),.int .i64 ((f:Int) / 2)] rfl rfl (World.news_of_block (cs:= #[.int .i64 (y:Int),.int .i64 (z:Int),.int .i64 (D:Int),.int .i64 ((f:Int) / 2)]) (t:=65) (fr:=(0,0)) (heap_alloc_new x4 _)) (by simp [Value.oneCell']) (by omega) Z (by omega) (by simp;omega) (x4.heap.size+1) (by simp) ?_);intro g8 aJ a3 I J S;have U:=ij (az.out.push (i:=⟨(y:Int),(z:Int),(D:Int),(f:Int) / 2⟩) rfl I J);clear I J S)
      go_roundw
      case rel=>exact⟨m,_,l7,_,by omega,by go_num,ij (by have:=aG.out;simp;omega),⟨U.out,aM.out⟩⟩
      case measure=>simp [intOf]<;>omega
    ·have dD:Hid (CC=(c,r,M)):=by
      unfold Hid;rw [<-E.out.2];by_cases e:m=0
      ·rw [e];rfl
      ·have:M=true:=by
        cases M with
        | true=>rfl
        | false=>exact absurd ⟨by omega,rfl⟩ aI
       rw [this];exact AK _ _ _
     have bF:Hid (lj k (p++[c]) r M=PP):=by
      have O:=Y.out.2;rw [bM.out,dD.out]at O;exact O
     have bI:Hid ((p++[c]).length+k<=4):=by have:=b7.out;unfold Hid;simp;omega
     obtain⟨rows,an,ev,dG⟩:=E.out.1.thr;obtain⟨q1,q2,q3,rfl⟩:=iw an;have cl:=iB an;subst cl;have ap:=ij an;have a0:w6.cell? ⟨n5,0,none⟩=some (.slice q1 p.length q3):=by simp [World.cell?,E.out.1.art]
     have b8:L<=w6.heap.size:=by have:=E.out.1.ord;omega
     have hp4:p.length<=4:=by have:=b7.out;omega
     have Z:p.length+1<=maxLen:=by unfold maxLen;omega
     clear aj an ev dG;by_cases bD:0<m
     ·have aO:M=true:=by
       cases M with
       | true=>rfl
       | false=>exact absurd ⟨bD,rfl⟩ aI
      subst aO;have t1:(0:Int)<(m:Int):=by omega
      go_wp2_with (at_builtin;go_must (refine iG rfl _ _ _ rfl L 66 i1 _ 1 24 Tryz.underlying35 bR bz bw aE rfl (by omega) (.slice q1 p.length q3) p.length rows rfl (iJ ap.out) ⟨w6.heap.size,0,none⟩ 1 1 [.slice N c.length P] rfl rfl (World.news_of_block (cs:= #[.slice N c.length P]) (t:=66) (fr:=(0,0)) (heap_alloc_new w6 _)) (by simp [Value.oneCell']) (by omega) Z (by omega) (by simp;omega) (w6.heap.size+1) (by simp) ?_);intro g8 aJ a3 I J S;obtain⟨⟨H,K⟩,ag⟩:=E.out.1.pushT rfl ap.out I J;have U:=ij ag;clear ag I J S)
      go_roundw
      case rel=>exact⟨k,_,p++[c],r,_,by omega,by go_num,bI,⟨U.out,bF.out⟩⟩
      case measure=>simp [intOf]<;>omega
     ·skip
      have t1:(m:Int)<=0:=by omega
      go_wp2_with (at_builtin;go_must (refine iG rfl _ _ _ rfl L 66 i1 _ 1 24 Tryz.underlying35 bR bz bw aE rfl (by omega) (.slice q1 p.length q3) p.length rows rfl (iJ ap.out) ⟨w6.heap.size,0,none⟩ 1 1 [.slice N c.length P] rfl rfl (World.news_of_block (cs:= #[.slice N c.length P]) (t:=66) (fr:=(0,0)) (heap_alloc_new w6 _)) (by simp [Value.oneCell']) (by omega) Z (by omega) (by simp;omega) (w6.heap.size+1) (by simp) ?_);intro g8 aJ a3 I J S;obtain⟨⟨H,K⟩,ag⟩:=E.out.1.pushT rfl ap.out I J;have U:=ij ag;clear ag I J S)
      go_roundw
      case rel=>exact⟨k,_,p++[c],r,_,by omega,by go_num,bI,⟨U.out,bF.out⟩⟩
      case measure=>simp [intOf]<;>omega
  ·have bQ:Hid (PP=(p,d,o)):=by
    unfold Hid;rw [<-Y.out.2];by_cases e:k=0
    ·rw [e];rfl
    ·have:o=true:=by
      cases o with
      | true=>rfl
      | false=>exact absurd ⟨by omega,rfl⟩ aH
     rw [this];exact A9 _ _ _
   rw [bQ.out]at aa;simp only at aa;have bN:Hid (GuS w w3 b n5 n2 L s d o tv (.slice none 0 0) (0,0,0) p []):=Y.out.1;have b6:Hid (∀ (w':World) (sv:Value),w'.heap[n2]?=some (.cells #[tv,sv,.int .i64 (lA d o).2.1.1,.int .i64 (lA d o).2.1.2.1,.int .i64 (lA d o).2.1.2.2] 56 (0,0))->ThrAt L w'.heap.size w' tv p->w'.ownsRow L 3 1 sv (lA d o).1.length (iL (lA d o).1)->w.grownBy w' none->∀ a,a=Ending.returned (.tuple #[.agg #[tv,sv,.int .i64 (lA d o).2.1.1,.int .i64 (lA d o).2.1.2.1,.int .i64 (lA d o).2.1.2.2],.bool (lA d o).2.2])->∃ tv sv,a= .returned (.tuple #[.agg #[tv,sv,.int .i64 GG.1.ver.1,.int .i64 GG.1.ver.2.1,.int .i64 GG.1.ver.2.2],.bool GG.2])/\w.grownBy w' none/\ThrAt w.heap.size w'.heap.size w' tv GG.1.prog/\w'.ownsRow w.heap.size 3 1 sv GG.1.sch.length (iL GG.1.sch)):=by
    intro w' sv g1 g2 T R a ha;rw [aa.out];exact⟨tv,sv,ha,R,g2.low (by rw [V.out];exact bO.out),iQ T (by rw [V.out];exact bO.out)⟩
   clear aa bQ;by_cases bK:0<k
   ·have aO:o=true:=by
     cases o with
     | true=>rfl
     | false=>exact absurd ⟨bK,rfl⟩ aH
    subst aO;have t1:(0:Int)<(k:Int):=by omega
    go_upto_if 28 with fail
    refine wp_cond_false rfl ?_;refine wp_exit ?_;refine ‹∀ a w,Code.wp Tryz.prog _ _ a w->_› _ _ ?_;refine Di bN Q ?_ ?_
    ·exact fun _ _ _ _ _ h=>h
    intro z0 z1 z4 z5 z6 z7 z8 z9 dE dm ew cF co dd cy dg eg dR db eq df dF dn cq cU cc cW c5 dc cQ cR dl dv eC el dV cY dS eA d9 dC ck dP ci ef eb dT ex da cw cd dQ dy c3 cD ey dz d4 dA ch dK en cS c7 dM ep cx ed cv dY d0 cr ez cM dO cX ei dW dH c4 d3 eh cB ce cT dj dt c6 ee cI cm dI dq cn cL d5 eD d8 cZ dN cj du dJ cu d1 cA cV dL cz ds d6 d2 eB dU dp es dX cH dr c9 cC et er cO eu cP cK cN dZ d7 dh w' sv g1 g2 T R;have e0:w'.cell? ⟨n2,0,none⟩=some tv:=by simp only [World.cell?,g1];rfl
    have e1:w'.cell? ⟨n2,1,none⟩=some sv:=by simp only [World.cell?,g1];rfl
    have W:w'.cell? ⟨n2,2,none⟩=some (.int .i64 (lA d true).2.1.1):=by simp only [World.cell?,g1];rfl
    have e3:w'.cell? ⟨n2,3,none⟩=some (.int .i64 (lA d true).2.1.2.1):=by simp only [World.cell?,g1];rfl
    have e4:w'.cell? ⟨n2,4,none⟩=some (.int .i64 (lA d true).2.1.2.2):=by simp only [World.cell?,g1];rfl
    have HF:=ij (b6.out w' sv g1 g2 T R _ rfl);clear g1 g2 T R;refine bodyPost_ret (v:= .tuple #[.agg #[tv,sv,.int .i64 (lA d true).2.1.1,.int .i64 (lA d true).2.1.2.1,.int .i64 (lA d true).2.1.2.2],.bool (lA d true).2.2]) ?_ rfl HF.out;simp [results,Tryz.results71,go_sem,e0,e1,W,e3,e4]
   ·have t1:(k:Int)<=0:=by omega
    go_upto_if 28 with fail
    refine wp_cond_false rfl ?_;refine wp_exit ?_;refine ‹∀ a w,Code.wp Tryz.prog _ _ a w->_› _ _ ?_;refine Di bN Q ?_ ?_
    ·exact fun _ _ _ _ _ h=>h
    intro z0 z1 z4 z5 z6 z7 z8 z9 dE dm ew cF co dd cy dg eg dR db eq df dF dn cq cU cc cW c5 dc cQ cR dl dv eC el dV cY dS eA d9 dC ck dP ci ef eb dT ex da cw cd dQ dy c3 cD ey dz d4 dA ch dK en cS c7 dM ep cx ed cv dY d0 cr ez cM dO cX ei dW dH c4 d3 eh cB ce cT dj dt c6 ee cI cm dI dq cn cL d5 eD d8 cZ dN cj du dJ cu d1 cA cV dL cz ds d6 d2 eB dU dp es dX cH dr c9 cC et er cO eu cP cK cN dZ d7 dh w' sv g1 g2 T R;have e0:w'.cell? ⟨n2,0,none⟩=some tv:=by simp only [World.cell?,g1];rfl
    have e1:w'.cell? ⟨n2,1,none⟩=some sv:=by simp only [World.cell?,g1];rfl
    have W:w'.cell? ⟨n2,2,none⟩=some (.int .i64 (lA d o).2.1.1):=by simp only [World.cell?,g1];rfl
    have e3:w'.cell? ⟨n2,3,none⟩=some (.int .i64 (lA d o).2.1.2.1):=by simp only [World.cell?,g1];rfl
    have e4:w'.cell? ⟨n2,4,none⟩=some (.int .i64 (lA d o).2.1.2.2):=by simp only [World.cell?,g1];rfl
    have HF:=ij (b6.out w' sv g1 g2 T R _ rfl);clear g1 g2 T R;refine bodyPost_ret (v:= .tuple #[.agg #[tv,sv,.int .i64 (lA d o).2.1.1,.int .i64 (lA d o).2.1.2.1,.int .i64 (lA d o).2.1.2.2],.bool (lA d o).2.2]) ?_ rfl HF.out;simp [results,Tryz.results71,go_sem,e0,e1,W,e3,e4]
def Tab(w:World):Prop:=Lib.TabIs Tryz.prog w "internal/strconv.uint64pow10" .u64 Lib.pow10Tab
theorem Tab.grown{w w':World}(h:Tab w)(a:w.grownBy w' none):Tab w':=by
 unfold Tab at*;exact(Lib.tabBelow_of_tabIs h) w' ⟨a.os,a.tape,a.output,a.size,fun k hk=>a.block k hk (by simp)⟩
theorem BO(n:Int)(c: -9223372036854775808<=n)(b:n<=9223372036854775807)(w:World)(d:Tab w):Calls Tryz.prog 144 #[.int .i64 n] w fun e w'=>e= .returned (.string ⟨(Lib.itoa n).toArray⟩)/\w.grownBy w' none:=by
 refine(Tryz.strconv_Itoa n c b w d).mono ?_;rintro e w' ⟨rfl,k,a,rfl⟩;exact⟨rfl,kP (Lib.below_grow _ w (Nat.le_refl _) k a)⟩
theorem zH{u:Nat}(h:u<1000):(Lib.decDigits u).length<=3:=by
 have b:∀ u,u<10->(Lib.decDigits u).length=1:=fun u h=>by rw [Lib.decDigits,dif_pos h];rfl
 have c:∀ u,u<100->(Lib.decDigits u).length<=2:=fun u h=>by
  by_cases a:u<10
  ·rw [b u a];omega
  ·rw [Lib.decDigits,dif_neg a,List.length_append,b (u / 10) (by omega)];simp
 by_cases a:u<10
 ·rw [b u a];omega
 ·have:=c (u / 10) (by omega);rw [Lib.decDigits,dif_neg a,List.length_append];simp;omega
theorem oX{n:Int}(h0:0<=n)(h:n<1000):(Lib.itoa n).length<=3:=by
 unfold Lib.itoa;rw [if_neg (by omega)];exact zH (by omega)
theorem FK(t n:Int)(w:World)(l:Tab w)(y:0<=t)(ht1:t<=63)(hn0:1<=n)(hn1:n<=500):
  Calls Tryz.prog 108 #[.agg #[.int .i64 t,.int .i64 n]] w fun e w'=>e= .returned (.string ⟨(kV t n).toArray⟩)/\w.grownBy w' none:=by
 have q:=ij l;clear l;by_cases j:n=1
 ·subst j;go_enter Tryz.func108,Tryz.ntmps108
  go_wp2_with (go_at_call 144;refine(BO _ (by omega) (by omega) _ (q.out.grown (iq (ir _ _)))).mono ?_;rintro e w' ⟨rfl,b⟩)
  go_ret;exact⟨by simp [kV],il (iq (ir _ _)) b⟩
 ·have hn:(n==1)=false:=by simpa using j
  go_enter Tryz.func108,Tryz.ntmps108
  have A:∀ o,Tab (w.alloc o):=fun o=>q.out.grown (iq (ir _ _))
  have call:∀ (m:Int) (r: -9223372036854775808<=m) (s:m<=9223372036854775807) (o:Obj) (d:Nat) (a:Array Obj),Calls Tryz.prog 144 #[.int .i64 m] (Sort.grow (redrawn (w.alloc o) d) a) fun e w''=>e= .returned (.string ⟨(Lib.itoa m).toArray⟩)/\∃ p:Regrown,w''=Sort.grow (redrawn (w.alloc o) p.d) p.os:=by
   intro m r s o d a;refine Calls.regrown_of ((BO m r s _ ((A o).grown (kP (below_regrown _ d a)))).mono ?_);rintro e w' ⟨rfl,b⟩;exact⟨rfl,b.os,b.tape,b.output,b.size,fun k hk=>b.block k hk (by simp)⟩
  obtain⟨c,h⟩:∃ c:ByteArray,c=⟨(Lib.itoa t).toArray⟩:=⟨_,rfl⟩;obtain⟨f,i⟩:∃ f:ByteArray,f=⟨(Lib.itoa n).toArray⟩:=⟨_,rfl⟩;have l1:c.size<=3:=by rw [h];simpa [ByteArray.size]using oX y (by omega)
  have l2:f.size<=3:=by rw [i];simpa [ByteArray.size]using oX (n:=n) (by omega) (by omega)
  have n1:¬9223372036854775807<c.size+1:=by omega
  have n2:¬9223372036854775807<c.size+1+f.size:=by omega
  have u:=fun o d a=>call t (by omega) (by omega) o d a
  have v:=fun o d a=>call n (by omega) (by omega) o d a
  rw [<-h]at u;rw [<-i]at v;have z:Hid ((⟨(kV t n).toArray⟩:ByteArray)=c++⟨#[42]⟩++f):=by
   unfold Hid kV;rw [if_neg j,h,i];apply ByteArray.ext;simp
  clear call h i;go_wp2_with fail
  have c0:∀ d a,(Sort.grow (redrawn (w.alloc (.cells #[.int .i64 t,.int .i64 n] 187)) d) a).cell? ⟨w.heap.size,0,none⟩=some (.int .i64 t):=fun d a=>cell_regrown (by have:=heap_alloc_new w (.cells #[.int .i64 t,.int .i64 n] 187);simp only [World.cell?,this];rfl) d a
  have c1:∀ d a,(Sort.grow (redrawn (w.alloc (.cells #[.int .i64 t,.int .i64 n] 187)) d) a).cell? ⟨w.heap.size,1,none⟩=some (.int .i64 n):=fun d a=>cell_regrown (by have:=heap_alloc_new w (.cells #[.int .i64 t,.int .i64 n] 187);simp only [World.cell?,this];rfl) d a
  refine wp_region_quiet_below (by kernel_rfl) (by kernel_rfl) ?_;repeat (quiet_step (first | exact u _ _ _ | exact v _ _ _))
  refine wpQuiet_nil ?_;intro _ D;obtain⟨⟨x,C⟩,B⟩:=D;subst B;go_wp2
  go_ret;exact⟨by rw [z.out];rfl,il (iq (ir _ _)) (kP (below_regrown _ x C))⟩
def xd(q:List (List UInt8)):List Value:=q.map fun x=> .string ⟨x.toArray⟩
def lR(q:List (Int × Int)):List (List UInt8):=q.map fun x=>kV x.1 x.2
theorem wx:((Tryz.prog.info? 9).map fun i=>(i.zero,i.size,i.bytes))=some (some (.string ⟨#[]⟩),1,16):=by kernel_rfl
theorem zo(q:List (Int × Int))(k:Nat)(b:k<q.length):(iR q)[k*2]?=some (.int .i64 q[k].1)/\(iR q)[k*2+1]?=some (.int .i64 q[k].2):=by
 induction q generalizing k with
 | nil=>simp at b
 | cons y q ih=>
  have a:iR (y::q)= .int .i64 y.1:: .int .i64 y.2::iR q:=rfl;cases k with
  | zero=>rw [a];simp
  | succ k=>
   have:=ih k (by simpa using b);have c:(k+1)*2=k*2+1+1:=by omega
   rw [a,c];simpa using this
theorem Dg{t n:Int}(c:0<=t)(h1:t<=63)(h2:1<=n)(h3:n<=500):(kV t n).length<=7:=by
 have a:=oX c (by omega);have b:=oX (n:=n) (by omega) (by omega);unfold kV;split
 ·omega
 ·simp;omega
theorem CZ(q:List (List UInt8))(h:∀ x∈q,x.length<=7):(Lib.join q [32]).length<=8*q.length:=by
 cases q with
 | nil=>simp [Lib.join_nil]
 | cons x r=>
  rw [Lib.join_cons];have d:∀ r:List (List UInt8),(∀ x∈r,x.length<=7)->(Lib.joinTail [32] r).length<=8*r.length:=by
   intro r;induction r with
   | nil=>intro _;simp [Lib.joinTail]
   | cons y r ih=>
    intro b;have:=ih (fun x a=>b x (by simp [a]));have c:=b y (by simp);simp [Lib.joinTail]at this ⊢;omega
  have:=d r (fun y c=>h y (by simp [c]));have a:=h x (by simp);simp;omega
theorem qL{l:List Int}(h:jc l=true):∀ x∈grp l,0<=x.1/\x.1<=63/\1<=x.2/\x.2<=500:=by
 intro x b;simp only [jc,Bool.and_eq_true,decide_eq_true_eq,List.all_eq_true]at h;have:=pR l x b;have a:=h.2 x.1 this.1;exact⟨a.1,a.2,this.2.1,by omega⟩
theorem C9(l:List Int)(v:Value)(w:World)(K:Tab w)(D:IntsAt w.heap.size w v l)(b:jc l=true):
  Calls Tryz.prog 77 #[v] w fun e w'=>e= .returned (.string ⟨(lT l).toArray⟩)/\w.grownBy w' none:=by
 obtain⟨X,ag,ae,al,ax⟩:=info_parts wx;have h5:l.length<=500:=by simp only [jc,Bool.and_eq_true,decide_eq_true_eq]at b;exact b.1
 have HT:=ij K;have I:=ij (F0 l v w D h5);obtain⟨ao,cap,rfl⟩:=D.form;have O:=ij (qL b);have L:=pn l;clear K D b;go_enter Tryz.func77,Tryz.ntmps77
 go_wp2_with fail
 refine I.out.mono ?_;rintro e c ⟨x,y,z,rfl,E,T⟩;have A:=iB E;subst A;have G:=ij E;have Q:=ij T;clear E T I;have U:Hid (lT l=Lib.join (lR (grp l)) [32]):=rfl;generalize grp l=q at*;have hq:(q.length:Int)<=500:=by omega
 go_wp2_with fail
 go_loopw [3,9] (fun lv i w'=>∃ k:Nat,k<=q.length/\i= .int .i64 k/\Hid (w'.ownsRow c.heap.size 9 1 lv k (xd (lR (q.take k)))/\c.grownBy w' none)) (fun _ i _=>q.length - (intOf i).toNat)
 case atStart=>exact⟨0,Nat.zero_le _,rfl,⟨rfl,Or.inl ⟨rfl,rfl⟩⟩,ir _ _⟩
 case round=>
  obtain⟨k,hk,rfl,p⟩:=hrel;obtain⟨a,aq⟩:∃ a,a=wr:=⟨_,rfl⟩;subst aq;obtain⟨x1,x2,x3,rfl⟩:=iw p.out.1;have r:=ij p.out.1;have m:=ij p.out.2;have hsz2:=p.out.2.size;have ah:=iA r.out;by_cases F:k<q.length
  ·obtain⟨g,cp,f,_,_⟩:=G.out.form (by omega);simp only [Value.slice.injEq,true_and]at f;obtain⟨rfl,rfl⟩:=f;have C:=zo q k F;have d0:a.cell? ⟨g,k*2,none⟩=some (.int .i64 q[k].1):=ip m.out _ _ (by rw [G.out.cellAt _ (by omega)];exact C.1);have d1:a.cell? ⟨g,k*2+1,none⟩=some (.int .i64 q[k].2):=ip m.out _ _ (by rw [G.out.cellAt _ (by omega)];exact C.2);have b:=O.out q[k] (List.getElem_mem F);have H:Hid (xd (lR (q.take (k+1)))=xd (lR (q.take k))++[.string ⟨(kV q[k].1 q[k].2).toArray⟩]):=by
    unfold Hid xd lR;rw [List.take_succ_eq_append_getElem F,List.map_append,List.map_append];rfl
   generalize q[k]=tn at*;obtain⟨t,n⟩:=tn;simp only at d0 d1 b H;have hk0:(0:Int)<=(k:Int):=by omega
   have hk1:(k:Int)<q.length:=by omega
   have av:k+1<=maxLen:=by unfold maxLen;omega
   have R:∀ o,Tab (a.alloc o):=fun o=>HT.out.grown (iq (il Q.out m.out))
   clear C;go_wp2_with fail
   refine(FK t n _ (R _) b.1 b.2.1 b.2.2.1 b.2.2.2).mono ?_;rintro e w6 ⟨rfl,s⟩;have B:a.grownBy w6 none:=il (iq (ir _ _)) s;have ac:Hid (w6.ownsRow c.heap.size 9 1 (.slice x1 x2 x3) k (xd (lR (q.take k)))):=iD r.out B (fun _ e=>by cases e);have J:Hid (c.grownBy w6 none):=il m.out B;have hsz6:=J.out.size;clear s B R;generalize kV t n=wd at*;go_wp2_with (at_builtin;refine wpList_append_lies _ rfl _ _ _ rfl c.heap.size 9 X _ 1 16 Tryz.underlying24 ag ae al ax rfl (by omega) (.slice x1 x2 x3) k (xd (lR (q.take k))) rfl (iJ ac.out) ⟨w6.heap.size,0,none⟩ 1 1 [.string ⟨wd.toArray⟩] rfl rfl (World.news_of_block (cs:= #[.string ⟨wd.toArray⟩]) (t:=9) (fr:=(0,0)) (heap_alloc_new w6 _)) (by simp [Value.oneCell']) (by omega) av (by omega) (by simp;omega) (w6.heap.size+1) (by simp) ?_;intro g7 aj P N M ar hlt7)
   have W:Hid (P.ownsRow c.heap.size 9 1 (.slice (some ⟨g7,0,none⟩) (k+1) aj) (k+1) (xd (lR (q.take (k+1))))/\c.grownBy P none):=by
    refine⟨?_,jG (iq J.out) M (fun q e=>ah q e)⟩;rw [H.out];exact N
   clear N M ar;go_wp2
   go_roundw
   case rel=>exact⟨k+1,by omega,by go_num,W⟩
   case measure=>simp [intOf];omega
  ·have V:k=q.length:=by omega
   have q2:(q.length:Int)<=(k:Int):=by omega
   subst V;have h:=r.out;rw [List.take_length]at h;have aa:(lR q).length=q.length:=by simp [lR]
   have Y:Hid (w.grownBy a none):=il Q.out m.out;have af:Hid (Calls Tryz.prog 109 #[.slice x1 q.length x3,.string ⟨#[32]⟩] a fun e w'=>e= .returned (.string ⟨(Lib.join (lR q) [32]).toArray⟩)/\a.grownBy w' none):=by
    by_cases h0:q.length=0
    ·have ak:q=[]:=List.length_eq_zero_iff.1 h0;subst ak;refine(Tryz.strings_Join_none x1 x3 ⟨#[32]⟩ a).mono ?_;rintro e w' ⟨rfl,rfl⟩;exact⟨rfl,ir _ _⟩
    ·obtain⟨g,cp,f,_,L⟩:=h.form (by omega);have hcp:q.length<=x3:=by
      rcases h.2 with ⟨_,d⟩ | ⟨_,_,_,d,_,_,e2,_⟩
      ·omega
      ·simp only [Value.slice.injEq]at d;omega
     have S:=h;rw [f]at S;simp only [Value.slice.injEq]at f;obtain⟨rfl,rfl,rfl⟩:=f;have:=Tryz.strings_Join g 0 x3 ((lR q).map fun x=>(⟨x.toArray⟩:ByteArray)) ⟨#[32]⟩ a (fun j x hj=>?_) L (by simp;omega) (by simp;omega) ?_
     ·simp only [List.length_map,aa,List.map_map]at this;have d:((fun(x:ByteArray)=>x.data.toList) ∘ fun x:List UInt8=>(⟨x.toArray⟩:ByteArray))=id:=by funext x;rfl
      rw [d,List.map_id]at this;refine this.mono ?_;rintro e w' ⟨rfl,hb⟩;exact⟨rfl,kP hb⟩
     ·have Z:=(List.getElem?_eq_some_iff.1 hj).1;rw [Nat.zero_add,S.cellAt j (by simp at Z;omega)];unfold xd;rw [List.getElem?_map]at hj ⊢;cases hw:(lR q)[j]? with
      | none=>rw [hw]at hj;cases hj
      | some u=>rw [hw]at hj;simp at hj;simp [hj]
     ·have:=CZ (lR q) (fun x hx=>by
       simp only [lR,List.mem_map]at hx;obtain⟨y,A,rfl⟩:=hx;have:=O.out y A;exact Dg this.1 this.2.1 this.2.2.1 this.2.2.2)
      have d:((fun(x:ByteArray)=>x.data.toList) ∘ fun x:List UInt8=>(⟨x.toArray⟩:ByteArray))=id:=by funext x;rfl
      rw [List.map_map,d,List.map_id];simp only at this ⊢;omega
   have ab:=iB h;subst ab;clear h r p;go_wp2_with (go_at_call 109;refine af.out.mono ?_;rintro e w6 ⟨rfl,s⟩)
   go_ret;exact⟨by rw [U.out];rfl,il Y.out s⟩
theorem DH(l:List Int)(v:Value)(w:World)(d:Tab w)(b:IntsAt w.heap.size w v l):
  Calls Tryz.prog 47 #[v] w fun e w'=>w.grownBy w' none/\((jc l=true/\e= .returned (.tuple #[.string ⟨(lT l).toArray⟩,.int .i64 0]))\/(jc l=false/\e= .returned (.tuple #[.string ⟨#[]⟩,.int .i64 2]))):=by
 have i:=ij d;have f:=ij b;obtain⟨ao,cap,rfl⟩:=b.form;clear d b;go_enter Tryz.func47,Tryz.ntmps47
 go_wp2_with fail
 refine(zK l _ w f.out).mono ?_;rintro e k ⟨rfl,c⟩;have a:=ij c;clear c;cases hv:jc l with
 | false=>
  go_wp2_with fail
  refine bodyPost_ret (v:= .tuple #[.string ⟨#[]⟩,.int .i64 2]) (by simp [results,Tryz.results47,go_sem]) rfl ?_;exact⟨a.out,Or.inr ⟨hv,rfl⟩⟩
 | true=>
  have h:=ij (C9 l _ k (i.out.grown a.out) ((f.out.pres (ip a.out)).mono a.out.size) hv);go_wp2_with (go_at_call 77;refine h.out.mono ?_;rintro e w2 ⟨rfl,j⟩)
  refine bodyPost_ret (v:= .tuple #[.string ⟨(lT l).toArray⟩,.int .i64 0]) (by simp [results,Tryz.results47,go_sem]) rfl ?_;exact⟨il a.out j,Or.inl ⟨hv,rfl⟩⟩
theorem A6(l:List Nat)(h:(jM l).ok=true):(jM l).at_=0:=by
 rw [pP]at h ⊢;unfold lF at*;split at h<;>rename_i h1
 ·rw [if_pos h1]
 ·rw [if_neg h1];cases hw:jj (i7 l) (-1) []with
  | none=>rw [hw]at h;cases h
  | some x=>
   rw [hw]at h;simp only at h ⊢;split at h
   ·cases h
   ·rename_i h2;rw [if_neg h2]
theorem A8(l:List Nat)(h:(jM l).ok=false):(jM l).out=[]:=by
 rw [pP]at h ⊢;unfold lF at*;split at h<;>rename_i h1
 ·cases h
 ·rw [if_neg h1];cases hw:jj (i7 l) (-1) []with
  | none=>rfl
  | some x=>
   rw [hw]at h;simp only at h ⊢;split at h
   ·rename_i h2;rw [if_pos h2]
   ·cases h
def FR(ok:Bool):Int:=if ok=true then 0 else 4
theorem DV(s:ByteArray)(w:World)(f:s.size<=9223372036854775806):
  Calls Tryz.prog 45 #[.string s] w fun e w'=>∃ x y z,e= .returned (.tuple #[.slice x y z,.int .i64 (jM (byt s)).at_,.int .i64 (FR (jM (byt s)).ok)])/\w'.ownsRow (w.heap.size+1) 3 1 (.slice x y z) (jM (byt s)).out.length (iL (jM (byt s)).out)/\w.grownBy w' none:=by
 go_enter Tryz.func45,Tryz.ntmps45
 go_wp2_with fail
 refine(Cl s w f).mono ?_;rintro e w1 ⟨x,y,z,rfl,b,c⟩;have h:=ij b;have d:=ij c;clear b c;cases hok:(jM (byt s)).ok with
 | true=>
  have a:(jM (byt s)).at_=0:=by
   have:=(A6 (byt s)) hok;exact this
  rw [a];go_wp2_with fail
  refine bodyPost_ret (v:= .tuple #[.slice x y z,.int .i64 0,.int .i64 0]) (by simp [results,Tryz.results45,go_sem]) rfl ?_;exact⟨x,y,z,by rw [a,hok];rfl,h.out,d.out⟩
 | false=>
  have a:=A8 (byt s) hok;go_wp2_with fail
  refine bodyPost_ret (v:= .tuple #[.slice none 0 0,.int .i64 (jM (byt s)).at_,.int .i64 4]) (by simp [results,Tryz.results45,go_sem]) rfl ?_;refine⟨none,0,0,by rw [hok];rfl,?_,d.out⟩;rw [a];exact⟨rfl,Or.inl ⟨rfl,rfl⟩⟩
theorem uT(s:ByteArray)(p:Nat->Bool)(k:Nat)(h:k<s.size):((byt s).take (k+1)).all p=(((byt s).take k).all p && p s[k].toNat):=by
 have a:k<(byt s).length:=by rw [iS];exact h
 rw [kW (byt s) p k a];have:(byt s)[k]=s[k].toNat:=by
  have:=ms s k h;rw [List.getElem?_eq_getElem a]at this;exact Option.some.inj this
 rw [this]
theorem xU(s:ByteArray):byt s=s.toList.map UInt8.toNat:=by rw [ByteArray.toList_eq];rfl
theorem Dh(s:ByteArray)(l:List UInt8):byt s=l.map UInt8.toNat↔s.toList=l:=by
 rw [xU];constructor
 ·intro h;exact(List.map_inj_right (fun a b h=>UInt8.toNat_inj.1 h)).1 h
 ·intro h;rw [h]
theorem nD(s:ByteArray):byt s=[]↔s.toList=[]:=Dh s []
theorem pG(s:ByteArray):byt s=[48]↔s.toList=[48]:=Dh s [48]
theorem BH(s:ByteArray)(h:0<s.size):(byt s).head?=some s[0].toNat:=by
 rw [List.head?_eq_getElem?];exact ms s 0 h
theorem BZ{s:ByteArray}(h:¬s.toList=[]):0<s.size:=by
 by_cases a:s.size=0
 ·exact absurd ((nD s).1 (List.length_eq_zero_iff.1 (by rw [iS];exact a))) h
 ·omega
theorem ly(s:ByteArray)(w:World)(hs:s.size<=9223372036854775806):
  Calls Tryz.prog 105 #[.string s] w fun e w'=>e= .returned (.bool (i8 (byt s)))/\w'=w:=by
 go_enter Tryz.func105,Tryz.ntmps105
 go_wp2
 go_loopw [3] (fun i w'=>∃ k:Nat,k<=s.size/\i= .int .i64 k/\Hid (w'=w)/\Hid (((byt s).take k).all isD=true)) (fun i _=>s.size - (intOf i).toNat)
 case atStart=>exact⟨0,Nat.zero_le _,rfl,rfl,rfl⟩
 case round=>
  obtain⟨k,hk,rfl,u,l⟩:=hrel;obtain rfl:=u.out;by_cases z:k<s.size
  ·have j:=ij (uT s isD k z);have hk0:(0:Int)<=(k:Int):=by omega
   have hk1:(k:Int)<s.size:=by omega
   have o:Hid (isD s[k].toNat=false->i8 (byt s)=false):=by
    intro h;have:((byt s).take (k+1)).all isD=false:=by rw [j.out,h];simp
    unfold i8;rw [<-List.take_append_drop (k+1) (byt s),List.all_append,this];rfl
   by_cases n:s[k].toNat<48
   ·have m:((s[k].toNat:Nat):Int)<48:=by omega
    have a:=ij (o.out (by simp [isD];omega));go_wp2
    go_ret;exact⟨by rw [a.out];rfl,rfl⟩
   ·have m:¬((s[k].toNat:Nat):Int)<48:=by omega
    by_cases h1:s[k].toNat<=57
    ·have v:¬57<((s[k].toNat:Nat):Int):=by omega
     have c:Hid (((byt s).take (k+1)).all isD=true):=by unfold Hid;rw [j.out,l.out];simp [isD];omega
     go_wp2
     go_roundw
     case rel=>exact⟨k+1,by omega,by go_num,ij trivial,c⟩
     case measure=>simp [intOf];omega
    ·have v:57<((s[k].toNat:Nat):Int):=by omega
     have a:=ij (o.out (by simp [isD];omega));go_wp2
     go_ret;exact⟨by rw [a.out];rfl,rfl⟩
  ·have c:Hid ((byt s).all isD=true):=by
    have:=l.out;rw [List.take_of_length_le (by rw [iS];omega)]at this;exact this
   have q2:(s.size:Int)<=(k:Int):=by omega
   by_cases d:s.toList=[48]
   ·have a:Hid (i8 (byt s)=true):=by unfold Hid;rw [(pG s).2 d];rfl
    go_wp2_with fail
    go_ret;exact⟨by rw [a.out];rfl,rfl⟩
   ·by_cases b:s.toList=[]
    ·have a:Hid (i8 (byt s)=false):=by unfold Hid;rw [(nD s).2 b];rfl
     go_wp2_with fail
     go_ret;exact⟨by rw [a.out];rfl,rfl⟩
    ·have n:=BZ b;have a:Hid (i8 (byt s)=(s.toList==[48] || (!s.toList.isEmpty && (((s[0].toNat:Nat):Int) !=48)))):=by
      unfold Hid i8;have x:(byt s==[48])=false:=by simpa using fun e=>d ((pG s).1 e)
      have q:(byt s==[])=false:=by simpa using fun e=>b ((nD s).1 e)
      have t:(s.toList==[48])=false:=by simpa using d
      have p:s.toList.isEmpty=false:=by simpa using b
      rw [c.out,x,q,t,p,BH s n];by_cases f:s[0].toNat=48
      ·simp [f]
      ·have r:((s[0].toNat:Nat):Int)≠48:=by omega
       have y:(((s[0].toNat:Nat):Int) !=48)=true:=by simpa using r
       rw [y];simpa using f
     have m:(0:Int)<s.size:=by omega
     go_wp2_with fail
     all_goals
      go_ret;exact⟨by rw [a.out];rfl,rfl⟩
theorem yn(n:Int)(s:ByteArray)(k:Nat)(h:k<s.size):iE n ((byt s).drop k)=if n<1000 then iE (10*n+(((s[k].toNat+208) % 256:Nat):Int)) ((byt s).drop (k+1)) else min n 1000:=by
 rw [nt (ms s k h),iE]
theorem Au(n:Int)(s:ByteArray)(k:Nat)(h:s.size<=k):iE n ((byt s).drop k)=min n 1000:=by
 rw [List.drop_eq_nil_of_le (by rw [iS];exact h),iE]
theorem lq(s:ByteArray)(w:World)(hs:s.size<=9223372036854775806):
  Calls Tryz.prog 106 #[.string s] w fun e w'=>e= .returned (.int .i64 (iE 0 (byt s)))/\w'=w:=by
 go_enter Tryz.func106,Tryz.ntmps106
 go_wp2
 go_loopw [3,4] (fun v i w'=>∃ (k:Nat) (n:Int),k<=s.size/\i= .int .i64 k/\v= .int .i64 n/\Hid (w'=w)/\Hid (0<=n/\n<=20000/\iE n ((byt s).drop k)=iE 0 (byt s))) (fun _ i _=>s.size - (intOf i).toNat)
 case atStart=>exact⟨0,0,Nat.zero_le _,rfl,rfl,rfl,by simp [Hid]⟩
 case round=>
  obtain⟨k,n,hk,rfl,rfl,q,h⟩:=hrel;obtain rfl:=q.out;obtain⟨hn0,hn1,j⟩:=h.out;have c:=ij j;clear j h;by_cases p:k<s.size
  ·have hk0:(0:Int)<=(k:Int):=by omega
   have hk1:(k:Int)<s.size:=by omega
   have hb:=s[k].toNat_lt;have l:=ij (yn n s k p);by_cases f:n<1000
   ·have hu:IntKind.u8.wrap (((s[k].toNat:Nat):Int) - 48)=(((s[k].toNat+208) % 256:Nat):Int):=by
     simp only [IntKind.wrap,IntKind.signed,IntKind.bits];simp;omega
    have m:Hid (iE (10*n+(((s[k].toNat+208) % 256:Nat):Int)) ((byt s).drop (k+1))=iE 0 (byt s)):=by
     unfold Hid;rw [<-c.out,l.out,if_pos f]
    have hm:(s[k].toNat+208) % 256<256:=Nat.mod_lt _ (by decide);generalize ((s[k].toNat+208) % 256)=d at*;have hd0:(0:Int)<=(d:Int):=by omega
    have hd1:(d:Int)<256:=by omega
    go_wp2_with fail
    go_roundw
    case rel=>exact⟨k+1,_,by omega,by go_num,rfl,ij trivial,ij ⟨by omega,by omega,m.out⟩⟩
    case measure=>simp [intOf];omega
   ·have b:Hid (iE 0 (byt s)=1000):=by unfold Hid;rw [<-c.out,l.out,if_neg f];omega
    by_cases o:1000<n
    ·go_wp2_with fail
     go_ret;exact⟨by rw [b.out];rfl,rfl⟩
    ·have a:Hid (n=1000):=by unfold Hid;omega
     go_wp2_with fail
     go_ret;exact⟨by rw [b.out,<-a.out];rfl,rfl⟩
  ·have b:Hid (iE 0 (byt s)=min n 1000):=by unfold Hid;rw [<-c.out,Au n s k (by omega)]
   have q2:(s.size:Int)<=(k:Int):=by omega
   by_cases o:1000<n
   ·have a:Hid (min n 1000=1000):=by unfold Hid;omega
    go_wp2_with fail
    go_ret;exact⟨by rw [b.out,a.out];rfl,rfl⟩
   ·have a:Hid (min n 1000=n):=by unfold Hid;omega
    go_wp2_with fail
    go_ret;exact⟨by rw [b.out,a.out];rfl,rfl⟩
theorem nF(s:ByteArray)(a b:Nat):byt (s.extract a b)=((byt s).take b).drop a:=by
 unfold byt;rw [ByteArray.data_extract,Array.toList_extract,List.extract_eq_take_drop,List.map_take,List.map_drop];rw [List.drop_take]
theorem ED(l:List Nat)(k:Nat)(b:l[k]?=some 42)(h:∀ x∈l.take k,x≠42):jm l=l.take k/\mW l=l.drop (k+1)/\lB l=true:=by
 have e:l=l.take k++42::l.drop (k+1):=by rw [<-nt b,List.take_append_drop]
 have:=o8 (bb:=l.drop (k+1)) h;rw [<-e]at this;exact this
theorem xF(s:ByteArray)(w:World)(hs:s.size<=9223372036854775806):
  Calls Tryz.prog 104 #[.string s] w fun e w'=>jt w' w/\∃ a b,e= .returned (.tuple #[.string a,.string b,.bool (lB (byt s))])/\byt a=jm (byt s)/\byt b=mW (byt s)/\a.size<=s.size/\b.size<=s.size:=by
 go_enter Tryz.func104,Tryz.ntmps104
 go_wp2
 go_loopw [5] (fun i w'=>∃ k:Nat,k<=s.size/\i= .int .i64 k/\Hid (w'=w)/\Hid (∀ x∈(byt s).take k,x≠42)) (fun i _=>s.size - (intOf i).toNat)
 case atStart=>exact⟨0,Nat.zero_le _,rfl,rfl,by simp [Hid]⟩
 case round=>
  obtain⟨k,hk,rfl,p,h⟩:=hrel;obtain rfl:=p.out;by_cases m:k<s.size
  ·have hk0:(0:Int)<=(k:Int):=by omega
   have hk1:(k:Int)<s.size:=by omega
   have hk2:(k:Int)<=s.size:=by omega
   have hk3:(k:Int)+1<=s.size:=by omega
   have n:=ij (ms s k m);by_cases f:s[k].toNat=42
   ·have j:((s[k].toNat:Nat):Int)=42:=by omega
    have h42'':(((s[k].toNat:Nat):Int)==42)=true:=by simpa using j
    have d:Hid (jm (byt s)=(byt s).take k/\mW (byt s)=(byt s).drop (k+1)/\lB (byt s)=true):=ED _ k (by rw [n.out,f]) h.out;clear f j;go_wp2_with fail
    go_quiet (fail)
    go_wp2_with fail
    refine bodyPost_ret (v:= .tuple #[.string (s.extract 0 k),.string (s.extract (k+1) s.size),.bool true]) (by simp [results,Tryz.results104,go_sem]) rfl ?_;refine⟨jV (jq _) _,_,_,by rw [d.out.2.2],?_,?_,by simp<;>omega,by simp<;>omega⟩
    ·rw [d.out.1,nF,List.drop_zero]
    ·rw [d.out.2.1,nF,List.take_of_length_le (by rw [iS];exact Nat.le_refl _)]
   ·have j:((s[k].toNat:Nat):Int)≠42:=by omega
    have o:Hid (∀ x∈(byt s).take (k+1),x≠42):=by
     intro x c;have l:k<(byt s).length:=by rw [iS];exact m
     rw [List.take_succ_eq_append_getElem l]at c;rcases List.mem_append.1 c with c | c
     ·exact h.out x c
     ·have e:=n.out;rw [List.getElem?_eq_getElem l]at e;rw [Option.some.inj e]at c;simp at c;rw [c];exact f
    clear f;go_wp2_with fail
    go_roundw
    case rel=>exact⟨k+1,by omega,by go_num,ij trivial,o⟩
    case measure=>simp [intOf];omega
  ·have q2:(s.size:Int)<=(k:Int):=by omega
   have d:Hid (jm (byt s)=byt s/\mW (byt s)=[]/\lB (byt s)=false):=by
    have:=h.out;rw [List.take_of_length_le (by rw [iS];omega)]at this;exact pk this
   go_wp2_with fail
   refine bodyPost_ret (v:= .tuple #[.string s,.string ⟨#[]⟩,.bool false]) (by simp [results,Tryz.results104,go_sem]) rfl ?_;exact⟨jq _,s,⟨#[]⟩,by rw [d.out.2.2],d.out.1.symm,d.out.2.1.symm,Nat.le_refl _,Nat.zero_le _⟩
def Fj(o:Option (Int × Int)):Value:=match o with
 | none=> .tuple #[.int .i64 0,.int .i64 0,.bool false]
 | some (t,n)=> .tuple #[.int .i64 t,.int .i64 n,.bool true]
theorem FT(s:ByteArray)(c:Int)(w:World)(p:s.size<=9223372036854775806):
  Calls Tryz.prog 103 #[.string s,.int .i64 c] w fun e w'=>jt w' w/\e= .returned (Fj (kQ (byt s) c)):=by
 go_enter Tryz.func103,Tryz.ntmps103
 go_wp2_with fail
 refine(xF s w p).mono ?_;rintro e w1 ⟨r,a,b,rfl,l,m,t,u⟩;have f:=ij r;have n:kQ (byt s) c=if (!i8 (byt a) || decide (63<iE 0 (byt a)) || (iE 0 (byt a)==c))=true then none
  else if (lB (byt s) && (!i8 (byt b) || decide (iE 0 (byt b)<2)))=true then none
  else if lB (byt s)=true then some (iE 0 (byt a),iE 0 (byt b)) else some (iE 0 (byt a),1):=by rw [l,m];rfl
 have hza:a.size<=9223372036854775806:=by omega
 have hzb:b.size<=9223372036854775806:=by omega
 have i:=ij n;clear r l m t u p n;cases hpa:i8 (byt a)with
 | false=>
  have d:Hid (kQ (byt s) c=none):=by unfold Hid;rw [i.out,hpa];simp
  go_wp2_with (first | (go_at_call 105;refine(ly _ _ (by assumption)).mono ?_;rintro e w' ⟨rfl,rfl⟩;first | rw [hpa]) | (go_at_call 106;refine(lq _ _ (by assumption)).mono ?_;rintro e w' ⟨rfl,rfl⟩))
  refine bodyPost_ret (v:= .tuple #[.int .i64 0,.int .i64 0,.bool false]) (by simp [results,Tryz.results103,go_sem]) rfl ?_;exact⟨f.out,by rw [d.out];rfl⟩
 | true=>
  by_cases o:63<iE 0 (byt a)
  ·have d:Hid (kQ (byt s) c=none):=by unfold Hid;rw [i.out,hpa];simp [o]
   go_wp2_with (first | (go_at_call 105;refine(ly _ _ (by assumption)).mono ?_;rintro e w' ⟨rfl,rfl⟩;first | rw [hpa]) | (go_at_call 106;refine(lq _ _ (by assumption)).mono ?_;rintro e w' ⟨rfl,rfl⟩))
   refine bodyPost_ret (v:= .tuple #[.int .i64 0,.int .i64 0,.bool false]) (by simp [results,Tryz.results103,go_sem]) rfl ?_;exact⟨f.out,by rw [d.out];rfl⟩
  ·by_cases h:iE 0 (byt a)=c
   ·have d:Hid (kQ (byt s) c=none):=by unfold Hid;rw [i.out,hpa];simp [h]
    have q:(iE 0 (byt a)==c)=true:=by simpa using h
    clear h;go_wp2_with (first | (go_at_call 105;refine(ly _ _ (by assumption)).mono ?_;rintro e w' ⟨rfl,rfl⟩;first | rw [hpa]) | (go_at_call 106;refine(lq _ _ (by assumption)).mono ?_;rintro e w' ⟨rfl,rfl⟩))
    refine bodyPost_ret (v:= .tuple #[.int .i64 0,.int .i64 0,.bool false]) (by simp [results,Tryz.results103,go_sem]) rfl ?_;exact⟨f.out,by rw [d.out];rfl⟩
   ·have q:(iE 0 (byt a)==c)=false:=by simpa using h
    have j:Hid (kQ (byt s) c=if (lB (byt s) && (!i8 (byt b) || decide (iE 0 (byt b)<2)))=true then none else if lB (byt s)=true then some (iE 0 (byt a),iE 0 (byt b)) else some (iE 0 (byt a),1)):=by
     unfold Hid;rw [i.out,q,hpa];have:decide (63<iE 0 (byt a))=false:=by simpa using o
     rw [this];simp
    clear h;cases hst:lB (byt s)with
    | false=>
     have d:Hid (kQ (byt s) c=some (iE 0 (byt a),1)):=by unfold Hid;rw [j.out,hst];simp
     cases hpb:i8 (byt b)with
     | true=>
      go_wp2_with (first | (go_at_call 105;refine(ly _ _ (by assumption)).mono ?_;rintro e w' ⟨rfl,rfl⟩;first | rw [hpa] | rw [hpb]) | (go_at_call 106;refine(lq _ _ (by assumption)).mono ?_;rintro e w' ⟨rfl,rfl⟩))
      refine bodyPost_ret (v:= .tuple #[.int .i64 (iE 0 (byt a)),.int .i64 1,.bool true]) (by simp [results,Tryz.results103,go_sem]) rfl ?_;exact⟨f.out,by rw [d.out];rfl⟩
     | false=>
      go_wp2_with (first | (go_at_call 105;refine(ly _ _ (by assumption)).mono ?_;rintro e w' ⟨rfl,rfl⟩;first | rw [hpa] | rw [hpb]) | (go_at_call 106;refine(lq _ _ (by assumption)).mono ?_;rintro e w' ⟨rfl,rfl⟩))
      refine bodyPost_ret (v:= .tuple #[.int .i64 (iE 0 (byt a)),.int .i64 1,.bool true]) (by simp [results,Tryz.results103,go_sem]) rfl ?_;exact⟨f.out,by rw [d.out];rfl⟩
    | true=>
     cases hpb:i8 (byt b)with
     | false=>
      have d:Hid (kQ (byt s) c=none):=by unfold Hid;rw [j.out,hst,hpb];simp
      go_wp2_with (first | (go_at_call 105;refine(ly _ _ (by assumption)).mono ?_;rintro e w' ⟨rfl,rfl⟩;first | rw [hpa] | rw [hpb]) | (go_at_call 106;refine(lq _ _ (by assumption)).mono ?_;rintro e w' ⟨rfl,rfl⟩))
      refine bodyPost_ret (v:= .tuple #[.int .i64 0,.int .i64 0,.bool false]) (by simp [results,Tryz.results103,go_sem]) rfl ?_;exact⟨f.out,by rw [d.out];rfl⟩
     | true=>
      by_cases k:iE 0 (byt b)<2
      ·have d:Hid (kQ (byt s) c=none):=by unfold Hid;rw [j.out,hst,hpb];simp [k]
       go_wp2_with (first | (go_at_call 105;refine(ly _ _ (by assumption)).mono ?_;rintro e w' ⟨rfl,rfl⟩;first | rw [hpa] | rw [hpb]) | (go_at_call 106;refine(lq _ _ (by assumption)).mono ?_;rintro e w' ⟨rfl,rfl⟩))
       refine bodyPost_ret (v:= .tuple #[.int .i64 0,.int .i64 0,.bool false]) (by simp [results,Tryz.results103,go_sem]) rfl ?_;exact⟨f.out,by rw [d.out];rfl⟩
      ·have d:Hid (kQ (byt s) c=some (iE 0 (byt a),iE 0 (byt b))):=by unfold Hid;rw [j.out,hst,hpb];simp [k]
       go_wp2_with (first | (go_at_call 105;refine(ly _ _ (by assumption)).mono ?_;rintro e w' ⟨rfl,rfl⟩;first | rw [hpa] | rw [hpb]) | (go_at_call 106;refine(lq _ _ (by assumption)).mono ?_;rintro e w' ⟨rfl,rfl⟩))
       refine bodyPost_ret (v:= .tuple #[.int .i64 (iE 0 (byt a)),.int .i64 (iE 0 (byt b)),.bool true]) (by simp [results,Tryz.results103,go_sem]) rfl ?_;exact⟨f.out,by rw [d.out];rfl⟩
theorem AI(s:ByteArray)(c:Int)(w:World)(r:s.size<=9223372036854775806):
  Calls Tryz.prog 75 #[.string s,.int .i64 c] w fun e w'=>jt w' w/\e= .returned (.bool (jf (byt s) c)):=by
 go_enter Tryz.func75,Tryz.ntmps75
 go_wp2_with fail
 refine(xF s w r).mono ?_;rintro e w1 ⟨t,a,b,rfl,n,p,v,A⟩;have f:=ij t;by_cases j:s.toList=[]
 ·have i:Hid (jf (byt s) c=true):=by unfold Hid;rw [(nD s).2 j];rfl
  clear t n p v A r;generalize lB (byt s)=st at*;go_wp2_with fail
  go_ret;exact⟨f.out,by rw [i.out];rfl⟩
 ·have u:(byt b=[])↔b.toList=[]:=nD b;have l:(byt b=[48])↔b.toList=[48]:=pG b;have q:jf (byt s) c=if (!i8 (byt a) || decide (63<iE 0 (byt a)))=true then false
   else if lB (byt s)=true then !(iE 0 (byt a)==c) && ((byt b==[]) || (i8 (byt b) && !(byt b==[48])))
   else !(iE 0 (byt a)==c) || (decide (1<=iE 0 (byt a)) && decide (iE 0 (byt a)<=6)):=by
   conv=>lhs;unfold jf
   rw [if_neg (fun e=>j ((nD s).1 e)),n,p]
  have x:(byt b==[])=b.toList.isEmpty:=by
   by_cases h:b.toList=[]
   ·rw [u.2 h,h];rfl
   ·have m:byt b≠[]:=fun e=>h (u.1 e)
    have o:b.toList.isEmpty=false:=by simpa using h
    rw [o];simpa using m
  have y:(byt b==[48])=(b.toList==[48]):=by
   by_cases h:b.toList=[48]
   ·rw [l.2 h,h];rfl
   ·have m:byt b≠[48]:=fun e=>h (l.1 e)
    have o:(b.toList==[48])=false:=by simpa using h
    rw [o];simpa using m
  rw [x,y]at q;have hza:a.size<=9223372036854775806:=by omega
  have hzb:b.size<=9223372036854775806:=by omega
  have k:=ij q;have hie:s.toList.isEmpty=false:=by simpa using j
  clear t n p v A r u l x y q j;cases hpa:i8 (byt a)with
  | false=>
   have i:Hid (jf (byt s) c=false):=by unfold Hid;rw [k.out,hpa];simp
   go_wp2_with (first | (go_at_call 105;refine(ly _ _ (by assumption)).mono ?_;rintro e w' ⟨rfl,rfl⟩;first | rw [hpa]) | (go_at_call 106;refine(lq _ _ (by assumption)).mono ?_;rintro e w' ⟨rfl,rfl⟩))
   go_ret;exact⟨f.out,by rw [i.out];rfl⟩
  | true=>
   by_cases z:63<iE 0 (byt a)
   ·have i:Hid (jf (byt s) c=false):=by unfold Hid;rw [k.out,hpa];simp [z]
    go_wp2_with (first | (go_at_call 105;refine(ly _ _ (by assumption)).mono ?_;rintro e w' ⟨rfl,rfl⟩;first | rw [hpa]) | (go_at_call 106;refine(lq _ _ (by assumption)).mono ?_;rintro e w' ⟨rfl,rfl⟩))
    go_ret;exact⟨f.out,by rw [i.out];rfl⟩
   ·have d:Hid (jf (byt s) c=if lB (byt s)=true then !(iE 0 (byt a)==c) && (b.toList.isEmpty || (i8 (byt b) && !(b.toList==[48]))) else !(iE 0 (byt a)==c) || (decide (1<=iE 0 (byt a)) && decide (iE 0 (byt a)<=6))):=by
     unfold Hid;rw [k.out,hpa];have:decide (63<iE 0 (byt a))=false:=by simpa using z
     rw [this];simp
    clear k;cases hst:lB (byt s)with
    | false=>
     rw [hst]at d;simp only [Bool.false_eq_true,if_false]at d;go_wp2_with (first | (go_at_call 105;refine(ly _ _ (by assumption)).mono ?_;rintro e w' ⟨rfl,rfl⟩;first | rw [hpa]) | (go_at_call 106;refine(lq _ _ (by assumption)).mono ?_;rintro e w' ⟨rfl,rfl⟩))
     all_goals
      go_ret;refine⟨f.out,?_⟩;rw [d.out];simp [*]<;>first | rfl | omega
    | true=>
     rw [hst]at d;simp only [if_true]at d;cases hpb:i8 (byt b)with
     | true=>
      rw [hpb]at d;go_wp2_with (first | (go_at_call 105;refine(ly _ _ (by assumption)).mono ?_;rintro e w' ⟨rfl,rfl⟩;first | rw [hpa] | rw [hpb]) | (go_at_call 106;refine(lq _ _ (by assumption)).mono ?_;rintro e w' ⟨rfl,rfl⟩))
      all_goals
       go_ret;refine⟨f.out,?_⟩;rw [d.out];simp [*]<;>first | rfl | omega
     | false=>
      rw [hpb]at d;go_wp2_with (first | (go_at_call 105;refine(ly _ _ (by assumption)).mono ?_;rintro e w' ⟨rfl,rfl⟩;first | rw [hpa] | rw [hpb]) | (go_at_call 106;refine(lq _ _ (by assumption)).mono ?_;rintro e w' ⟨rfl,rfl⟩))
      all_goals
       go_ret;refine⟨f.out,?_⟩;rw [d.out];simp [*]<;>first | rfl | omega
def vQ(L:List ByteArray):List Value:=L.map fun x=> .string x
theorem qD(s:ByteArray)(f k:Nat)(_hf:f<=k):byt (s.extract f k)=((byt s).drop f).take (k - f):=by
 rw [nF,List.drop_take]
structure PtsIn(s:ByteArray)(D:List ByteArray)(f k:Nat):Prop where
 le:k<=s.size
 fk:f<=k
 no:∀ x∈((byt s).drop f).take (k - f),x≠32
 eq:i7 (byt s)=D.map byt++i7 ((byt s).drop f)
 sz:∀ x∈D,x.size<=s.size
 ln:D.length<=f
theorem PtsIn.cut{s:ByteArray}{D:List ByteArray}{f k:Nat}(h:PtsIn s D f k)(d:(byt s)[k]?=some 32)(hlt:k<s.size):PtsIn s (D++[s.extract f k]) (k+1) (k+1):=by
 have i:=h.fk;refine⟨by omega,Nat.le_refl _,by simp,?_,?_,by have:=h.ln;simp;omega⟩
 ·rw [h.eq,List.map_append,List.append_assoc];congr 1
  have e:(byt s).drop f=((byt s).drop f).take (k - f)++32::(byt s).drop (k+1):=by
   have b:=nt d;have c:((byt s).drop f).drop (k - f)=(byt s).drop k:=by rw [List.drop_drop];congr 1;omega
   conv=>lhs;rw [<-List.take_append_drop (k - f) ((byt s).drop f),c,b]
  rw [e,qR _ _ h.no];simp [qD s f k i]
 ·intro x a;rcases List.mem_append.1 a with a | a
  ·exact h.sz x a
  ·simp at a;rw [a];simp;omega
theorem PtsIn.step{s:ByteArray}{D:List ByteArray}{f k:Nat}(h:PtsIn s D f k)(i:k<s.size)(d:s[k].toNat≠32):PtsIn s D f (k+1):=by
 have hf:=h.fk;refine⟨by omega,by omega,?_,h.eq,h.sz,h.ln⟩;intro x a;have c:k - f<((byt s).drop f).length:=by rw [List.length_drop,iS];omega
 have e:k+1 - f=(k - f)+1:=by omega
 rw [e,List.take_succ_eq_append_getElem c]at a;rcases List.mem_append.1 a with a | a
 ·exact h.no x a
 ·have b:((byt s).drop f)[k - f]?=some s[k].toNat:=by
   rw [List.getElem?_drop,show f+(k - f)=k by omega];exact ms s k i
  rw [List.getElem?_eq_getElem c]at b;rw [Option.some.inj b]at a;simp at a;rw [a];exact d
theorem PtsIn.fin{s:ByteArray}{D:List ByteArray}{f:Nat}(h:PtsIn s D f s.size):i7 (byt s)=(D++[s.extract f s.size]).map byt/\(∀ x∈D++[s.extract f s.size],x.size<=s.size)/\(D++[s.extract f s.size]).length<=s.size+1:=by
 have d:=h.fk;have b:=h.no;have c:((byt s).drop f).take (s.size - f)=(byt s).drop f:=List.take_of_length_le (by rw [List.length_drop,iS];omega);rw [c]at b;refine⟨?_,?_,by have:=h.ln;simp;omega⟩
 ·rw [h.eq,qS _ b,List.map_append];simp [qD s f s.size d,c]
 ·intro x a;rcases List.mem_append.1 a with a | a
  ·exact h.sz x a
  ·simp at a;rw [a];simp
theorem DN(s:ByteArray)(w:World)(hs:s.size<=1048576):
  Calls Tryz.prog 74 #[.string s] w fun e w'=>∃ (L:List ByteArray) (x:Option Addr) (z:Nat),e= .returned (.slice x L.length z)/\L.map byt=i7 (byt s)/\(∀ y∈L,y.size<=s.size)/\w'.ownsRow w.heap.size 9 1 (.slice x L.length z) L.length (vQ L)/\w.grownBy w' none:=by
 obtain⟨C,H,G,A,I⟩:=info_parts wx;have P:Hid (PtsIn s [] 0 0):=⟨by omega,by omega,by simp,by simp,by simp,by simp⟩;go_enter Tryz.func74,Tryz.ntmps74
 go_wp2_with fail
 go_loopw [3,4,5] (fun lv fv i w'=>∃ (D:List ByteArray) (f k:Nat),i= .int .i64 k/\fv= .int .i64 f/\k<=s.size+1/\Hid (PtsIn s D f k\/(k=s.size+1/\D.map byt=i7 (byt s)/\(∀ y∈D,y.size<=s.size)))/\Hid (D.length<=k)/\Hid (w'.ownsRow w.heap.size 9 1 lv D.length (vQ D)/\w.grownBy w' none)) (fun _ _ i _=>s.size+1 - (intOf i).toNat)
 case atStart=>exact⟨[],0,0,rfl,rfl,by omega,ij (Or.inl P.out),ij (by simp),⟨rfl,Or.inl ⟨rfl,rfl⟩⟩,ir _ _⟩
 case round=>
  obtain⟨D,f,k,rfl,rfl,hk,p,O,c⟩:=hrel;obtain⟨a,U⟩:∃ a,a=wr:=⟨_,rfl⟩;subst U;obtain⟨x1,x2,x3,rfl⟩:=iw c.out.1;have V:=iB c.out.1;subst V;have j:=ij c.out.1;have o:=ij c.out.2;have hsz2:=c.out.2.size;have J:=iA j.out;have hDl:=O.out;have E:D.length+1<=maxLen:=by unfold maxLen;omega
  rcases p.out with hp | ⟨hk1,hd1,hd2⟩
  ·have u:=ij hp;have Y:=hp.le;have hfk:=hp.fk;have W:(k:Int)<=s.size:=by omega
   have q1:(0:Int)<=(f:Int):=by omega
   have q2:(f:Int)<=k:=by omega
   have B:Hid (∀ (w6:World) (g6 b:Nat),w6.ownsRow w.heap.size 9 1 (.slice (some ⟨g6,0,none⟩) (D.length+1) b) (D.length+1) (vQ D++[.string (s.extract f k)])->(a.alloc (.cells #[.string (s.extract f k)] 9)).grownBy w6 (Value.slice x1 D.length x3).ownBlock->w6.ownsRow w.heap.size 9 1 (.slice (some ⟨g6,0,none⟩) (D.length+1) b) (D++[s.extract f k]).length (vQ (D++[s.extract f k]))/\w.grownBy w6 none):=by
    intro w6 g6 b S K;refine⟨?_,jG (iq o.out) K (fun q e=>J q e)⟩;simpa [vQ]using S
   clear hp p c;by_cases v:k<s.size
   ·have q3:(k:Int)<s.size:=by omega
    have Q:((k:Int)==(s.size:Int))=false:=by simp;omega
    by_cases m:s[k].toNat=32
    ·have N:(((s[k].toNat:Nat):Int)==32)=true:=by simp;omega
     have d:Hid (PtsIn s (D++[s.extract f k]) (k+1) (k+1)):=u.out.cut (by rw [ms s k v,m]) v;clear m;go_wp2_with (at_builtin;refine wpList_append_lies _ rfl _ _ _ rfl w.heap.size 9 C _ 1 16 Tryz.underlying24 H G A I rfl (by omega) (.slice x1 D.length x3) D.length (vQ D) rfl (iJ j.out) ⟨a.heap.size,0,none⟩ 1 1 [.string (s.extract f k)] rfl rfl (World.news_of_block (cs:= #[.string (s.extract f k)]) (t:=9) (fr:=(0,0)) (heap_alloc_new a _)) (by simp [Value.oneCell']) (by omega) E (by omega) (by simp;omega) (a.heap.size+1) (by simp) ?_;intro g6 b w6 l h r X;have F:=ij (B.out w6 g6 b l h);clear l h r)
     go_roundw
     case rel=>exact⟨D++[s.extract f k],k+1,k+1,by go_num,by go_num,by omega,ij (Or.inl d.out),ij (by simp;omega),F⟩
     case measure=>simp [intOf];omega
    ·have N:(((s[k].toNat:Nat):Int)==32)=false:=by simp;omega
     have d:Hid (PtsIn s D f (k+1)):=u.out.step v m;clear m;go_wp2_with fail
     go_roundw
     case rel=>exact⟨D,f,k+1,by go_num,rfl,by omega,ij (Or.inl d.out),ij (by omega),j.out,o.out⟩
     case measure=>simp [intOf];omega
   ·have n:k=s.size:=by omega
    have Q:((k:Int)==(s.size:Int))=true:=by simp;omega
    have q5:k<=s.size:=Y;have d:Hid (i7 (byt s)=(D++[s.extract f k]).map byt/\(∀ x∈D++[s.extract f k],x.size<=s.size)/\(D++[s.extract f k]).length<=s.size+1):=by
     have:=u.out;rw [n]at this ⊢;exact this.fin
    have T:=ij n;clear n;go_wp2_with (at_builtin;refine wpList_append_lies _ rfl _ _ _ rfl w.heap.size 9 C _ 1 16 Tryz.underlying24 H G A I rfl (by omega) (.slice x1 D.length x3) D.length (vQ D) rfl (iJ j.out) ⟨a.heap.size,0,none⟩ 1 1 [.string (s.extract f k)] rfl rfl (World.news_of_block (cs:= #[.string (s.extract f k)]) (t:=9) (fr:=(0,0)) (heap_alloc_new a _)) (by simp [Value.oneCell']) (by omega) E (by omega) (by simp;omega) (a.heap.size+1) (by simp) ?_;intro g6 b w6 l h r X;have F:=ij (B.out w6 g6 b l h);clear l h r)
    go_roundw
    case rel=>exact⟨D++[s.extract f k],k+1,k+1,by go_num,by go_num,by omega,ij (Or.inr ⟨by rw [T.out],d.out.1.symm,d.out.2.1⟩),ij (by simp;omega),F⟩
    case measure=>simp [intOf];omega
  ·have W:(s.size:Int)<k:=by omega
   have R:=ij hd1;have M:=ij hd2;clear hd1 hd2 hk1 p c;go_wp2_with fail
   go_ret;exact⟨D,x1,x3,rfl,R.out,M.out,j.out,o.out⟩
def StrsAt(w:World)(v:Value)(L:List ByteArray):Prop:=
 ∃ ao cap,v= .slice ao L.length cap/\∀ k (hk:k<L.length),∃ g o,ao=some ⟨g,o,none⟩/\w.cell? ⟨g,o+k,none⟩=some (.string L[k])
theorem StrsAt.pres{w w':World}{v:Value}{L:List ByteArray}(h:StrsAt w v L)(d:Pres w w'):StrsAt w' v L:=by
 obtain⟨b,a,e,hc⟩:=h;exact⟨b,a,e,fun k hk=>by obtain⟨g,o,f,c⟩:=hc k hk;exact⟨g,o,f,d _ _ c⟩⟩
theorem AC{w:World}{base:Nat}{x:Option Addr}{z:Nat}{L:List ByteArray}(h:w.ownsRow base 9 1 (.slice x L.length z) L.length (vQ L)):StrsAt w (.slice x L.length z) L:=by
 rcases h.2 with ⟨e,e0⟩ | ⟨g,cap,cur,hv,hb,hh,hc,_⟩
 ·exact⟨x,z,rfl,fun k hk=>by omega⟩
 ·simp only [Value.slice.injEq,true_and]at hv;obtain⟨rfl,rfl⟩:=hv;refine⟨some ⟨g,0,none⟩,z,rfl,fun k hk=>⟨g,0,rfl,?_⟩⟩;rw [Nat.zero_add,h.cellAt k (by omega)];simp [vQ,hk]
theorem StrsAt.init{w:World}{x:Option Addr}{z:Nat}{L:List ByteArray}(h:StrsAt w (.slice x L.length z) L)(m:Nat)(d:m<=L.length):StrsAt w (.slice x m z) (L.take m):=by
 obtain⟨ao,cap,e,hc⟩:=h;simp only [Value.slice.injEq,true_and]at e;obtain⟨rfl,rfl⟩:=e;refine⟨x,z,by simp [Nat.min_eq_left d],fun k hk=>?_⟩;have a:k<L.length:=by simp at hk;omega
 obtain⟨g,o,b,c⟩:=hc k a;exact⟨g,o,b,by simpa using c⟩
theorem AT(out:List Int)(t n:Int)(hn:0<n)(ho:out.length<=500):lI (out++[t]) t (n - 1)=lI out t n:=by
 unfold lI;have e:min n.toNat (501 - out.length)=min (n - 1).toNat (501 - (out++[t]).length)+1:=by simp;omega
 rw [e,List.replicate_succ,List.append_assoc];rfl
theorem wJ(out:List Int)(t n:Int)(h:¬(0<n/\out.length<=500)):lI out t n=out:=by
 unfold lI;have e:min n.toNat (501 - out.length)=0:=by omega
 rw [e];simp
theorem B2(l:List Nat):∀ n,iE n l<=1000:=by
 induction l with
 | nil=>intro n;unfold iE;omega
 | cons b r ih=>intro n;unfold iE;split
          ·exact ih _
          ·omega
theorem Fo{l:List Nat}{a t n:Int}(h:kQ l a=some (t,n)):n<=1000:=by
 unfold kQ at h;split at h
 ·cases h
 ·split at h
  ·cases h
  ·split at h
   ·simp only [Option.some.injEq,Prod.mk.injEq]at h;rw [<-h.2];exact B2 _ _
   ·simp only [Option.some.injEq,Prod.mk.injEq]at h;omega
def sF(o:Option (List Int × Int))(v:Value):Value:=match o with
 | none=> .tuple #[.slice none 0 0,.int .i64 0,.bool false]
 | some (_,a)=> .tuple #[v,.int .i64 a,.bool true]
def rx(o:Option (List Int × Int)):List Int:=match o with
 | none=>[]
 | some (l,_)=>l
def EA(L:List (List Nat))(w:World)(e:Ending)(w':World):Prop:=
 ∃ x y z,e= .returned (sF (jj L (-1) []) (.slice x y z))/\w'.ownsRow w.heap.size 3 1 (.slice x y z) (rx (jj L (-1) [])).length (iL (rx (jj L (-1) [])))/\w.grownBy w' none/\(rx (jj L (-1) [])).length<=501
theorem zf(L:List ByteArray)(v:Value)(w:World)(S:StrsAt w v L)(D:∀ x∈L,x.size<=9223372036854775806)(hln:L.length<=9223372036854775806):
  Calls Tryz.prog 73 #[v] w (EA (L.map byt) w):=by
 obtain⟨U,Z,Y,ae,ap⟩:=info_parts ko;obtain⟨ao,cap,rfl,hc⟩:=S;have HC:=ij hc;have HZ:=ij D;clear hc D;go_enter Tryz.func73,Tryz.ntmps73
 go_wp2_with fail
 go_loopw [5,6,7] (fun ov av i w'=>∃ (out:List Int) (c:Int) (k:Nat),k<=L.length/\i= .int .i64 k/\av= .int .i64 c/\Hid (jj ((L.map byt).drop k) c out=jj (L.map byt) (-1) [])/\Hid (out.length<=501)/\Hid (w'.ownsRow w.heap.size 3 1 ov out.length (iL out)/\w.grownBy w' none)) (fun _ _ i _=>L.length - (intOf i).toNat)
 case atStart=>exact⟨[], -1,0,Nat.zero_le _,rfl,rfl,by simp [Hid],ij (by simp),⟨rfl,Or.inl ⟨rfl,rfl⟩⟩,ir _ _⟩
 case round=>
  obtain⟨out,c,k,hk,rfl,rfl,j,O,b⟩:=hrel;obtain⟨m,ai⟩:∃ m,m=wr:=⟨_,rfl⟩;subst ai;obtain⟨x1,x2,x3,rfl⟩:=iw b.out.1;have W:=iB b.out.1;subst W;have J:=ij b.out.1;have l:=ij b.out.2;have E:=O.out;by_cases A:k<L.length
  ·obtain⟨g,o,rfl,c0⟩:=HC.out k A;have d0:=ip l.out _ _ c0;have hk0:(0:Int)<=(k:Int):=by omega
   have hk1:(k:Int)<L.length:=by omega
   have V:k<(L.map byt).length:=by simpa using A
   have s:Hid (jj ((L.map byt).drop k) c out=match kQ (byt L[k]) c with | none=>none | some (t,n)=>jj ((L.map byt).drop (k+1)) t (lI out t n)):=by
    unfold Hid;rw [List.drop_eq_getElem_cons V,jj];simp only [List.getElem_map];cases kQ (byt L[k]) c<;>rfl
   have K:=ij (FT L[k] c m (HZ.out _ (List.getElem_mem A)));clear c0 b O;generalize B:kQ (byt L[k]) c=R at*;generalize L[k]=sk at*;go_wp2_with fail
   refine K.out.mono ?_;clear K;rintro e w6 ⟨u,rfl⟩;have X:Hid (w6.ownsRow w.heap.size 3 1 (.slice x1 out.length x3) out.length (iL out)):=iD J.out (iK (r:=none) u) (fun _ e=>by cases e);have F:Hid (w.grownBy w6 none):=jg l.out u;clear u;cases R with
   | none=>
    simp only [Fj];have d:Hid (jj (L.map byt) (-1) []=none):=by unfold Hid;rw [<-j.out,s.out]
    go_wp2_with fail
    refine bodyPost_ret (v:= .tuple #[.slice none 0 0,.int .i64 0,.bool false]) (by simp [results,Tryz.results73,go_sem]) rfl ?_;refine⟨none,0,0,by rw [d.out];rfl,?_,F.out,?_⟩
    ·rw [d.out];exact⟨rfl,Or.inl ⟨rfl,rfl⟩⟩
    ·rw [d.out];simp [rx]
   | some tn=>
    obtain⟨t,n⟩:=tn;simp only [Fj];have G:Hid (jj ((L.map byt).drop (k+1)) t (lI out t n)=jj (L.map byt) (-1) []):=by unfold Hid;rw [<-j.out,s.out]
    have hn1000:=Fo B;clear s j B;go_wp2_with fail
    go_loopw [5,9] (fun ov nv w'=>∃ (a:List Int) (n':Int),nv= .int .i64 n'/\Hid (n'<=n/\lI a t n'=lI out t n/\a.length<=501)/\Hid (w'.ownsRow w.heap.size 3 1 ov a.length (iL a)/\w.grownBy w' none)) (fun _ nv _=>(intOf nv).toNat)
    case atStart=>exact⟨out,n,rfl,ij ⟨by omega,rfl,E⟩,X.out,F.out⟩
    case round=>
     obtain⟨a,n',rfl,P,b⟩:=hrel;obtain⟨f,al⟩:∃ f,f=wr:=⟨_,rfl⟩;subst al;obtain⟨y1,y2,y3,rfl⟩:=iw b.out.1;have ad:=iB b.out.1;subst ad;obtain⟨f1,C,H⟩:=P.out;have h:=ij b.out.1;have z:=ij b.out.2;have hsz7:=b.out.2.size;have ac:=iA h.out;have p:=ij C;clear P b C;have am:a.length+1<=maxLen:=by unfold maxLen;omega
     by_cases ar:0<n'
     ·by_cases aa:a.length<=500
      ·have Q:(a.length:Int)<=500:=by omega
       have ak:Hid (lI (a++[t]) t (n' - 1)=lI out t n):=by unfold Hid;rw [AT a t n' ar aa];exact p.out
       go_wp2_with (at_builtin;refine wpList_append_lies _ rfl _ _ _ rfl w.heap.size 3 U _ 1 8 Tryz.underlying39 Z Y ae ap rfl (by omega) (.slice y1 a.length y3) a.length (iL a) rfl (iJ h.out) ⟨f.heap.size,0,none⟩ 1 1 [.int .i64 t] rfl rfl (World.news_of_block (cs:= #[.int .i64 t]) (t:=3) (fr:=(0,0)) (heap_alloc_new f _)) (by simp [Value.oneCell']) (by omega) am (by omega) (by simp;omega) (f.heap.size+1) (by simp) ?_;intro T an N M I aj hlt8)
       have af:Hid (N.ownsRow w.heap.size 3 1 (.slice (some ⟨T,0,none⟩) (a.length+1) an) (a++[t]).length (iL (a++[t]))/\w.grownBy N none):=by
        refine⟨?_,jG (iq z.out) I (fun q e=>ac q e)⟩;simpa [iL]using M
       clear M I aj;go_wp2
       go_roundw
       case rel=>exact⟨a++[t],n' - 1,rfl,ij ⟨by omega,ak.out,by simp;omega⟩,af⟩
       case measure=>simp [intOf];omega
      ·have Q:¬(a.length:Int)<=500:=by omega
       have y:Hid (a=lI out t n):=by unfold Hid;rw [<-p.out,wJ a t n' (by omega)]
       go_wp2_with fail
       go_roundw
       case rel=>exact⟨a,t,k+1,by omega,by go_num,rfl,ij (by rw [y.out];exact G.out),ij H,h.out,z.out⟩
       case measure=>simp [intOf];omega
     ·have y:Hid (a=lI out t n):=by unfold Hid;rw [<-p.out,wJ a t n' (by omega)]
      go_wp2_with fail
      go_roundw
      case rel=>exact⟨a,t,k+1,by omega,by go_num,rfl,ij (by rw [y.out];exact G.out),ij H,h.out,z.out⟩
      case measure=>simp [intOf];omega
  ·have q2:(L.length:Int)<=(k:Int):=by omega
   have d:Hid (jj (L.map byt) (-1) []=some (out,c)):=by
    unfold Hid;rw [<-j.out,List.drop_eq_nil_of_le (by simp;omega)];rfl
   go_wp2_with fail
   refine bodyPost_ret (v:= .tuple #[.slice x1 out.length x3,.int .i64 c,.bool true]) (by simp [results,Tryz.results73,go_sem]) rfl ?_;refine⟨x1,out.length,x3,by rw [d.out];rfl,?_,l.out,?_⟩
   ·rw [d.out];exact J.out
   ·rw [d.out];exact E
def F6(p:AJ)(v:Value):Value:= .tuple #[v,.int .i64 p.at_,.int .i64 (FR p.ok)]
theorem vW(l:List Nat)(k:Nat):kO l (k+1)=if mU (-1) (l.take (k+1))=true then k+1 else kO l k:=rfl
theorem yS(s:ByteArray)(w:World)(hs:s.size<=1048576):
  Calls Tryz.prog 46 #[.string s] w fun e w'=>∃ x y z,e= .returned (F6 (lF (byt s)) (.slice x y z))/\w'.ownsRow w.heap.size 3 1 (.slice x y z) (lF (byt s)).out.length (iL (lF (byt s)).out)/\w.grownBy w' none:=by
 have ai:∀ w4:World,w4.ownsRow w.heap.size 3 1 (.slice none 0 0) ([]:List Int).length (iL []):=fun w4=>⟨rfl,Or.inl ⟨rfl,rfl⟩⟩
 have G:=ij ai;clear ai;by_cases E:s.toList=[]
 ·have c:Hid (lF (byt s)=⟨[],0,true⟩):=by unfold Hid;rw [(nD s).2 E];rfl
  go_enter Tryz.func46,Tryz.ntmps46
  go_wp2_with fail
  refine bodyPost_ret (v:= .tuple #[.slice none 0 0,.int .i64 0,.int .i64 0]) (by simp [results,Tryz.results46,go_sem]) rfl ?_;exact⟨none,0,0,by rw [c.out];rfl,by rw [c.out];exact G.out _,ir _ _⟩
 ·have hie:s.toList.isEmpty=false:=by simpa using E
  have B:Hid (lF (byt s)=match jj (i7 (byt s)) (-1) []with
    | some (o,_)=>if 500<o.length then ⟨[],0,false⟩ else ⟨o,0,true⟩
    | none=>⟨[],kO (byt s) (byt s).length,false⟩):=by
   unfold Hid;conv=>lhs;unfold lF
   rw [if_neg (fun e=>E ((nD s).1 e))];cases jj (i7 (byt s)) (-1) []<;>rfl
  clear E;have al:Hid (∀ (u:ByteArray),u.size<=1048576->∀ f:World,w.grownBy f none->Calls Tryz.prog 74 #[.string u] f fun e w'=>∃ (L:List ByteArray) (x:Option Addr) (z:Nat),e= .returned (.slice x L.length z)/\L.map byt=i7 (byt u)/\(∀ y∈L,y.size<=1048576)/\StrsAt w' (.slice x L.length z) L/\w.grownBy w' none/\L.length<=z/\L.length<=9223372036854775806):=by
   intro u hu f D;refine(DN u f hu).mono ?_;rintro e w3 ⟨L,x,z,rfl,A,n,p,F⟩;have hz:L.length<=z/\z<=maxLen:=by
    rcases p.2 with ⟨q,e2⟩ | ⟨_,_,_,q,_,_,e2,e3,_⟩
    ·simp only [Value.slice.injEq]at q;exact⟨by omega,by unfold maxLen;omega⟩
    ·simp only [Value.slice.injEq,true_and]at q;exact⟨by omega,by omega⟩
   have hL:L.length<=u.size+1:=by
    have q:=congrArg List.length A;rw [List.length_map]at q;have:∀ l:List Nat,(i7 l).length<=l.length+1:=by
     intro l;induction l with
     | nil=>simp [i7]
     | cons b r ih=>
      unfold i7;split
      ·simp;omega
      ·simp;omega
    have:=this (byt u);rw [iS]at this;omega
   exact⟨L,x,z,rfl,A,fun y hy=>by have:=n y hy;omega,AC p,il D F,hz.1,by omega⟩
  go_enter Tryz.func46,Tryz.ntmps46
  go_wp2_with fail
  refine(al.out s hs w (ir _ _)).mono ?_;rintro e w1 ⟨L,x,z,rfl,A,n,p,F,J,h6⟩;have ar:=ij F;have d:=ij (zf L (.slice x L.length z) w1 p (fun y hy=>by have:=n y hy;omega) h6);rw [A]at d;clear A n p F J h6;go_wp2_with fail
  refine d.out.mono ?_;clear d;rintro e f ⟨y1,y2,y3,rfl,U,D,hl2⟩;have Z:Hid (w.grownBy f none):=il ar.out D;have ah:Hid (f.ownsRow w.heap.size 3 1 (.slice y1 y2 y3) (rx (jj (i7 (byt s)) (-1) [])).length (iL (rx (jj (i7 (byt s)) (-1) [])))):=iQ U ar.out.size;have aP:=iB U;clear U D;generalize jj (i7 (byt s)) (-1) []=W at*;cases W with
  | some oa=>
   obtain⟨o,a⟩:=oa;simp only [sF,rx]at*;subst aP;by_cases J:500<o.length
   ·have c:Hid (lF (byt s)=⟨[],0,false⟩):=by unfold Hid;rw [B.out,if_pos J]
    have aG:500<(o.length:Int):=by omega
    go_wp2_with fail
    refine bodyPost_ret (v:= .tuple #[.slice none 0 0,.int .i64 0,.int .i64 4]) (by simp [results,Tryz.results46,go_sem]) rfl ?_;exact⟨none,0,0,by rw [c.out];rfl,by rw [c.out];exact G.out _,Z.out⟩
   ·have c:Hid (lF (byt s)=⟨o,0,true⟩):=by unfold Hid;rw [B.out,if_neg J]
    have aG:¬500<(o.length:Int):=by omega
    go_wp2_with fail
    refine bodyPost_ret (v:= .tuple #[.slice y1 o.length y3,.int .i64 0,.int .i64 0]) (by simp [results,Tryz.results46,go_sem]) rfl ?_;exact⟨y1,o.length,y3,by rw [c.out];rfl,by rw [c.out];exact ah.out,Z.out⟩
  | none=>
   simp only [sF,rx]at*;have c:Hid (lF (byt s)=⟨[],kO (byt s) s.size,false⟩):=by unfold Hid;rw [B.out,iS]
   clear B ah;go_wp2_with fail
   go_loopw [8] (fun kv w'=>∃ k:Nat,k<=s.size/\kv= .int .i64 k/\Hid (kO (byt s) k=kO (byt s) s.size)/\Hid (w.grownBy w' none)) (fun kv _=>(intOf kv).toNat)
   case atStart=>exact⟨s.size,Nat.le_refl _,rfl,ij rfl,Z⟩
   case round=>
    obtain⟨k,hk,rfl,HS,HG⟩:=hrel;obtain⟨P,aJ⟩:∃ P,P=wr:=⟨_,rfl⟩;subst aJ;cases k with
    | zero=>
     have t:Hid (lF (byt s)=⟨[],0,false⟩):=by unfold Hid;rw [c.out,<-HS.out];rfl
     go_wp2_with fail
     refine bodyPost_ret (v:= .tuple #[.slice none 0 0,.int .i64 0,.int .i64 4]) (by simp [results,Tryz.results46,go_sem]) rfl ?_;exact⟨none,0,0,by rw [t.out];rfl,by rw [t.out];exact G.out _,HG.out⟩
    | succ k=>
     have I:=vW (byt s) k;rw [HS.out]at I;have ay:((k+1:Nat):Int)=(k:Int)+1:=by omega
     obtain⟨m,hm⟩:∃ m,m=k+1:=⟨_,rfl⟩;rw [<-hm]at I hk ⊢;have q0:(0:Int)<(m:Int):=by omega
     have q1:(m:Int)<=s.size:=by omega
     have ak:(s.extract 0 m).size<=1048576:=by simp;omega
     have ag:byt (s.extract 0 m)=(byt s).take m:=by rw [nF,List.drop_zero]
     have S:=ij (al.out (s.extract 0 m) ak P HG.out);rw [ag]at S;have Q:=ij I;have i:=ij hm;clear I ak ag HS ay hm;go_wp2_with fail
     refine S.out.mono ?_;clear S;rintro e w6 ⟨M,x',V,rfl,K,T,X,m4,m5,m6⟩;have aI:0<M.length:=by
      have:=congrArg List.length K;rw [List.length_map]at this;have n:=List.length_pos_iff.2 (sP ((byt s).take m));omega
     obtain⟨j,N⟩:∃ j,M.length=j+1:=⟨M.length - 1,by omega⟩;have C:j<M.length:=by omega
     have az:=X;obtain⟨ao,cp,e3,af⟩:=az;simp only [Value.slice.injEq,true_and]at e3;obtain⟨rfl,rfl⟩:=e3;obtain⟨g,o,rfl,c0⟩:=af j C;have aw:=ij (X.init j (by omega));have ap:(M.take j).map byt=(i7 ((byt s).take m)).dropLast:=by
      rw [<-K,List.dropLast_eq_take,List.length_map,N,Nat.add_sub_cancel,List.map_take]
     have an:(i7 ((byt s).take m)).getLastD []=byt M[j]:=by
      rw [<-K];rw [List.getLastD_eq_getLast?,List.getLast?_eq_getElem?,List.length_map,N,Nat.add_sub_cancel,List.getElem?_map,List.getElem?_eq_getElem C];rfl
     have d:=ij (zf (M.take j) (.slice (some ⟨g,o,none⟩) j V) w6 aw.out (fun y hy=>by have:=T y (List.mem_of_mem_take hy);omega) (by simp;omega));rw [ap]at d;have h:Hid (mU (-1) ((byt s).take m)=match jj (i7 ((byt s).take m)).dropLast (-1) []with
       | none=>false
       | some (_,a)=>jf (byt M[j]) a):=by
      unfold Hid mU;rw [an];cases jj (i7 ((byt s).take m)).dropLast (-1) []<;>rfl
     have aL:=ij (T M[j] (List.getElem_mem C));have aE:=ij m4;have hjz:(j:Int)<=(V:Int):=by omega
     have hjz2:(j:Int)+1<=(V:Int):=by omega
     generalize M[j]=mj at*;rw [N];have hj0:(0:Int)<=(j:Int):=by omega
     have hj1:(j:Int)<(j:Int)+1:=by omega
     have hj9:(j:Int)<=9223372036854775805:=by omega
     clear K T X m4 m5 af ap an aw aI C m6 N;go_wp2_with (go_at_call 73;refine d.out.mono ?_)
     clear d;rintro e w7 ⟨a1,a2,a3,rfl,ax,Y,aB⟩;have O:Hid (w.grownBy w7 none):=il aE.out Y;have d0:=ip Y _ _ c0;clear ax Y aB c0;cases hW:jj (i7 ((byt s).take m)).dropLast (-1) []with
     | none=>
      rw [hW]at h;simp only [sF];have R:Hid (kO (byt s) k=kO (byt s) s.size):=by
       unfold Hid;rw [Q.out,h.out,if_neg (by simp)]
      go_wp2_with fail
      go_roundw
      case rel=>exact⟨k,by have:=i.out;omega,by rw [i.out];go_num,R,O⟩
      case measure=>have:=i.out;simp [intOf];omega
     | some oa=>
      obtain⟨o',a⟩:=oa;rw [hW]at h;simp only [sF];simp only at h;have HB:=ij (AI mj a w7 (by have:=aL.out;omega));cases hbg:jf (byt mj) a with
      | true=>
       have t:Hid (lF (byt s)=⟨[],m,false⟩):=by unfold Hid;rw [c.out,Q.out,h.out,hbg,if_pos rfl]
       rw [hbg]at HB;go_wp2_with (go_at_call 75;refine HB.out.mono ?_;rintro e w8 ⟨H,rfl⟩)
       refine bodyPost_ret (v:= .tuple #[.slice none 0 0,.int .i64 m,.int .i64 4]) (by simp [results,Tryz.results46,go_sem]) rfl ?_;exact⟨none,0,0,by rw [t.out];rfl,by rw [t.out];exact G.out _,jg O.out H⟩
      | false=>
       have R:Hid (kO (byt s) k=kO (byt s) s.size):=by
        unfold Hid;rw [Q.out,h.out,hbg,if_neg (by simp)]
       rw [hbg]at HB;go_wp2_with (go_at_call 75;refine HB.out.mono ?_;rintro e w8 ⟨H,rfl⟩;have aD:Hid (w.grownBy w8 none):=jg O.out H;clear H)
       go_roundw
       case rel=>exact⟨k,by have:=i.out;omega,by rw [i.out];go_num,R,aD⟩
       case measure=>have:=i.out;simp [intOf];omega
end
end Go.Proofs.YtklenjmfalljgabGreatDoor
