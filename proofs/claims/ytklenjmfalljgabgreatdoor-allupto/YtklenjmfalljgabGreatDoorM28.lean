/- The texts Rge. -/
import Derived.Test.YtklenjmfalljgabGreatDoorM07
import Derived.Test.YtklenjmfalljgabGreatDoorM27
namespace Go.Proofs.YtklenjmfalljgabGreatDoor
set_option maxRecDepth 100000
set_option maxHeartbeats 8000000
section
open Go.RowKit
attribute [local go_sem] Go.World.cell?_alloc_some
theorem Ap(i:Ins):∀ x∈insB i,x<256:=by
 intro x a;unfold insB wInt at a;simp only [List.mem_append]at a;rcases a with a | a | a | a<;>exact jz _ x a
theorem rW(c:List Ins):∀ x∈codeB c,x<256:=by
 intro x a;unfold codeB wInt at a;rcases List.mem_append.1 a with a | a
 ·exact jz _ x a
 ·obtain⟨i,_,b⟩:=List.mem_flatMap.1 a;exact Ap i x b
theorem zY{w:World}{n1 U:Nat}{X:List Nat}{p:List (List Ins)}{s:List Int}{v:Int × Int × Int}{tv sv:Value}(HX:Hid ([82,82,1]++numB p.length=X))(HP:Hid (ProgAt w (.agg #[tv]) p))(hpl:p.length<=4)(eC:Hid (∀ c∈p,c.length<=16/\∀ i∈c,smallIns i))
  (HI:Hid (IntsAt w.heap.size w sv s)) (HV:Hid (validS s=true)) (eI:Hid (verOk v=true)) (H0:Hid (w.cell? ⟨n1,0,none⟩=some tv)) (H1:Hid (w.cell? ⟨n1,1,none⟩=some sv)) (W:Hid (w.cell? ⟨U,0,none⟩=some (.int .i64 v.1)/\w.cell? ⟨U,1,none⟩=some (.int .i64 v.2.1)/\w.cell? ⟨U,2,none⟩=some (.int .i64 v.2.2)))
  {Q:Exit->Act->World->Prop} {c0 c2 c3 c4 c5 c7 c8 c9 eM eY fd fo fz fK fV f7 gi gq gs gt gu gv gw gx gy gz gA gB gD gE gF gG gH gI gJ gK gL gM gO gP gQ gR gS gT gU gV gW gX gZ g0 g1 g2 g3 g4 g5 g6 g7 g8 g9 ha hb hd he hf hg hi hj hl hn ho hp hq hr hs hv hw hy hA hC hD hE hF hG hH hI hJ hK hL hN hO hP hQ hR hS hT hU hV hW eN eO eQ eR eS eT eU eV eW eX eZ e4 e5 e6 e7 e8 e9 fa fb fc fe ff fg fh fi fj fk fl fm fn fp fq fr fs ft fu fv fw fx fy fA fB fC fD fE fF fG fH fI fJ fL fM fN fO fP fQ fR fS fT fU fW fX fY fZ f0 f2 f3 f4 f5 f6 f8 f9 ga gb gc gd ge gf gg gh gj gk gl gm gn go gp:Value} (b:Hid (∀ c a d v w,Q (.panic c) (Act.put a (some d) v) w->Q (.panic c) a w))
  (HQ:Hid (∀ {z0 z1 z4 z5 z6 z7 z8 z9 a7 bj bx bJ bU cb cp cA cL cT cU cV cW cX cY cZ c6 da db dc dd de df dg dh di dj dk dl dm dp dq dr ds dt du dv dw dx dy dA dB dC dD dE dF dG dH dI dJ dL dM dN dO dP dQ dR dS dT dU dW dX dY dZ d0 d1 d2 d3 d4 d5 d7 d8 d9 ea eb ec ed ee ef eg ei ej ek el em en eo ep eq er a8 a9 ba bc bd be bf bg bh bi bk bm bn bo bq br bt bu bv bw bz bA bB bC bD bE bF bG bH bI bK bL bM bN bO bP bQ bR bS bT bV bW bX bY bZ b5 b6 b7 b8 b9 cd ce cf ch ci cj ck cl cm cn cq cr cs ct cu cv cw cx cy cz cB cC cD cE cF cG cH cI cJ cK cM cN cO cP cQ cR cS:Value} (w':World),w.grownBy w' none->Q .ret ⟨#[z0,z1,.string (bs ((X++p.flatMap codeB)++(schB s++verB v)++leB 4 (crcN ((X++p.flatMap codeB)++(schB s++verB v))))),.int .i64 0,z4,z5,z6,z7,z8,z9,a7,bj,bx,bJ,bU,cb,cp,cA,cL,cT,cU,cV,cW,cX,cY,cZ,c6,da,db,dc,dd,de,df,dg,dh,di,dj,dk,dl,dm,dp,dq,dr,ds,dt,du,dv,dw,dx,dy,dA,dB,dC,dD,dE,dF,dG,dH,dI,dJ,dL,dM,dN,dO,dP,dQ,dR,dS,dT,dU,dW,dX,dY,dZ,d0,d1,d2,d3,d4,d5,d7,d8,d9,ea,eb,ec,ed,ee,ef,eg,ei,ej,ek,el,em,en,eo,ep,eq,er,a8,a9,ba,bc,bd,be,bf,bg,bh,bi,bk,bm,bn,bo,bq,br,bt,bu,bv,bw,bz,bA,bB,bC,bD,bE,bF,bG,bH,bI,bK,bL,bM,bN,bO,bP,bQ,bR,bS,bT,bV,bW,bX,bY,bZ,b5,b6,b7,b8,b9,cd,ce,cf,ch,ci,cj,ck,cl,cm,cn,cq,cr,cs,ct,cu,cv,cw,cx,cy,cz,cB,cC,cD,cE,cF,cG,cH,cI,cJ,cK,cM,cN,cO,cP,cQ,cR,cS],[]⟩ w')):
  Code.wp Tryz.prog (tailOf Tryz.f40 8) Q ⟨#[c0,.pointer (some ⟨n1,0,none⟩),c2,c3,c4,c5,.pointer (some ⟨U,0,none⟩),c7,c8,c9,eM,eY,fd,fo,fz,fK,fV,f7,gi,gq,gs,gt,gu,gv,gw,gx,gy,gz,gA,gB,gD,gE,gF,gG,gH,gI,gJ,gK,gL,gM,gO,gP,gQ,gR,gS,gT,gU,gV,gW,gX,gZ,g0,g1,g2,g3,g4,g5,g6,g7,g8,g9,ha,hb,hd,he,hf,hg,hi,hj,hl,hn,ho,hp,hq,hr,hs,hv,hw,hy,hA,hC,hD,hE,hF,hG,hH,hI,hJ,hK,hL,hN,hO,hP,hQ,hR,hS,hT,hU,hV,hW,eN,eO,eQ,eR,eS,eT,eU,eV,eW,eX,eZ,e4,e5,e6,e7,e8,e9,fa,fb,fc,fe,ff,fg,fh,fi,fj,fk,fl,fm,fn,fp,fq,fr,fs,ft,fu,fv,fw,fx,fy,fA,fB,fC,fD,fE,fF,fG,fH,fI,fJ,fL,fM,fN,fO,fP,fQ,fR,fS,fT,fU,fW,fX,fY,fZ,f0,f2,f3,f4,f5,f6,f8,f9,ga,gb,gc,gd,ge,gf,gg,gh,gj,gk,gl,gm,gn,go,gp],[]⟩ w:=by
 conv=>arg 2;whnf
 obtain⟨ta,tc,aX⟩:=HP.out.form;simp only [Value.agg.injEq,Array.mk.injEq,List.cons.injEq,and_true]at aX;subst aX;have qp:(p.length:Int)<=4:=by omega
 have bp:=jL (n:=p.length) (by omega);have hX:X.length<=20:=by rw [<-HX.out,List.length_append];simp;omega
 have h2:∀ x∈X,x<256:=by
  rw [<-HX.out];intro x z;rcases List.mem_append.1 z with z | z
  ·simp only [List.mem_cons,List.not_mem_nil,or_false]at z;omega
  ·exact jz _ x z
 have ar:=ij (fun u=>i6 p.length u (by omega));have eP:=jZ p.length (by omega);have h5:Op.stringOp .add (⟨#[82,82,1]⟩:ByteArray) (bs (numB p.length))=pure (.string (bs X)):=by
  have h3:(⟨#[82,82,1]⟩:ByteArray)=bs [82,82,1]:=by decide+kernel
  rw [h3];exact jV HX.out (by simp;omega)
 have ic:=H0.out;go_wp2_with (go_at_call 66;refine(ar.out _).mono ?_;clear ar;rintro e w4 ⟨rfl,I⟩;have ak:=ij I;clear I)
 clear h5 eP ic;go_loopw [7,8] (fun xv iv w'=>∃ (t:Nat) (Z:List Nat),t<=p.length/\iv= .int .i64 t/\xv= .string (bs Z)/\Hid (Z=X++(p.take t).flatMap codeB)/\Z.length<=20+650*t/\Hid (w.grownBy w' none)) (fun _ iv _=>p.length - (intOf iv).toNat)
 case atStart=>exact⟨0,X,Nat.zero_le _,rfl,rfl,ij (by simp),by omega,ak⟩
 case round=>
  clear ak;obtain⟨t,Z,ht,rfl,rfl,HZ,hzl,r⟩:=hrel;obtain⟨w5,aY⟩:∃ w5,w5=wr:=⟨_,rfl⟩;rw [<-aY]at r ⊢;clear aY;have k0:=ip r.out _ _ H0.out;by_cases ag:t<p.length
  ·have t0:(0:Int)<=(t:Int):=by omega
   have t1:(t:Int)<p.length:=by omega
   obtain⟨pg,po,h4,rv,aW,aR⟩:=(show ∃ g o,ta=some ⟨g,o,none⟩/\∃ rv,w.cell? ⟨g,o+t,none⟩=some rv/\CodeAt w rv p[t] from by
    obtain⟨ao',cap',e,hh⟩:=HP.out;simp only [Value.agg.injEq,Array.mk.injEq,List.cons.injEq,Value.slice.injEq,and_true,true_and]at e;obtain⟨g,o,e1,rv,e2,e3⟩:=hh t ag;exact⟨g,o,by rw [e.1];exact e1,rv,e2,e3⟩)
   subst h4;obtain⟨hcl,aQ⟩:=eC.out p[t] (List.getElem_mem ag);have eE:Hid ((p.take (t+1)).flatMap codeB=(p.take t).flatMap codeB++codeB p[t]):=by
    unfold Hid;rw [List.take_succ_eq_append_getElem ag,List.flatMap_append,List.flatMap_cons,List.flatMap_nil,List.append_nil]
   generalize p[t]=c at*;have eu:=ij aQ;have h6:=aR;obtain⟨ca,cc,rfl,aP⟩:=aR;have et:=ij aP;have r5:=ip r.out _ _ aW;have qc:(c.length:Int)<=16:=by omega
   have aq:=ij (fun u=>i6 c.length u (by omega));have eL:=jZ c.length (by omega);have bl:=jL (n:=c.length) (by omega);obtain⟨G,T⟩:∃ Y,Z++numB c.length=Y:=⟨_,rfl⟩;have l1:G.length<=Z.length+10:=by rw [<-T,List.length_append];omega
   have z1:=jV T (by omega);have eJ:=ij T;have ew:Hid (G.length<=30+650*t):=by unfold Hid;omega
   clear aP h6 aW aQ T;go_upto_region 14 with (go_at_call 66;refine(aq.out _).mono ?_;clear aq;rintro e w6 ⟨rfl,aV⟩;have y:=ij (il r.out aV);clear aV)
   clear k0 r5 z1 eL;go_wp2_with fail
   go_loopw [7,10] (fun xv kv w'=>∃ (k:Nat) (V:List Nat),k<=c.length/\kv= .int .i64 k/\xv= .string (bs V)/\Hid (V=G++(c.take k).flatMap insB)/\V.length<=G.length+40*k/\Hid (w.grownBy w' none)) (fun _ kv _=>c.length - (intOf kv).toNat)
   case atStart=>exact⟨0,G,Nat.zero_le _,rfl,rfl,ij (by simp),by omega,y⟩
   case round=>
    clear y;obtain⟨k,V,hk,rfl,rfl,aB,hvl,y⟩:=hrel;obtain⟨w6,aZ⟩:∃ w6,w6=wr:=⟨_,rfl⟩;rw [<-aZ]at y ⊢;clear aZ;by_cases af:k<c.length
    ·have t2:(0:Int)<=(k:Int):=by omega
     have t3:(k:Int)<c.length:=by omega
     obtain⟨A,B,rfl,x0,x1,x2,x3⟩:=et.out k af;obtain⟨J,K,L,M⟩:=eu.out c[k] (List.getElem_mem af);have aw:Hid ((c.take (k+1)).flatMap insB=(c.take k).flatMap insB++insB c[k]):=by
      unfold Hid;rw [List.take_succ_eq_append_getElem af,List.flatMap_append,List.flatMap_cons,List.flatMap_nil,List.append_nil]
     have eD:Hid (smallIns c[k]):=⟨J,K,L,M⟩;generalize c[k]=ii at*;obtain⟨oo,aa,bb,E⟩:=ii;simp only at J K L M x0 x1 x2 x3;obtain⟨F,rfl⟩:=Int.eq_ofNat_of_zero_le J.1;obtain⟨C,rfl⟩:=Int.eq_ofNat_of_zero_le K.1;obtain⟨D,rfl⟩:=Int.eq_ofNat_of_zero_le L.1;have q0:(F:Int)<=11:=J.2;have q1:(C:Int)<=3:=K.2;have q2:(D:Int)<=3:=L.2;have H:Hid (∀ u,w.grownBy u none->u.cell? ⟨A,B+k*4,none⟩=some (.int .i64 (F:Int))/\u.cell? ⟨A,B+k*4+1,none⟩=some (.int .i64 (C:Int))/\u.cell? ⟨A,B+k*4+2,none⟩=some (.int .i64 (D:Int))/\u.cell? ⟨A,B+k*4+3,none⟩=some (.int .i64 E)):=fun u hu=>⟨ip hu _ _ x0,ip hu _ _ x1,ip hu _ _ x2,ip hu _ _ x3⟩
     have hz:zig E<18446744073709551616:=by unfold zig;split<;>omega
     have ez:=ij (fun u=>i6 F u (by omega));have ex:=ij (fun u=>i6 C u (by omega));have ey:=ij (fun u=>i6 D u (by omega));have eB:=ij (fun u=>wS E u M.1 M.2);have eA:=ij (fun u=>i6 (zig E) u hz);have e0:=jZ F (by omega);have e1:=jZ C (by omega);have e2:=jZ D (by omega);have b1:=jL (n:=F) (by omega);have b2:=jL (n:=C) (by omega);have b3:=jL (n:=D) (by omega);have b4:=jL hz;obtain⟨V1,O⟩:∃ Y,V++numB F=Y:=⟨_,rfl⟩;obtain⟨V2,P⟩:∃ Y,V1++numB C=Y:=⟨_,rfl⟩;obtain⟨V3,R⟩:∃ Y,V2++numB D=Y:=⟨_,rfl⟩;obtain⟨V4,S⟩:∃ Y,V3++numB (zig E)=Y:=⟨_,rfl⟩;have l1':V1.length<=V.length+10:=by rw [<-O,List.length_append];omega
     have l2':V2.length<=V.length+20:=by rw [<-P,List.length_append];omega
     have l3':V3.length<=V.length+30:=by rw [<-R,List.length_append];omega
     have l4':V4.length<=V.length+40:=by rw [<-S,List.length_append];omega
     have y1:=jV O (by omega);have y2:=jV P (by omega);have y3:=jV R (by omega);have y4:=jV S (by omega);have eH:Hid (V4=G++(c.take (k+1)).flatMap insB):=by
      unfold Hid;rw [aw.out,<-S,<-R,<-P,<-O,aB.out];simp [insB,wInt]
     have aO:=H.out w6.drew (iy y.out);generalize zig E=zn at*;clear O P R S x0 x1 x2 x3 J K L M hz aw eD;go_upto_region 17 with fail
     refine iz (fun u=>u.cell? ⟨A,B+k*4,none⟩=some (.int .i64 (F:Int))/\u.cell? ⟨A,B+k*4+1,none⟩=some (.int .i64 (C:Int))/\u.cell? ⟨A,B+k*4+2,none⟩=some (.int .i64 (D:Int))/\u.cell? ⟨A,B+k*4+3,none⟩=some (.int .i64 E)) 33 (by kernel_rfl) (by kernel_rfl) aO ?_;intro q;refine ie 0 ?v1 rfl (by kernel_rfl) (fun c _ _ h=>b.out c _ _ _ _ h) (by kernel_rfl) ?y1 q ?_
     case y1=>(rintro u ⟨f,j,l,m⟩;go_simp;try rfl)
     simp only [Act.put,List.setIfInBounds_toArray];refine ie 1 ?v2 rfl (by kernel_rfl) (fun c _ _ h=>b.out c _ _ _ _ h) (by kernel_rfl) ?y2 q ?_
     case y2=>(rintro u ⟨f,j,l,m⟩;go_simp;try rfl)
     simp only [Act.put];refine ie 2 ?v3 rfl (by kernel_rfl) (fun c _ _ h=>b.out c _ _ _ _ h) (by kernel_rfl) ?y3 q ?_
     case y3=>(rintro u ⟨f,j,l,m⟩;go_simp;try rfl)
     simp only [Act.put];refine ie 3 ?v4 rfl (by kernel_rfl) (fun c _ _ h=>b.out c _ _ _ _ h) (by kernel_rfl) ?y4 q ?_
     case y4=>(rintro u ⟨f,j,l,m⟩;go_simp;try rfl)
     simp only [Act.put];refine ie 4 ?v5 rfl (by kernel_rfl) (fun c _ _ h=>b.out c _ _ _ _ h) (by kernel_rfl) ?y5 q ?_
     case y5=>(rintro u ⟨f,j,l,m⟩;go_simp;try rfl)
     simp only [Act.put];refine ie 5 ?v6 rfl (by kernel_rfl) (fun c _ _ h=>b.out c _ _ _ _ h) (by kernel_rfl) ?y6 q ?_
     case y6=>(rintro u ⟨f,j,l,m⟩;go_simp;try rfl)
     simp only [Act.put];refine ie 6 ?v7 rfl (by kernel_rfl) (fun c _ _ h=>b.out c _ _ _ _ h) (by kernel_rfl) ?y7 q ?_
     case y7=>(rintro u ⟨f,j,l,m⟩;go_simp;try rfl)
     simp only [Act.put];refine ie 9 ?v8 rfl (by kernel_rfl) (fun c _ _ h=>b.out c _ _ _ _ h) (by kernel_rfl) ?y8 q ?_
     case y8=>(rintro u ⟨f,j,l,m⟩;go_simp;try rfl)
     simp only [Act.put];refine ie 10 ?v9 rfl (by kernel_rfl) (fun c _ _ h=>b.out c _ _ _ _ h) (by kernel_rfl) ?y9 q ?_
     case y9=>(rintro u ⟨f,j,l,m⟩;go_simp;try rfl)
     simp only [Act.put];refine ie 11 ?v10 rfl (by kernel_rfl) (fun c _ _ h=>b.out c _ _ _ _ h) (by kernel_rfl) ?y10 q ?_
     case y10=>(rintro u ⟨f,j,l,m⟩;go_simp;try rfl)
     simp only [Act.put];refine ie 12 ?v11 rfl (by kernel_rfl) (fun c _ _ h=>b.out c _ _ _ _ h) (by kernel_rfl) ?y11 q ?_
     case y11=>(rintro u ⟨f,j,l,m⟩;go_simp;try rfl)
     simp only [Act.put];refine ie 13 ?v12 rfl (by kernel_rfl) (fun c _ _ h=>b.out c _ _ _ _ h) (by kernel_rfl) ?y12 q ?_
     case y12=>(rintro u ⟨f,j,l,m⟩;go_simp;try rfl)
     simp only [Act.put];refine ie 14 ?v13 rfl (by kernel_rfl) (fun c _ _ h=>b.out c _ _ _ _ h) (by kernel_rfl) ?y13 q ?_
     case y13=>(rintro u ⟨f,j,l,m⟩;go_simp;try rfl)
     simp only [Act.put];refine ie 17 ?v14 rfl (by kernel_rfl) (fun c _ _ h=>b.out c _ _ _ _ h) (by kernel_rfl) ?y14 q ?_
     case y14=>(rintro u ⟨f,j,l,m⟩;go_simp;try rfl)
     simp only [Act.put];refine ie 18 ?v15 rfl (by kernel_rfl) (fun c _ _ h=>b.out c _ _ _ _ h) (by kernel_rfl) ?y15 q ?_
     case y15=>(rintro u ⟨f,j,l,m⟩;go_simp;try rfl)
     simp only [Act.put];refine ie 19 ?v16 rfl (by kernel_rfl) (fun c _ _ h=>b.out c _ _ _ _ h) (by kernel_rfl) ?y16 q ?_
     case y16=>(rintro u ⟨f,j,l,m⟩;go_simp;try rfl)
     simp only [Act.put];refine ie 20 ?v17 rfl (by kernel_rfl) (fun c _ _ h=>b.out c _ _ _ _ h) (by kernel_rfl) ?y17 q ?_
     case y17=>(rintro u ⟨f,j,l,m⟩;go_simp;try rfl)
     simp only [Act.put];refine ie 21 ?v18 rfl (by kernel_rfl) (fun c _ _ h=>b.out c _ _ _ _ h) (by kernel_rfl) ?y18 q ?_
     case y18=>(rintro u ⟨f,j,l,m⟩;go_simp;try rfl)
     simp only [Act.put];refine ie 22 ?v19 rfl (by kernel_rfl) (fun c _ _ h=>b.out c _ _ _ _ h) (by kernel_rfl) ?y19 q ?_
     case y19=>(rintro u ⟨f,j,l,m⟩;go_simp;try rfl)
     simp only [Act.put];refine ie 25 ?v20 rfl (by kernel_rfl) (fun c _ _ h=>b.out c _ _ _ _ h) (by kernel_rfl) ?y20 q ?_
     case y20=>(rintro u ⟨f,j,l,m⟩;go_simp;try rfl)
     simp only [Act.put];refine ie 26 ?v21 rfl (by kernel_rfl) (fun c _ _ h=>b.out c _ _ _ _ h) (by kernel_rfl) ?y21 q ?_
     case y21=>(rintro u ⟨f,j,l,m⟩;go_simp;try rfl)
     simp only [Act.put];refine ie 27 ?v22 rfl (by kernel_rfl) (fun c _ _ h=>b.out c _ _ _ _ h) (by kernel_rfl) ?y22 q ?_
     case y22=>(rintro u ⟨f,j,l,m⟩;go_simp;try rfl)
     simp only [Act.put];refine ie 28 ?v23 rfl (by kernel_rfl) (fun c _ _ h=>b.out c _ _ _ _ h) (by kernel_rfl) ?y23 q ?_
     case y23=>(rintro u ⟨f,j,l,m⟩;go_simp;try rfl)
     simp only [Act.put];refine ie 29 ?v24 rfl (by kernel_rfl) (fun c _ _ h=>b.out c _ _ _ _ h) (by kernel_rfl) ?y24 q ?_
     case y24=>(rintro u ⟨f,j,l,m⟩;go_simp;try rfl)
     simp only [Act.put];refine iu (i:=7) rfl (by kernel_rfl) (by kernel_rfl) (by kernel_rfl) ?_;intro K7 aN;have ap:=ij aN;clear aN;go_simp;refine(ez.out _).mono ?_;rintro e u1 ⟨rfl,aS⟩;have ax:Hid (w6.grownBy u1 none):=jo aS;have ac:=H.out u1 (il y.out ax.out);clear aS;refine ap.out _ _ ac ?_;clear ap;try simp only [Act.put,List.setIfInBounds_toArray]
     refine ie 8 ?v25 rfl (by kernel_rfl) (fun c _ _ h=>b.out c _ _ _ _ h) (by kernel_rfl) ?y25 ac ?_
     case y25=>(rintro u ⟨f,j,l,m⟩;go_simp;try rfl)
     simp only [Act.put,List.setIfInBounds_toArray];refine iu (i:=15) rfl (by kernel_rfl) (by kernel_rfl) (by kernel_rfl) ?_;intro K15 aJ;have al:=ij aJ;clear aJ;go_simp;refine(ex.out _).mono ?_;rintro e u2 ⟨rfl,aT⟩;have ay:Hid (w6.grownBy u2 none):=il ax.out aT;have ad:=H.out u2 (il y.out ay.out);clear aT;refine al.out _ _ ad ?_;clear al;try simp only [Act.put,List.setIfInBounds_toArray]
     refine ie 16 ?v26 rfl (by kernel_rfl) (fun c _ _ h=>b.out c _ _ _ _ h) (by kernel_rfl) ?y26 ad ?_
     case y26=>(rintro u ⟨f,j,l,m⟩;go_simp;try rfl)
     simp only [Act.put,List.setIfInBounds_toArray];refine iu (i:=23) rfl (by kernel_rfl) (by kernel_rfl) (by kernel_rfl) ?_;intro K23 aK;have am:=ij aK;clear aK;go_simp;refine(ey.out _).mono ?_;rintro e u3 ⟨rfl,aU⟩;have az:Hid (w6.grownBy u3 none):=il ay.out aU;have N:=H.out u3 (il y.out az.out);clear aU;refine am.out _ _ N ?_;clear am;try simp only [Act.put,List.setIfInBounds_toArray]
     refine ie 24 ?v27 rfl (by kernel_rfl) (fun c _ _ h=>b.out c _ _ _ _ h) (by kernel_rfl) ?y27 N ?_
     case y27=>(rintro u ⟨f,j,l,m⟩;go_simp;try rfl)
     simp only [Act.put,List.setIfInBounds_toArray];refine iu (i:=30) rfl (by kernel_rfl) (by kernel_rfl) (by kernel_rfl) ?_;intro K30 aL;have an:=ij aL;clear aL;go_simp;refine(eB.out _).mono ?_;rintro e u3b ⟨rfl,h8⟩;obtain rfl:=h8.symm;refine an.out _ _ N ?_;clear an;try simp only [Act.put,List.setIfInBounds_toArray]
     refine iu (i:=31) rfl (by kernel_rfl) (by kernel_rfl) (by kernel_rfl) ?_;intro K31 aM;have ao:=ij aM;clear aM;go_simp;refine(eA.out _).mono ?_;rintro e u4 ⟨rfl,I⟩;have aA:Hid (w6.grownBy u4 none):=il az.out I;have ae:=H.out u4 (il y.out aA.out);clear I;refine ao.out _ _ ae ?_;clear ao;try simp only [Act.put,List.setIfInBounds_toArray]
     refine ie 32 ?v28 rfl (by kernel_rfl) (fun c _ _ h=>b.out c _ _ _ _ h) (by kernel_rfl) ?y28 ae ?_
     case y28=>(rintro u ⟨f,j,l,m⟩;go_simp;try rfl)
     simp only [Act.put,List.setIfInBounds_toArray];refine iF rfl (by kernel_rfl) (by kernel_rfl) (by kernel_rfl) ?_;go_simp;clear q ac ad N ae y1 y2 y3 y4 aO;go_wp2_with fail
     go_roundw
     case rel=>exact⟨k+1,V4,by omega,by go_num,rfl,eH,by omega,ij (il y.out aA.out)⟩
     case measure=>simp [intOf];omega
    ·have t3:(c.length:Int)<=(k:Int):=by omega
     have eG:Hid (V=X++(p.take (t+1)).flatMap codeB):=by
      unfold Hid;rw [aB.out,List.take_of_length_le (show c.length<=k by omega),eE.out,<-eJ.out,HZ.out];simp [codeB,wInt]
     have h9:V.length<=20+650*(t+1):=by have:=ew.out;omega
     go_wp2_with fail
     go_roundw
     case rel=>exact⟨t+1,V,by omega,by go_num,rfl,eG,h9,y⟩
     case measure=>simp [intOf];omega
  ·have t1:(p.length:Int)<=(t:Int):=by omega
   have aD:Hid (Z=X++p.flatMap codeB):=by
    unfold Hid;rw [HZ.out,List.take_of_length_le (by omega)]
   have ib:Z.length<=1000000:=by omega
   have eK:Hid (∀ x∈Z,x<256):=by
    unfold Hid;rw [aD.out]
    intro x z;rcases List.mem_append.1 z with z | z
    ·exact h2 x z
    ·obtain⟨c,_,hc⟩:=List.mem_flatMap.1 z;exact rW c x hc
   rw [<-aD.out]at HQ;go_upto_if 71 with fail
   refine wp_cond_false rfl ?_;refine wp_exit ?_;refine ‹∀ a w,Code.wp Tryz.prog _ _ a w->_› _ _ ?_;refine zZ ib eK.out ((HI.out.pres (ip r.out)).mono r.out.size) HV eI (ip r.out _ _ H1.out) ⟨ip r.out _ _ W.out.1,ip r.out _ _ W.out.2.1,ip r.out _ _ W.out.2.2⟩ b ?_;intro z0 z1 z4 z5 z6 z7 z8 z9 a7 bj bx bJ bU cb cp cA cL cT cU cV cW cX cY cZ c6 da db dc dd de df dg dh di dj dk dl dm dp dq dr ds dt du dv dw dx dy dA dB dC dD dE dF dG dH dI dJ dL dM dN dO dP dQ dR dS dT dU dW dX dY dZ d0 d1 d2 d3 d4 d5 d7 d8 d9 ea eb ec ed ee ef eg ei ej ek el em en eo ep eq er a8 a9 ba bc bd be bf bg bh bi bk bm bn bo bq br bt bu bv bw bz bA bB bC bD bE bF bG bH bI bK bL bM bN bO bP bQ bR bS bT bV bW bX bY bZ b5 b6 b7 b8 b9 cd ce cf ch ci cj ck cl cm cn cq cr cs ct cu cv cw cx cy cz cB cC cD cE cF cG cH cI cJ cK cM cN cO cP cQ cR cS w' ia;exact HQ.out w' (il r.out ia)
def refAns(a:Art):Value:=if artE a=0 then .tuple #[.string (bs (encB a)),.int .i64 0] else .tuple #[.string ⟨#[]⟩,.int .i64 (artE a)]
def nInt(i:Ins):Prop:= -9223372036854775808<=i.n/\i.n<=9223372036854775807
theorem nQ(p:List (List Ins))(s:List Int)(k0 k1 k2:Int)(tv sv:Value)(w:World)(H:ProgAt w (.agg #[tv]) p)(G:IntsAt w.heap.size w sv s)(aB:p.length<=5864062014634)(ab:∀ c∈p,c.length<=4398046510976)(Z:∀ c∈p,∀ i∈c,nInt i):
  Calls Tryz.prog 40 #[.agg #[tv,sv,.int .i64 k0,.int .i64 k1,.int .i64 k2]] w fun e w'=>w.grownBy w' none/\e= .returned (refAns ⟨p,s,(k0,k1,k2)⟩):=by
 obtain⟨r,t,ac⟩:=H.form;simp only [Value.agg.injEq,Array.mk.injEq,List.cons.injEq,and_true]at ac;subst ac;obtain⟨n,m,rfl⟩:=G.form;have S:=ij H;have R:=ij G;have ao:=ij ab;have an:=ij Z;clear H G ab Z;go_enter Tryz.func40,Tryz.ntmps40
 go_wp2_with fail
 obtain⟨u,D⟩:∃ u,u=w.alloc (.cells #[.slice r p.length t,.slice n s.length m,.int .i64 k0,.int .i64 k1,.int .i64 k2] 56):=⟨_,rfl⟩;have Y:u.heap[w.heap.size]?=some (.cells #[.slice r p.length t,.slice n s.length m,.int .i64 k0,.int .i64 k1,.int .i64 k2] 56 (0,0)):=by rw [D];exact heap_alloc_new w _
 have Q:Hid (w.grownBy u none):=by unfold Hid;rw [D];exact iq (ir _ _)
 rw [<-D];clear D;have F:=ij Y;clear Y;refine(kd p _ u (S.out.pres (ip Q.out)) aB ao.out).mono ?_;rintro e E ⟨rfl,B⟩;have HG12:=ij B;have z:Hid (w.grownBy E none):=il Q.out B;have x:Hid (E.heap[w.heap.size]?=some (.cells #[.slice r p.length t,.slice n s.length m,.int .i64 k0,.int .i64 k1,.int .i64 k2] 56 (0,0))):=by
  unfold Hid;rw [B.block _ (Array.getElem?_eq_some_iff.1 F.out).1 (by simp)];exact F.out
 clear B;cases hv:vProg p
 ·have y:Hid (checkN p=1):=by unfold Hid checkN;simp [hv]
  have b:Hid (artE ⟨p,s,(k0,k1,k2)⟩=1):=by unfold Hid artE;simp only;rw [hv];rfl
  rw [y.out];clear hv;go_wp2_with fail
  refine bodyPost_ret (v:= .tuple #[.string ⟨#[]⟩,.int .i64 1]) (by simp [results,Tryz.results40,go_sem]) rfl ?_;exact⟨z.out,by unfold refAns;rw [b.out];rfl⟩
 ·have y:Hid (checkN p=0):=by unfold Hid checkN;simp [hv]
  have k:=ij hv;rw [y.out];clear hv y;have A:E.cell? ⟨w.heap.size,1,none⟩=some (.slice n s.length m):=by simp [World.cell?,x.out]
  have T:=ij (nR s _ E ((R.out.pres (ip z.out)).mono z.out.size));go_wp2_with fail
  refine T.out.mono ?_;clear T A;rintro e d ⟨rfl,I⟩;have am:Hid (w.grownBy d none):=il z.out I;have l:d.heap[w.heap.size]?=some (.cells #[.slice r p.length t,.slice n s.length m,.int .i64 k0,.int .i64 k1,.int .i64 k2] 56 (0,0)):=by
   rw [I.block _ (Array.getElem?_eq_some_iff.1 x.out).1 (by simp)];exact x.out
  have V:d.cell? ⟨w.heap.size,0,none⟩=some (.slice r p.length t):=by simp [World.cell?,l]
  have A:d.cell? ⟨w.heap.size,1,none⟩=some (.slice n s.length m):=by simp [World.cell?,l]
  have d2:d.cell? ⟨w.heap.size,2,none⟩=some (.int .i64 k0):=by simp [World.cell?,l]
  have d3:d.cell? ⟨w.heap.size,3,none⟩=some (.int .i64 k1):=by simp [World.cell?,l]
  have d4:d.cell? ⟨w.heap.size,4,none⟩=some (.int .i64 k2):=by simp [World.cell?,l]
  have O:=ij V;have P:=ij A;clear l I V A;generalize C:validS s=vs;go_upto_region 6 with fail
  clear d2 d3 d4;have q:d.grownBy (d.alloc (.cells #[.int .i64 k0,.int .i64 k1,.int .i64 k2] 26)) none:=iq (ir _ _);have o:=heap_alloc_new d (.cells #[.int .i64 k0,.int .i64 k1,.int .i64 k2] 26);generalize d.alloc (.cells #[.int .i64 k0,.int .i64 k1,.int .i64 k2] 26)=w4 at q o ⊢;have j:Hid (w.grownBy w4 none):=il am.out q;have aj:=ij (ip q _ _ O.out);have ak:=ij (ip q _ _ P.out);have f0:w4.cell? ⟨d.heap.size,0,none⟩=some (.int .i64 k0):=by simp [World.cell?,o]
  have f1:w4.cell? ⟨d.heap.size,1,none⟩=some (.int .i64 k1):=by simp [World.cell?,o]
  have f2:w4.cell? ⟨d.heap.size,2,none⟩=some (.int .i64 k2):=by simp [World.cell?,o]
  have HF:Hid (w4.cell? ⟨d.heap.size,0,none⟩=some (.int .i64 k0)/\w4.cell? ⟨d.heap.size,1,none⟩=some (.int .i64 k1)/\w4.cell? ⟨d.heap.size,2,none⟩=some (.int .i64 k2)):=⟨f0,f1,f2⟩;clear q o O P F x;by_cases K:vs=true
  case neg=>
   have ad:vs=false:=by simpa using K
   have b:Hid (artE ⟨p,s,(k0,k1,k2)⟩=2):=by unfold Hid artE;simp only;rw [if_pos k.out,if_neg (by rintro⟨W,_⟩;rw [C,ad]at W;cases W)]
   subst ad;clear K C;go_wp2_with fail
   refine bodyPost_ret (v:= .tuple #[.string ⟨#[]⟩,.int .i64 2]) (by simp [results,Tryz.results40,go_sem]) rfl ?_;exact⟨j.out,by unfold refAns;rw [b.out];rfl⟩
  case pos=>
  subst K;have U:=ij C;clear C;by_cases h:k0<1
  ·have b:Hid (artE ⟨p,s,(k0,k1,k2)⟩=2):=by unfold Hid artE;simp only;rw [if_pos k.out,if_neg (by rintro⟨_,f⟩;simp only [verOk,Bool.and_eq_true,decide_eq_true_eq]at f;omega)]
   go_wp2_with fail
   refine bodyPost_ret (v:= .tuple #[.string ⟨#[]⟩,.int .i64 2]) (by simp [results,Tryz.results40,go_sem]) rfl ?_;exact⟨j.out,by unfold refAns;rw [b.out];rfl⟩
  replace h:1<=k0:=by omega
  by_cases h:5<k0
  ·have b:Hid (artE ⟨p,s,(k0,k1,k2)⟩=2):=by unfold Hid artE;simp only;rw [if_pos k.out,if_neg (by rintro⟨_,f⟩;simp only [verOk,Bool.and_eq_true,decide_eq_true_eq]at f;omega)]
   go_wp2_with fail
   refine bodyPost_ret (v:= .tuple #[.string ⟨#[]⟩,.int .i64 2]) (by simp [results,Tryz.results40,go_sem]) rfl ?_;exact⟨j.out,by unfold refAns;rw [b.out];rfl⟩
  replace h:k0<=5:=by omega
  by_cases h:k1<0
  ·have b:Hid (artE ⟨p,s,(k0,k1,k2)⟩=2):=by unfold Hid artE;simp only;rw [if_pos k.out,if_neg (by rintro⟨_,f⟩;simp only [verOk,Bool.and_eq_true,decide_eq_true_eq]at f;omega)]
   go_wp2_with fail
   refine bodyPost_ret (v:= .tuple #[.string ⟨#[]⟩,.int .i64 2]) (by simp [results,Tryz.results40,go_sem]) rfl ?_;exact⟨j.out,by unfold refAns;rw [b.out];rfl⟩
  replace h:0<=k1:=by omega
  by_cases h:3<k1
  ·have b:Hid (artE ⟨p,s,(k0,k1,k2)⟩=2):=by unfold Hid artE;simp only;rw [if_pos k.out,if_neg (by rintro⟨_,f⟩;simp only [verOk,Bool.and_eq_true,decide_eq_true_eq]at f;omega)]
   go_wp2_with fail
   refine bodyPost_ret (v:= .tuple #[.string ⟨#[]⟩,.int .i64 2]) (by simp [results,Tryz.results40,go_sem]) rfl ?_;exact⟨j.out,by unfold refAns;rw [b.out];rfl⟩
  replace h:k1<=3:=by omega
  by_cases h:k2<0
  ·have b:Hid (artE ⟨p,s,(k0,k1,k2)⟩=2):=by unfold Hid artE;simp only;rw [if_pos k.out,if_neg (by rintro⟨_,f⟩;simp only [verOk,Bool.and_eq_true,decide_eq_true_eq]at f;omega)]
   go_wp2_with fail
   refine bodyPost_ret (v:= .tuple #[.string ⟨#[]⟩,.int .i64 2]) (by simp [results,Tryz.results40,go_sem]) rfl ?_;exact⟨j.out,by unfold refAns;rw [b.out];rfl⟩
  replace h:0<=k2:=by omega
  by_cases h:500<k2
  ·have b:Hid (artE ⟨p,s,(k0,k1,k2)⟩=2):=by unfold Hid artE;simp only;rw [if_pos k.out,if_neg (by rintro⟨_,f⟩;simp only [verOk,Bool.and_eq_true,decide_eq_true_eq]at f;omega)]
   go_wp2_with fail
   refine bodyPost_ret (v:= .tuple #[.string ⟨#[]⟩,.int .i64 2]) (by simp [results,Tryz.results40,go_sem]) rfl ?_;exact⟨j.out,by unfold refAns;rw [b.out];rfl⟩
  replace h:k2<=500:=by omega
  have J:verOk (k0,k1,k2)=true:=by simp only [verOk,Bool.and_eq_true,decide_eq_true_eq];omega
  have aC:=(iW k.out).2;have ap:Hid (∀ c∈p,c.length<=16/\∀ i∈c,smallIns i):=by
   intro c hc;have hp:=k.out;simp only [vProg,Bool.and_eq_true,List.all_eq_true]at hp;have f:=hp.2.2 c hc;simp only [vCode,Bool.and_eq_true,List.all_eq_true,decide_eq_true_eq]at f;refine⟨f.1,fun i hi'=>?_⟩;obtain⟨g1,g2,g3⟩:=mw (f.2 i hi');exact⟨g1,g2,g3,an.out c hc i hi'⟩
  have b:Hid (artE ⟨p,s,(k0,k1,k2)⟩=0):=by unfold Hid artE;simp only;rw [if_pos k.out,if_pos ⟨U.out,J⟩]
  have ai:Hid (bodyB ⟨p,s,(k0,k1,k2)⟩=([82,82,1]++numB p.length++p.flatMap codeB)++(schB s++verB (k0,k1,k2))):=by
   unfold Hid bodyB progB wInt;simp
  have ah:Hid (refAns ⟨p,s,(k0,k1,k2)⟩= .tuple #[.string (bs (([82,82,1]++numB p.length++p.flatMap codeB)++(schB s++verB (k0,k1,k2))++leB 4 (crcN (([82,82,1]++numB p.length++p.flatMap codeB)++(schB s++verB (k0,k1,k2)))))),.int .i64 0]):=by
   unfold Hid refAns;rw [if_pos b.out];unfold encB;rw [ai.out]
  have aq:=ij J;clear J;have L:decide (k0<1)=false:=decide_eq_false (by omega);have z1:decide (5<k0)=false:=decide_eq_false (by omega);have z2:decide (k1<0)=false:=decide_eq_false (by omega);have z3:decide (3<k1)=false:=decide_eq_false (by omega);have M:decide (k2<0)=false:=decide_eq_false (by omega);have N:decide (500<k2)=false:=decide_eq_false (by omega);have ZZ:Hid ((decide (k0<1) || decide (5<k0) || decide (k1<0) || decide (3<k1) || decide (k2<0) || decide (500<k2))=false):=by unfold Hid;rw [L,z1,z2,z3,M,N];rfl
  clear L z1 z2 z3 M N;go_upto_if 58 with fail
  refine wp_cond_false (congrArg Value.bool ZZ.out) ?_;refine wp_skip ?_;refine ‹∀ a w,Code.wp Tryz.prog _ _ a w->_› _ _ ?_;refine zY (X:=[82,82,1]++numB p.length) (p:=p) (s:=s) (v:=(k0,k1,k2)) (ij rfl) (S.out.pres (ip j.out)) aC ap ((R.out.pres (ip j.out)).mono j.out.size) U aq aj ak HF ?_ ?_
  ·exact fun _ _ _ _ _ h=>h
  intro L z1 M N z6 z7 z8 z9 z10 z11 z12 z13 z14 z15 z16 z17 z18 z19 z20 z21 z22 z23 z24 z25 z26 z27 z28 z29 z30 z31 z32 z33 z34 z35 z36 z37 z38 z39 z40 z41 z42 z43 z44 z45 z46 z47 z48 z49 z50 z51 z52 z53 z54 z55 z56 z57 z58 z59 z60 z61 z62 z63 z64 z65 z66 z67 z68 z69 z70 z71 z72 z73 z74 z75 z76 z77 z78 z79 z80 z81 z82 z83 z84 z85 z86 z87 z88 z89 z90 z91 z92 z93 z94 z95 z96 z97 z98 z99 z100 z101 z102 z103 z104 z105 z106 z107 z108 z109 z110 z111 z112 z113 z114 z115 z116 z117 z118 z119 z120 z121 z122 z123 z124 z125 z126 z127 z128 z129 z130 z131 z132 z133 z134 z135 z136 z137 z138 z139 z140 z141 z142 z143 z144 z145 z146 z147 z148 z149 z150 z151 z152 z153 z154 z155 z156 z157 z158 z159 z160 z161 z162 z163 z164 z165 z166 z167 z168 z169 z170 z171 z172 z173 z174 z175 z176 z177 z178 z179 z180 z181 z182 z183 z184 z185 z186 w' ae;have ar:=ij ae;clear ae;refine bodyPost_ret (v:=refAns ⟨p,s,(k0,k1,k2)⟩) (by rw [ah.out];simp [results,Tryz.results40,go_sem]) rfl ?_;exact⟨il j.out ar.out,rfl⟩
end
end Go.Proofs.YtklenjmfalljgabGreatDoor
