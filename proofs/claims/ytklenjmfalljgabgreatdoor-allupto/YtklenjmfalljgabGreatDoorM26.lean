/- The texts Rgd Rge Rgk. -/
import Derived.Test.YtklenjmfalljgabGreatDoorM02
import Derived.Test.YtklenjmfalljgabGreatDoorM03
import Derived.Test.YtklenjmfalljgabGreatDoorM19
import Derived.Test.YtklenjmfalljgabGreatDoorM23
import Derived.Test.YtklenjmfalljgabGreatDoorM25
namespace Go.Proofs.YtklenjmfalljgabGreatDoor
set_option maxRecDepth 100000
set_option maxHeartbeats 8000000
section
open Go.RowKit
attribute [local go_sem] Go.World.cell?_alloc_some
theorem mf(n:Nat)(h:n<18446744073709551616):IntKind.u64.wrap (n:Int)=(n:Int):=by rw [IntKind.wrap_u64];omega
theorem lK{n:Nat}(h:n<18446744073709551616):(jZ n).length<=10:=mK h
theorem ms{l m k:List Nat}(hk:l++m=k)(h:l.length+m.length<=9223372036854775807):Op.stringOp .add (bs l) (bs m)=pure (.string (bs k)):=by rw [<-hk];exact Cm l m h
theorem CD{w:World}{g:Nat}{x0 x1 x2 x3:Nat}(h:w.heap[g]?=some (.cells #[.int .u8 (x0:Int),.int .u8 (x1:Int),.int .u8 (x2:Int),.int .u8 (x3:Int)] 5 (0,0))):(convert 147 9 (.slice (some ⟨g,0,none⟩) 4 4)).run Tryz.prog w= .ok (.string (bs [x0,x1,x2,x3])) w:=
 run_convert_bytes_arg w _ _ Tryz.underlying147 Tryz.underlying5 g 0 4 4 _ (by simp) (fun i hi=>by
  have hi':i<4:=by simpa using hi
  rcases(by omega:i=0\/i=1\/i=2\/i=3)with rfl | rfl | rfl | rfl<;>simp [World.cell?,h]) _ Tryz.underlying9
theorem En{w:World}{n1 A:Nat}{X:List Nat}{s:List Int}{v:Int × Int × Int}{sv:Value}(hX:X.length<=1000000)(hW:∀ x∈X,x<256)(HI:Hid (IntsAt w.heap.size w sv s))(HV:Hid (jd s=true))(eQ:Hid (kH v=true))
  (H1:Hid (w.cell? ⟨n1,1,none⟩=some sv)) (H6:Hid (w.cell? ⟨A,0,none⟩=some (.int .i64 v.1)/\w.cell? ⟨A,1,none⟩=some (.int .i64 v.2.1)/\w.cell? ⟨A,2,none⟩=some (.int .i64 v.2.2)))
  {Q:Exit->Act->World->Prop} {c0 c2 c3 c4 c5 c8 c9 fr hN dF e9 bA cM aX cL gB bC ga bq gk f4 cF fW cB ey bi dj a1 hG fQ ft dQ hq fz fB dO ho gj fe cI gX hP cZ ce hQ bZ eV a5 du gI dp gh hr aY eD bT dI dk gH fN cT cy cb gw bS gn hH cm fM hO hp br cV bg gV ex fE bI bx bj g2 cp fg gi hz fR ej gZ fO e4 cv cC gt fw g3 cE bc bY cf ef fT gC eK dZ eF eI be eX eJ er bd ez gl eE bf dG en dw gf gm hf eS hA el gG hn fV g0 gc cA d3 fk bR go bF bW cY dV cr dH ff dR bE a7 hM c7 fp fP bX db ca da dT gU eh bM d4 bz e8 bh eA fS dB cX b7 g7 fK f5 eZ dL fA b4 gJ eq hB gr gp f8 cl fL cc e7 hk fx:Value} (k:Hid (∀ c a d v w,Q (.panic c) (Act.put a (some d) v) w->Q (.panic c) a w))
  (K:Hid (∀ {z0 z1 z4 z5 z6 z7 z8 z9 eC gx f2 de cU fj gY cO dC em fh cq et dY hV dv f9 d9 bD fy eM fG e3 dX fn hg eR gg dl dE fI ec ch eH eb bN fo gP bu ct eg dq a6 d5 b5 co cK gD gR b6 hZ fJ dy h4 gK gL hF fZ hw hC gT gN b8 dx eL cz dg hE eo dd eU bl hb gb hR cW hs eP cJ fH eW a8 cj dM ei d1 ee eu ba gA fi ck e6 gz ci fX dS gS ge bm gE fl bo bL fq cs cN g8 cx cP dh dN d0 ed d6 dP a0 dU dD dc ev fv g9 es bQ hD d7 gy hU f6 gq cn dK hK bK g6 bU ep bH gO ek f7 dA fU ha cS f0 gM hJ a9 f3 dt a3 bJ fF dJ h3 hh bb gv g1 a2 gQ ea hl di hS bk b9 cG bP fa bG fY dW hT he:Value} (w':World),w.grownBy w' none->Q .ret ⟨#[z0,z1,.string (bs (X++(mz s++mQ v)++leB 4 (lq (X++(mz s++mQ v))))),.int .i64 0,z4,z5,z6,z7,z8,z9,eC,gx,f2,de,cU,fj,gY,cO,dC,em,fh,cq,et,dY,hV,dv,f9,d9,bD,fy,eM,fG,e3,dX,fn,hg,eR,gg,dl,dE,fI,ec,ch,eH,eb,bN,fo,gP,bu,ct,eg,dq,a6,d5,b5,co,cK,gD,gR,b6,hZ,fJ,dy,h4,gK,gL,hF,fZ,hw,hC,gT,gN,b8,dx,eL,cz,dg,hE,eo,dd,eU,bl,hb,gb,hR,cW,hs,eP,cJ,fH,eW,a8,cj,dM,ei,d1,ee,eu,ba,gA,fi,ck,e6,gz,ci,fX,dS,gS,ge,bm,gE,fl,bo,bL,fq,cs,cN,g8,cx,cP,dh,dN,d0,ed,d6,dP,a0,dU,dD,dc,ev,fv,g9,es,bQ,hD,d7,gy,hU,f6,gq,cn,dK,hK,bK,g6,bU,ep,bH,gO,ek,f7,dA,fU,ha,cS,f0,gM,hJ,a9,f3,dt,a3,bJ,fF,dJ,h3,hh,bb,gv,g1,a2,gQ,ea,hl,di,hS,bk,b9,cG,bP,fa,bG,fY,dW,hT,he],[]⟩ w')):
  Code.wp Tryz.prog (oO Tryz.f40 18) Q ⟨#[c0,.pointer (some ⟨n1,0,none⟩),c2,c3,c4,c5,.pointer (some ⟨A,0,none⟩),.string (bs X),c8,c9,fr,hN,dF,e9,bA,cM,aX,cL,gB,bC,ga,bq,gk,f4,cF,fW,cB,ey,bi,dj,a1,hG,fQ,ft,dQ,hq,fz,fB,dO,ho,gj,fe,cI,gX,hP,cZ,ce,hQ,bZ,eV,a5,du,gI,dp,gh,hr,aY,eD,bT,dI,dk,gH,fN,cT,cy,cb,gw,bS,gn,hH,cm,fM,hO,hp,br,cV,bg,gV,ex,fE,bI,bx,bj,g2,cp,fg,gi,hz,fR,ej,gZ,fO,e4,cv,cC,gt,fw,g3,cE,bc,bY,cf,ef,fT,gC,eK,dZ,eF,eI,be,eX,eJ,er,bd,ez,gl,eE,bf,dG,en,dw,gf,gm,hf,eS,hA,el,gG,hn,fV,g0,gc,cA,d3,fk,bR,go,bF,bW,cY,dV,cr,dH,ff,dR,bE,a7,hM,c7,fp,fP,bX,db,ca,da,dT,gU,eh,bM,d4,bz,e8,bh,eA,fS,dB,cX,b7,g7,fK,f5,eZ,dL,fA,b4,gJ,eq,hB,gr,gp,f8,cl,fL,cc,e7,hk,fx],[]⟩ w:=by
 conv=>arg 2;whnf
 have aL:=HV.out;simp only [jd,Bool.and_eq_true,decide_eq_true_eq,List.all_eq_true]at aL;obtain⟨aZ,aG⟩:=aL;have fC:=il aG;clear aG;obtain⟨so,sc,rfl⟩:=HI.out.form;have c1:=H1.out;have E:Hid (∀ u,w.grownBy u none->u.cell? ⟨A,0,none⟩=some (.int .i64 v.1)/\u.cell? ⟨A,1,none⟩=some (.int .i64 v.2.1)/\u.cell? ⟨A,2,none⟩=some (.int .i64 v.2.2)):=fun u hu=>⟨iq hu _ _ H6.out.1,iq hu _ _ H6.out.2.1,iq hu _ _ H6.out.2.2⟩
 go_wp2_with fail
 clear c1;go_loopw [11,12,13] (fun nv bv lv w'=>∃ (a:Option Addr) (c:Nat) (m:List Int) (G:List (Int × Int)),nv= .int .i64 G.length/\bv= .string (bs (G.flatMap lQ))/\lv= .slice a m.length c/\Hid (IntsAt w.heap.size w (.slice a m.length c) m)/\Hid (w.grownBy w' none)/\Hid (G++grp m=grp s)/\Hid (∀ x∈m,x∈s)/\G.length+m.length<=500/\(G.flatMap lQ).length<=20*G.length) (fun _ _ lv _=>lenOf lv)
 case atStart=>exact⟨so,sc,s,[],rfl,rfl,rfl,HI,il (iu _ _),il rfl,il (fun x b=>b),by simpa using aZ,by simp⟩
 case round=>
  obtain⟨a,c,m,G,rfl,rfl,rfl,af,z,aI,HM,hln,hgl⟩:=hrel;obtain⟨B,aE⟩:∃ B,B=wr:=⟨_,rfl⟩;rw [<-aE]at z ⊢;clear aE;cases m with
  | nil=>
   simp only [List.length_nil];have F:=eQ.out;simp only [kH,Bool.and_eq_true,decide_eq_true_eq]at F;obtain⟨v0,v1,v2⟩:=v;simp only at F E K;obtain⟨k0,rfl⟩:=Int.eq_ofNat_of_zero_le (show 0<=v0 by omega);obtain⟨k1,rfl⟩:=Int.eq_ofNat_of_zero_le F.1.2.1;obtain⟨k2,rfl⟩:=Int.eq_ofNat_of_zero_le F.2.1;have h0:k0<=5:=by omega
   have h1:k1<=3:=by omega
   have h2:k2<=500:=by omega
   clear F;have hGl:G.length<=500:=by omega
   have qG:(G.length:Int)<=500:=by omega
   have q0:(k0:Int)<=5:=by omega
   have q1:(k1:Int)<=3:=by omega
   have q2:(k2:Int)<=500:=by omega
   have eG:=mf G.length (by omega);have e0:=mf k0 (by omega);have e1:=mf k1 (by omega);have e2:=mf k2 (by omega);have fd:=il (fun u=>jK G.length u (by omega));have bB:=il (fun u=>jK k0 u (by omega));have hi:=il (fun u=>jK k1 u (by omega));have bO:=il (fun u=>jK k2 u (by omega));have cg:Hid (grp s=G):=by have:=aI.out;simp only [grp,List.append_nil]at this;exact this.symm
   have b0:=lK (n:=G.length) (by omega);have b1:=lK (n:=k0) (by omega);have b2:=lK (n:=k1) (by omega);have b3:=lK (n:=k2) (by omega);obtain⟨Y1,P⟩:∃ Y,X++jZ G.length=Y:=⟨_,rfl⟩;obtain⟨Y2,J⟩:∃ Y,Y1++G.flatMap lQ=Y:=⟨_,rfl⟩;obtain⟨Y3,O⟩:∃ Y,Y2++jZ k0=Y:=⟨_,rfl⟩;obtain⟨Y4,N⟩:∃ Y,Y3++jZ k1=Y:=⟨_,rfl⟩;obtain⟨q,L⟩:∃ Y,Y4++jZ k2=Y:=⟨_,rfl⟩;have V:Y1.length<=X.length+10:=by rw [<-P,List.length_append];omega
   have W:Y2.length<=X.length+10010:=by rw [<-J,List.length_append];omega
   have l3:Y3.length<=X.length+10020:=by rw [<-O,List.length_append];omega
   have l4:Y4.length<=X.length+10030:=by rw [<-N,List.length_append];omega
   have l5:q.length<=X.length+10040:=by rw [<-L,List.length_append];omega
   have y1:=ms P (by omega);have y2:=ms J (by omega);have y3:=ms O (by omega);have y4:=ms N (by omega);have y5:=ms L (by omega);have S:Hid (X++(mz s++mQ ((k0:Int),(k1:Int),(k2:Int)))=q):=by
    unfold Hid mz mQ jx;rw [cg.out,<-L,<-N,<-O,<-J,<-P];simp
   rw [S.out]at K;have aP:Hid (q.length<=2000000):=by unfold Hid;omega
   have av:Hid (∀ x∈q,x<256):=by
    unfold Hid;rw [<-S.out];intro x b;rcases List.mem_append.1 b with b | b
    ·exact hW x b
    ·unfold mz mQ at b;simp only [List.mem_append,List.mem_flatMap]at b;rcases b with (b | ⟨y,_,b⟩) | b | b | b
     ·exact k8 _ x b
     ·unfold lQ at b;rcases List.mem_append.1 b with b | b<;>exact k8 _ x b
     ·exact k8 _ x b
     ·exact k8 _ x b
     ·exact k8 _ x b
   clear P J O N L V W l3 l4 l5 S;have ai:=E.out B.drew (iz z.out);go_upto_region 26 with fail
   refine iA (fun u=>u.cell? ⟨A,0,none⟩=some (.int .i64 (k0:Int))/\u.cell? ⟨A,1,none⟩=some (.int .i64 (k1:Int))/\u.cell? ⟨A,2,none⟩=some (.int .i64 (k2:Int))) 22 (by kernel_rfl) (by kernel_rfl) ai ?_;intro p;refine ij 0 ?v1 rfl (by kernel_rfl) (fun c _ _ h=>k.out c _ _ _ _ h) (by kernel_rfl) ?y1 p ?_
   case y1=>(rintro u ⟨l,f,j⟩;go_simp;try rfl)
   simp only [Act.put,List.setIfInBounds_toArray];refine ij 1 ?v2 rfl (by kernel_rfl) (fun c _ _ h=>k.out c _ _ _ _ h) (by kernel_rfl) ?y2 p ?_
   case y2=>(rintro u ⟨l,f,j⟩;go_simp;try rfl)
   simp only [Act.put];refine ij 2 ?v3 rfl (by kernel_rfl) (fun c _ _ h=>k.out c _ _ _ _ h) (by kernel_rfl) ?y3 p ?_
   case y3=>(rintro u ⟨l,f,j⟩;go_simp;try rfl)
   simp only [Act.put];refine ij 5 ?v4 rfl (by kernel_rfl) (fun c _ _ h=>k.out c _ _ _ _ h) (by kernel_rfl) ?y4 p ?_
   case y4=>(rintro u ⟨l,f,j⟩;go_simp;try rfl)
   simp only [Act.put];refine ij 7 ?v5 rfl (by kernel_rfl) (fun c _ _ h=>k.out c _ _ _ _ h) (by kernel_rfl) ?y5 p ?_
   case y5=>(rintro u ⟨l,f,j⟩;go_simp;try rfl)
   simp only [Act.put];refine ij 8 ?v6 rfl (by kernel_rfl) (fun c _ _ h=>k.out c _ _ _ _ h) (by kernel_rfl) ?y6 p ?_
   case y6=>(rintro u ⟨l,f,j⟩;go_simp;try rfl)
   simp only [Act.put];refine ij 9 ?v7 rfl (by kernel_rfl) (fun c _ _ h=>k.out c _ _ _ _ h) (by kernel_rfl) ?y7 p ?_
   case y7=>(rintro u ⟨l,f,j⟩;go_simp;try rfl)
   simp only [Act.put];refine ij 12 ?v8 rfl (by kernel_rfl) (fun c _ _ h=>k.out c _ _ _ _ h) (by kernel_rfl) ?y8 p ?_
   case y8=>(rintro u ⟨l,f,j⟩;go_simp;try rfl)
   simp only [Act.put];refine ij 13 ?v9 rfl (by kernel_rfl) (fun c _ _ h=>k.out c _ _ _ _ h) (by kernel_rfl) ?y9 p ?_
   case y9=>(rintro u ⟨l,f,j⟩;go_simp;try rfl)
   simp only [Act.put];refine ij 14 ?v10 rfl (by kernel_rfl) (fun c _ _ h=>k.out c _ _ _ _ h) (by kernel_rfl) ?y10 p ?_
   case y10=>(rintro u ⟨l,f,j⟩;go_simp;try rfl)
   simp only [Act.put];refine ij 17 ?v11 rfl (by kernel_rfl) (fun c _ _ h=>k.out c _ _ _ _ h) (by kernel_rfl) ?y11 p ?_
   case y11=>(rintro u ⟨l,f,j⟩;go_simp;try rfl)
   simp only [Act.put];refine ij 18 ?v12 rfl (by kernel_rfl) (fun c _ _ h=>k.out c _ _ _ _ h) (by kernel_rfl) ?y12 p ?_
   case y12=>(rintro u ⟨l,f,j⟩;go_simp;try rfl)
   simp only [Act.put];refine ij 19 ?v13 rfl (by kernel_rfl) (fun c _ _ h=>k.out c _ _ _ _ h) (by kernel_rfl) ?y13 p ?_
   case y13=>(rintro u ⟨l,f,j⟩;go_simp;try rfl)
   simp only [Act.put];refine iw (i:=3) rfl (by kernel_rfl) (by kernel_rfl) (by kernel_rfl) ?_;intro K3 aW;have am:=il aW;clear aW;go_simp;refine(fd.out _).mono ?_;rintro e u1 ⟨rfl,f⟩;have ay:Hid (B.grownBy u1 none):=kD f;have H:=E.out u1 (ip z.out ay.out);clear f;refine am.out _ _ H ?_;clear am;try simp only [Act.put,List.setIfInBounds_toArray]
   refine ij 4 ?v14 rfl (by kernel_rfl) (fun c _ _ h=>k.out c _ _ _ _ h) (by kernel_rfl) ?y14 H ?_
   case y14=>(rintro u ⟨l,f,j⟩;go_simp;try rfl)
   simp only [Act.put,List.setIfInBounds_toArray];refine ij 6 ?v15 rfl (by kernel_rfl) (fun c _ _ h=>k.out c _ _ _ _ h) (by kernel_rfl) ?y15 H ?_
   case y15=>(rintro u ⟨l,f,j⟩;go_simp;try rfl)
   simp only [Act.put];refine iw (i:=10) rfl (by kernel_rfl) (by kernel_rfl) (by kernel_rfl) ?_;intro K10 az;have aN:=il az;clear az;go_simp;refine(bB.out _).mono ?_;rintro e u2 ⟨rfl,j⟩;have aF:Hid (B.grownBy u2 none):=ip ay.out j;have R:=E.out u2 (ip z.out aF.out);clear j;refine aN.out _ _ R ?_;clear aN;try simp only [Act.put,List.setIfInBounds_toArray]
   refine ij 11 ?v16 rfl (by kernel_rfl) (fun c _ _ h=>k.out c _ _ _ _ h) (by kernel_rfl) ?y16 R ?_
   case y16=>(rintro u ⟨l,f,j⟩;go_simp;try rfl)
   simp only [Act.put,List.setIfInBounds_toArray];refine iw (i:=15) rfl (by kernel_rfl) (by kernel_rfl) (by kernel_rfl) ?_;intro K15 ax;have al:=il ax;clear ax;go_simp;refine(hi.out _).mono ?_;rintro e u3 ⟨rfl,aA⟩;have aw:Hid (B.grownBy u3 none):=ip aF.out aA;have ag:=E.out u3 (ip z.out aw.out);clear aA;refine al.out _ _ ag ?_;clear al;try simp only [Act.put,List.setIfInBounds_toArray]
   refine ij 16 ?v17 rfl (by kernel_rfl) (fun c _ _ h=>k.out c _ _ _ _ h) (by kernel_rfl) ?y17 ag ?_
   case y17=>(rintro u ⟨l,f,j⟩;go_simp;try rfl)
   simp only [Act.put,List.setIfInBounds_toArray];refine iw (i:=20) rfl (by kernel_rfl) (by kernel_rfl) (by kernel_rfl) ?_;intro K20 aM;have aQ:=il aM;clear aM;go_simp;refine(bO.out _).mono ?_;rintro e D ⟨rfl,aB⟩;have aU:Hid (B.grownBy D none):=ip aw.out aB;have T:=E.out D (ip z.out aU.out);clear aB;refine aQ.out _ _ T ?_;clear aQ;try simp only [Act.put,List.setIfInBounds_toArray]
   refine ij 21 ?v18 rfl (by kernel_rfl) (fun c _ _ h=>k.out c _ _ _ _ h) (by kernel_rfl) ?y18 T ?_
   case y18=>(rintro u ⟨l,f,j⟩;go_simp;try rfl)
   simp only [Act.put,List.setIfInBounds_toArray];refine iI rfl (by kernel_rfl) (by kernel_rfl) (by kernel_rfl) ?_;go_simp;clear p H R ag T y1 y2 y3 y4 y5 ai;have U:=il (CJ (bs q) D (by rw [rZ];have:=aP.out;omega));rw [yf av.out]at U;have hcl:lq q<4294967296:=by
    unfold lq;exact Nat.xor_lt_two_pow (n:=32) (by omega) (zD _ _ (by omega) av.out)
   have hm:Hid (leB 4 (lq q)=[lq q % 256,lq q / 256 % 256,lq q / 65536 % 256,lq q / 16777216]):=by
    unfold Hid;generalize lq q=C at hcl ⊢;simp only [leB,List.cons.injEq,and_true,true_and];omega
   generalize lq q=C at*;go_wp2_with fail
   refine U.out.mono ?_;clear U;rintro e u5 ⟨rfl,ds⟩;obtain rfl:=ds.symm;have hcv:(convert 147 9 (.slice (some ⟨D.heap.size,0,none⟩) 4 4)).run Tryz.prog (D.alloc (.cells #[.int .u8 ((C:Int) % 256),.int .u8 ((C:Int) / 256 % 256),.int .u8 ((C:Int) / 65536 % 256),.int .u8 ((C:Int) / 16777216)] 5))= .ok (.string (bs (leB 4 C))) (D.alloc (.cells #[.int .u8 ((C:Int) % 256),.int .u8 ((C:Int) / 256 % 256),.int .u8 ((C:Int) / 65536 % 256),.int .u8 ((C:Int) / 16777216)] 5)):=by
    rw [hm.out];exact CD (x0:=C % 256) (x1:=C / 256 % 256) (x2:=C / 65536 % 256) (x3:=C / 16777216) (heap_alloc_new D _)
   have gW:Hid ((leB 4 C).length=4):=o8 4 C;obtain⟨Y6,ah⟩:∃ Y,q++leB 4 C=Y:=⟨_,rfl⟩;have y6:=ms ah (by have:=aP.out;have:=gW.out;omega);rw [ah]at K;clear ah;go_wp2_with fail
   exact K.out _ (ir (ip z.out aU.out))
  | cons t r=>
   have cQ:0<(t::r).length:=by simp
   have hI:=af.out;obtain⟨ao',cp',e',gu,hc⟩:=hI;simp only [Value.slice.injEq,true_and]at e';obtain⟨rfl,rfl⟩:=e';obtain⟨g,o,rfl,hgb,ac⟩:=hc 0 cQ;simp only [List.getElem_cons_zero,Nat.add_zero]at ac;have fb:=iq z.out _ _ ac;have ht:=fC.out t (HM.out t (by simp));have eO:=il (zL t r (.slice (some ⟨g,o,none⟩) (t::r).length c) B ((af.out.pres (iq z.out)).mono z.out.size) (by omega));have gF:=Cq (t::r);have hn1:1<=lD (t::r):=by rw [nN];omega
   have aV:((t::r).drop (lD (t::r))).length=(t::r).length - lD (t::r):=by simp
   have cD:=il (zf t r);clear hc ac;obtain⟨t,rfl⟩:=Int.eq_ofNat_of_zero_le ht.1;generalize dz:lD ((t:Int)::r)=n at*;clear dz;generalize hL:(t:Int)::r=RL at*;clear hL;have q0:(0:Int)<RL.length:=by omega
   have q1:(n:Int)<=RL.length:=by omega
   have q2:(0:Int)<=(n:Int):=by omega
   have q3:(n:Int)<=c:=by omega
   have q4:RL.length<=c:=gu;have q5:(t:Int)<=63:=ht.2;have q6:(n:Int)<=500:=by omega
   have q7:(G.length:Int)<=500:=by omega
   have aK:=il (fun u=>jK t u (by omega));have aT:=il (fun u=>jK n u (by omega));have eT:=mf t (by omega);have eN:=mf n (by omega);have bt:=lK (n:=t) (by omega);have bn:=lK (n:=n) (by omega);obtain⟨Z1,M⟩:∃ Y,G.flatMap lQ++jZ t=Y:=⟨_,rfl⟩;obtain⟨Z2,I⟩:∃ Y,Z1++jZ n=Y:=⟨_,rfl⟩;have V:Z1.length<=20*G.length+10:=by rw [<-M,List.length_append];omega
   have W:Z2.length<=20*G.length+20:=by rw [<-I,List.length_append];omega
   have z1:=ms M (by omega);have z2:=ms I (by omega);have HZ:Hid ((G++[((t:Int),(n:Int))]).flatMap lQ=Z2):=by
    unfold Hid;rw [<-I,<-M];simp [lQ,jx]
   have gs:=il aV;have bV:Hid (∀ (w':World),Hid (w.grownBy w' none)->∃ (a:Option Addr) (c_1:Nat) (m:List Int) (G':List (Int × Int)),Value.int .i64 ((G.length:Int)+1)= .int .i64 G'.length/\Value.string (bs Z2)= .string (bs (G'.flatMap lQ))/\Value.slice (if c=n then some { block:=g,off:=o} else some { block:=g,off:=o+n}) (RL.length - n) (c - n)= .slice a m.length c_1/\Hid (IntsAt w.heap.size w (.slice a m.length c_1) m)/\Hid (w.grownBy w' none)/\Hid (G'++grp m=grp s)/\Hid (∀ x∈m,x∈s)/\G'.length+m.length<=500/\(G'.flatMap lQ).length<=20*G'.length):=by
    intro w' g5;have Z:=gs.out;refine⟨_,c - n,RL.drop n,G++[((t:Int),(n:Int))],by simp,by rw [HZ.out],by rw [Z],?_,g5,?_,?_,by rw [Z,List.length_append];simp;omega,by rw [HZ.out,List.length_append];simp;omega⟩
    ·rw [Z];exact il (af.out.tail n gF _ (fun h=>by rw [if_neg (by omega)]))
    ·unfold Hid;rw [<-aI.out,cD.out];simp
    ·exact il (fun x b=>HM.out x (List.mem_of_mem_drop b))
   clear M I V W aV HZ;go_upto_region 23 with (go_at_call 68;refine eO.out.mono ?_;rintro e w6 ⟨rfl,ab⟩;have gd:=il (ip z.out ab);have c6:=iq ab _ _ fb;clear ab)
   go_upto_region 24 with (go_at_call 66;first | (refine(aK.out _).mono ?_;clear aK;rintro e w7 ⟨rfl,aD⟩;have ew:=il (ip gd.out aD);clear aD) | (refine(aT.out _).mono ?_;clear aT;rintro e w8 ⟨rfl,aR⟩;have d2:=il (ip ew.out aR);clear aR))
   go_wp2_with fail
   go_roundw
   case rel=>exact bV.out _ d2
   case measure=>simp [lenOf];omega
theorem Dx(i:Ins):∀ x∈mu i,x<256:=by
 intro x a;unfold mu jx at a;simp only [List.mem_append]at a;rcases a with a | a | a | a<;>exact k8 _ x a
theorem xt(c:List Ins):∀ x∈jU c,x<256:=by
 intro x a;unfold jU jx at a;rcases List.mem_append.1 a with a | a
 ·exact k8 _ x a
 ·obtain⟨i,_,b⟩:=List.mem_flatMap.1 a;exact Dx i x b
theorem D4{w:World}{n1 T:Nat}{X:List Nat}{p:List (List Ins)}{s:List Int}{v:Int × Int × Int}{tv sv:Value}(HX:Hid ([82,82,1]++jZ p.length=X))(HP:Hid (ProgAt w (.agg #[tv]) p))(hpl:p.length<=4)(eK:Hid (∀ c∈p,c.length<=16/\∀ i∈c,kC i))
  (HI:Hid (IntsAt w.heap.size w sv s)) (HV:Hid (jd s=true)) (gw:Hid (kH v=true)) (H0:Hid (w.cell? ⟨n1,0,none⟩=some tv)) (H1:Hid (w.cell? ⟨n1,1,none⟩=some sv)) (H6:Hid (w.cell? ⟨T,0,none⟩=some (.int .i64 v.1)/\w.cell? ⟨T,1,none⟩=some (.int .i64 v.2.1)/\w.cell? ⟨T,2,none⟩=some (.int .i64 v.2.2)))
  {Q:Exit->Act->World->Prop} {c0 c2 c3 c4 c5 c7 c8 c9 gP h9 fV gG eQ fE es fD hF eT hm eH hs hi fz hg fu gm eF fN ev h6 ha gQ f2 h0 gV gX f0 hY hr gI fC hN ib fJ fj ic fb gz ex fS hJ fR hp h1 et gp e5 fY fO hI g7 fF fs fh hE e4 hy h7 fm g6 ia hZ eJ fG eD hM gl g1 eX eN eG hR fo gK hq h2 hb gd hO g8 gC fr fx hD gS hS fy ez fa fk gb he hG gv f7 gr gs eB gA gt gk eA gn hv gq eC fW gg fT ho hw hU gx h4 gf hH hW hf hQ hn ft f8 gL eZ hA eV e7 fI f5 fp fX gJ f3 eU ey h8 fK gO g9 e8 fM fg fL f4 hL gc eY f9 eO gF eE go hd fU fH fd hT g4 hj gB fZ gW fc hK gj h5 hC hB hl fl g5 fi gE hV gU:Value} (b:Hid (∀ c a d v w,Q (.panic c) (Act.put a (some d) v) w->Q (.panic c) a w))
  (HQ:Hid (∀ {z0 z1 z4 z5 z6 z7 z8 z9 cy dD dr bv bq cU dW bm bO cp cS a6 cu b6 eo bI dv ce aD dc cD df cK b5 cY d4 cG dy bB bQ dh ci aX cA ch aL cZ dR aB a9 cl bC ap b9 aQ a4 bi dI dT aR ep di bK er dL dM eg dp ea ec dV dO aT bJ cC bd bw ef cq bu cH ax d2 dw ek br d8 cF bj dg cI aq aZ bT cm b8 ck cv au dG cT a1 cM dF aY dm bW dU dx ay dK cW az aK c6 a8 bk dZ bc bn bz bU b7 cj cb bV aj bX bP bt cw db d0 cs aN ed cd dE en dt dB a3 bS ei aJ dY aO cr aG dP cn du bL dl d1 bo dq dN eh ar ds bG ao aH de bR eq d5 av dC dX an dS cf d7 bA el aw aV bf aM cO aF dn bZ em d3:Value} (w':World),w.grownBy w' none->Q .ret ⟨#[z0,z1,.string (bs ((X++p.flatMap jU)++(mz s++mQ v)++leB 4 (lq ((X++p.flatMap jU)++(mz s++mQ v))))),.int .i64 0,z4,z5,z6,z7,z8,z9,cy,dD,dr,bv,bq,cU,dW,bm,bO,cp,cS,a6,cu,b6,eo,bI,dv,ce,aD,dc,cD,df,cK,b5,cY,d4,cG,dy,bB,bQ,dh,ci,aX,cA,ch,aL,cZ,dR,aB,a9,cl,bC,ap,b9,aQ,a4,bi,dI,dT,aR,ep,di,bK,er,dL,dM,eg,dp,ea,ec,dV,dO,aT,bJ,cC,bd,bw,ef,cq,bu,cH,ax,d2,dw,ek,br,d8,cF,bj,dg,cI,aq,aZ,bT,cm,b8,ck,cv,au,dG,cT,a1,cM,dF,aY,dm,bW,dU,dx,ay,dK,cW,az,aK,c6,a8,bk,dZ,bc,bn,bz,bU,b7,cj,cb,bV,aj,bX,bP,bt,cw,db,d0,cs,aN,ed,cd,dE,en,dt,dB,a3,bS,ei,aJ,dY,aO,cr,aG,dP,cn,du,bL,dl,d1,bo,dq,dN,eh,ar,ds,bG,ao,aH,de,bR,eq,d5,av,dC,dX,an,dS,cf,d7,bA,el,aw,aV,bf,aM,cO,aF,dn,bZ,em,d3],[]⟩ w')):
  Code.wp Tryz.prog (oO Tryz.f40 8) Q ⟨#[c0,.pointer (some ⟨n1,0,none⟩),c2,c3,c4,c5,.pointer (some ⟨T,0,none⟩),c7,c8,c9,gP,h9,fV,gG,eQ,fE,es,fD,hF,eT,hm,eH,hs,hi,fz,hg,fu,gm,eF,fN,ev,h6,ha,gQ,f2,h0,gV,gX,f0,hY,hr,gI,fC,hN,ib,fJ,fj,ic,fb,gz,ex,fS,hJ,fR,hp,h1,et,gp,e5,fY,fO,hI,g7,fF,fs,fh,hE,e4,hy,h7,fm,g6,ia,hZ,eJ,fG,eD,hM,gl,g1,eX,eN,eG,hR,fo,gK,hq,h2,hb,gd,hO,g8,gC,fr,fx,hD,gS,hS,fy,ez,fa,fk,gb,he,hG,gv,f7,gr,gs,eB,gA,gt,gk,eA,gn,hv,gq,eC,fW,gg,fT,ho,hw,hU,gx,h4,gf,hH,hW,hf,hQ,hn,ft,f8,gL,eZ,hA,eV,e7,fI,f5,fp,fX,gJ,f3,eU,ey,h8,fK,gO,g9,e8,fM,fg,fL,f4,hL,gc,eY,f9,eO,gF,eE,go,hd,fU,fH,fd,hT,g4,hj,gB,fZ,gW,fc,hK,gj,h5,hC,hB,hl,fl,g5,fi,gE,hV,gU],[]⟩ w:=by
 conv=>arg 2;whnf
 obtain⟨ta,tc,dQ⟩:=HP.out.form;simp only [Value.agg.injEq,Array.mk.injEq,List.cons.injEq,and_true]at dQ;subst dQ;have qp:(p.length:Int)<=4:=by omega
 have bp:=lK (n:=p.length) (by omega);have hX:X.length<=20:=by rw [<-HX.out,List.length_append];simp;omega
 have ie:∀ x∈X,x<256:=by
  rw [<-HX.out];intro x z;rcases List.mem_append.1 z with z | z
  ·simp only [List.mem_cons,List.not_mem_nil,or_false]at z;omega
  ·exact k8 _ x z
 have cQ:=il (fun u=>jK p.length u (by omega));have eP:=mf p.length (by omega);have eW:Op.stringOp .add (⟨#[82,82,1]⟩:ByteArray) (bs (jZ p.length))=pure (.string (bs X)):=by
  have h3:(⟨#[82,82,1]⟩:ByteArray)=bs [82,82,1]:=by decide+kernel
  rw [h3];exact ms HX.out (by simp;omega)
 have fn:=H0.out;go_wp2_with (go_at_call 66;refine(cQ.out _).mono ?_;clear cQ;rintro e w4 ⟨rfl,M⟩;have bg:=il M;clear M)
 clear eW eP fn;go_loopw [7,8] (fun xv iv w'=>∃ (t:Nat) (Z:List Nat),t<=p.length/\iv= .int .i64 t/\xv= .string (bs Z)/\Hid (Z=X++(p.take t).flatMap jU)/\Z.length<=20+650*t/\Hid (w.grownBy w' none)) (fun _ iv _=>p.length - (intOf iv).toNat)
 case atStart=>exact⟨0,X,Nat.zero_le _,rfl,rfl,il (by simp),by omega,bg⟩
 case round=>
  clear bg;obtain⟨t,Z,ht,rfl,rfl,HZ,hzl,r⟩:=hrel;obtain⟨w5,cN⟩:∃ w5,w5=wr:=⟨_,rfl⟩;rw [<-cN]at r ⊢;clear cN;have k0:=iq r.out _ _ H0.out;by_cases ad:t<p.length
  ·have t0:(0:Int)<=(t:Int):=by omega
   have t1:(t:Int)<p.length:=by omega
   obtain⟨pg,po,gY,rv,aE,ej⟩:=(show ∃ g o,ta=some ⟨g,o,none⟩/\∃ rv,w.cell? ⟨g,o+t,none⟩=some rv/\CodeAt w rv p[t] from by
    obtain⟨ao',cap',e,hh⟩:=HP.out;simp only [Value.agg.injEq,Array.mk.injEq,List.cons.injEq,Value.slice.injEq,and_true,true_and]at e;obtain⟨g,o,e1,rv,e2,e3⟩:=hh t ad;exact⟨g,o,by rw [e.1];exact e1,rv,e2,e3⟩)
   subst gY;obtain⟨hcl,be⟩:=eK.out p[t] (List.getElem_mem ad);have eS:Hid ((p.take (t+1)).flatMap jU=(p.take t).flatMap jU++jU p[t]):=by
    unfold Hid;rw [List.take_succ_eq_append_getElem ad,List.flatMap_append,List.flatMap_cons,List.flatMap_nil,List.append_nil]
   generalize p[t]=c at*;have fw:=il be;have g3:=ej;obtain⟨ca,cc,rfl,aS⟩:=ej;have eR:=il aS;have r5:=iq r.out _ _ aE;have qc:(c.length:Int)<=16:=by omega
   have bh:=il (fun u=>jK c.length u (by omega));have eL:=mf c.length (by omega);have bl:=lK (n:=c.length) (by omega);obtain⟨G,S⟩:∃ Y,Z++jZ c.length=Y:=⟨_,rfl⟩;have l1:G.length<=Z.length+10:=by rw [<-S,List.length_append];omega
   have z1:=ms S (by omega);have eI:=il S;have e6:Hid (G.length<=30+650*t):=by unfold Hid;omega
   clear aS g3 aE be S;go_upto_region 14 with (go_at_call 66;refine(bh.out _).mono ?_;clear bh;rintro e w6 ⟨rfl,dz⟩;have y:=il (ip r.out dz);clear dz)
   clear k0 r5 z1 eL;go_wp2_with fail
   go_loopw [7,10] (fun xv kv w'=>∃ (k:Nat) (V:List Nat),k<=c.length/\kv= .int .i64 k/\xv= .string (bs V)/\Hid (V=G++(c.take k).flatMap mu)/\V.length<=G.length+40*k/\Hid (w.grownBy w' none)) (fun _ kv _=>c.length - (intOf kv).toNat)
   case atStart=>exact⟨0,G,Nat.zero_le _,rfl,rfl,il (by simp),by omega,y⟩
   case round=>
    clear y;obtain⟨k,V,hk,rfl,rfl,aC,hvl,y⟩:=hrel;obtain⟨w6,ak⟩:∃ w6,w6=wr:=⟨_,rfl⟩;rw [<-ak]at y ⊢;clear ak;by_cases af:k<c.length
    ·have t2:(0:Int)<=(k:Int):=by omega
     have t3:(k:Int)<c.length:=by omega
     obtain⟨A,B,rfl,x0,x1,x2,x3⟩:=eR.out k af;obtain⟨J,L,I,K⟩:=fw.out c[k] (List.getElem_mem af);have dJ:Hid ((c.take (k+1)).flatMap mu=(c.take k).flatMap mu++mu c[k]):=by
      unfold Hid;rw [List.take_succ_eq_append_getElem af,List.flatMap_append,List.flatMap_cons,List.flatMap_nil,List.append_nil]
     have gM:Hid (kC c[k]):=⟨J,L,I,K⟩;generalize c[k]=ii at*;obtain⟨oo,aa,bb,F⟩:=ii;simp only at J L I K x0 x1 x2 x3;obtain⟨E,rfl⟩:=Int.eq_ofNat_of_zero_le J.1;obtain⟨D,rfl⟩:=Int.eq_ofNat_of_zero_le L.1;obtain⟨C,rfl⟩:=Int.eq_ofNat_of_zero_le I.1;have q0:(E:Int)<=11:=J.2;have q1:(D:Int)<=3:=L.2;have q2:(C:Int)<=3:=I.2;have H:Hid (∀ u,w.grownBy u none->u.cell? ⟨A,B+k*4,none⟩=some (.int .i64 (E:Int))/\u.cell? ⟨A,B+k*4+1,none⟩=some (.int .i64 (D:Int))/\u.cell? ⟨A,B+k*4+2,none⟩=some (.int .i64 (C:Int))/\u.cell? ⟨A,B+k*4+3,none⟩=some (.int .i64 F)):=fun u hu=>⟨iq hu _ _ x0,iq hu _ _ x1,iq hu _ _ x2,iq hu _ _ x3⟩
     have hz:zig F<18446744073709551616:=by unfold zig;split<;>omega
     have ga:=il (fun u=>jK E u (by omega));have fA:=il (fun u=>jK D u (by omega));have eu:=il (fun u=>jK C u (by omega));have gT:=il (fun u=>AK F u K.1 K.2);have gh:=il (fun u=>jK (zig F) u hz);have e0:=mf E (by omega);have e1:=mf D (by omega);have e2:=mf C (by omega);have b1:=lK (n:=E) (by omega);have b2:=lK (n:=D) (by omega);have b3:=lK (n:=C) (by omega);have b4:=lK hz;obtain⟨V1,N⟩:∃ Y,V++jZ E=Y:=⟨_,rfl⟩;obtain⟨V2,O⟩:∃ Y,V1++jZ D=Y:=⟨_,rfl⟩;obtain⟨V3,R⟩:∃ Y,V2++jZ C=Y:=⟨_,rfl⟩;obtain⟨V4,P⟩:∃ Y,V3++jZ (zig F)=Y:=⟨_,rfl⟩;have l1':V1.length<=V.length+10:=by rw [<-N,List.length_append];omega
     have l2':V2.length<=V.length+20:=by rw [<-O,List.length_append];omega
     have l3':V3.length<=V.length+30:=by rw [<-R,List.length_append];omega
     have l4':V4.length<=V.length+40:=by rw [<-P,List.length_append];omega
     have y1:=ms N (by omega);have y2:=ms O (by omega);have y3:=ms R (by omega);have y4:=ms P (by omega);have g0:Hid (V4=G++(c.take (k+1)).flatMap mu):=by
      unfold Hid;rw [dJ.out,<-P,<-R,<-O,<-N,aC.out];simp [mu,jx]
     have am:=H.out w6.drew (iz y.out);generalize zig F=zn at*;clear N O R P x0 x1 x2 x3 J L I K hz dJ gM;go_upto_region 17 with fail
     refine iA (fun u=>u.cell? ⟨A,B+k*4,none⟩=some (.int .i64 (E:Int))/\u.cell? ⟨A,B+k*4+1,none⟩=some (.int .i64 (D:Int))/\u.cell? ⟨A,B+k*4+2,none⟩=some (.int .i64 (C:Int))/\u.cell? ⟨A,B+k*4+3,none⟩=some (.int .i64 F)) 33 (by kernel_rfl) (by kernel_rfl) am ?_;intro q;refine ij 0 ?v1 rfl (by kernel_rfl) (fun c _ _ h=>b.out c _ _ _ _ h) (by kernel_rfl) ?y1 q ?_
     case y1=>(rintro u ⟨f,j,l,m⟩;go_simp;try rfl)
     simp only [Act.put,List.setIfInBounds_toArray];refine ij 1 ?v2 rfl (by kernel_rfl) (fun c _ _ h=>b.out c _ _ _ _ h) (by kernel_rfl) ?y2 q ?_
     case y2=>(rintro u ⟨f,j,l,m⟩;go_simp;try rfl)
     simp only [Act.put];refine ij 2 ?v3 rfl (by kernel_rfl) (fun c _ _ h=>b.out c _ _ _ _ h) (by kernel_rfl) ?y3 q ?_
     case y3=>(rintro u ⟨f,j,l,m⟩;go_simp;try rfl)
     simp only [Act.put];refine ij 3 ?v4 rfl (by kernel_rfl) (fun c _ _ h=>b.out c _ _ _ _ h) (by kernel_rfl) ?y4 q ?_
     case y4=>(rintro u ⟨f,j,l,m⟩;go_simp;try rfl)
     simp only [Act.put];refine ij 4 ?v5 rfl (by kernel_rfl) (fun c _ _ h=>b.out c _ _ _ _ h) (by kernel_rfl) ?y5 q ?_
     case y5=>(rintro u ⟨f,j,l,m⟩;go_simp;try rfl)
     simp only [Act.put];refine ij 5 ?v6 rfl (by kernel_rfl) (fun c _ _ h=>b.out c _ _ _ _ h) (by kernel_rfl) ?y6 q ?_
     case y6=>(rintro u ⟨f,j,l,m⟩;go_simp;try rfl)
     simp only [Act.put];refine ij 6 ?v7 rfl (by kernel_rfl) (fun c _ _ h=>b.out c _ _ _ _ h) (by kernel_rfl) ?y7 q ?_
     case y7=>(rintro u ⟨f,j,l,m⟩;go_simp;try rfl)
     simp only [Act.put];refine ij 9 ?v8 rfl (by kernel_rfl) (fun c _ _ h=>b.out c _ _ _ _ h) (by kernel_rfl) ?y8 q ?_
     case y8=>(rintro u ⟨f,j,l,m⟩;go_simp;try rfl)
     simp only [Act.put];refine ij 10 ?v9 rfl (by kernel_rfl) (fun c _ _ h=>b.out c _ _ _ _ h) (by kernel_rfl) ?y9 q ?_
     case y9=>(rintro u ⟨f,j,l,m⟩;go_simp;try rfl)
     simp only [Act.put];refine ij 11 ?v10 rfl (by kernel_rfl) (fun c _ _ h=>b.out c _ _ _ _ h) (by kernel_rfl) ?y10 q ?_
     case y10=>(rintro u ⟨f,j,l,m⟩;go_simp;try rfl)
     simp only [Act.put];refine ij 12 ?v11 rfl (by kernel_rfl) (fun c _ _ h=>b.out c _ _ _ _ h) (by kernel_rfl) ?y11 q ?_
     case y11=>(rintro u ⟨f,j,l,m⟩;go_simp;try rfl)
     simp only [Act.put];refine ij 13 ?v12 rfl (by kernel_rfl) (fun c _ _ h=>b.out c _ _ _ _ h) (by kernel_rfl) ?y12 q ?_
     case y12=>(rintro u ⟨f,j,l,m⟩;go_simp;try rfl)
     simp only [Act.put];refine ij 14 ?v13 rfl (by kernel_rfl) (fun c _ _ h=>b.out c _ _ _ _ h) (by kernel_rfl) ?y13 q ?_
     case y13=>(rintro u ⟨f,j,l,m⟩;go_simp;try rfl)
     simp only [Act.put];refine ij 17 ?v14 rfl (by kernel_rfl) (fun c _ _ h=>b.out c _ _ _ _ h) (by kernel_rfl) ?y14 q ?_
     case y14=>(rintro u ⟨f,j,l,m⟩;go_simp;try rfl)
     simp only [Act.put];refine ij 18 ?v15 rfl (by kernel_rfl) (fun c _ _ h=>b.out c _ _ _ _ h) (by kernel_rfl) ?y15 q ?_
     case y15=>(rintro u ⟨f,j,l,m⟩;go_simp;try rfl)
     simp only [Act.put];refine ij 19 ?v16 rfl (by kernel_rfl) (fun c _ _ h=>b.out c _ _ _ _ h) (by kernel_rfl) ?y16 q ?_
     case y16=>(rintro u ⟨f,j,l,m⟩;go_simp;try rfl)
     simp only [Act.put];refine ij 20 ?v17 rfl (by kernel_rfl) (fun c _ _ h=>b.out c _ _ _ _ h) (by kernel_rfl) ?y17 q ?_
     case y17=>(rintro u ⟨f,j,l,m⟩;go_simp;try rfl)
     simp only [Act.put];refine ij 21 ?v18 rfl (by kernel_rfl) (fun c _ _ h=>b.out c _ _ _ _ h) (by kernel_rfl) ?y18 q ?_
     case y18=>(rintro u ⟨f,j,l,m⟩;go_simp;try rfl)
     simp only [Act.put];refine ij 22 ?v19 rfl (by kernel_rfl) (fun c _ _ h=>b.out c _ _ _ _ h) (by kernel_rfl) ?y19 q ?_
     case y19=>(rintro u ⟨f,j,l,m⟩;go_simp;try rfl)
     simp only [Act.put];refine ij 25 ?v20 rfl (by kernel_rfl) (fun c _ _ h=>b.out c _ _ _ _ h) (by kernel_rfl) ?y20 q ?_
     case y20=>(rintro u ⟨f,j,l,m⟩;go_simp;try rfl)
     simp only [Act.put];refine ij 26 ?v21 rfl (by kernel_rfl) (fun c _ _ h=>b.out c _ _ _ _ h) (by kernel_rfl) ?y21 q ?_
     case y21=>(rintro u ⟨f,j,l,m⟩;go_simp;try rfl)
     simp only [Act.put];refine ij 27 ?v22 rfl (by kernel_rfl) (fun c _ _ h=>b.out c _ _ _ _ h) (by kernel_rfl) ?y22 q ?_
     case y22=>(rintro u ⟨f,j,l,m⟩;go_simp;try rfl)
     simp only [Act.put];refine ij 28 ?v23 rfl (by kernel_rfl) (fun c _ _ h=>b.out c _ _ _ _ h) (by kernel_rfl) ?y23 q ?_
     case y23=>(rintro u ⟨f,j,l,m⟩;go_simp;try rfl)
     simp only [Act.put];refine ij 29 ?v24 rfl (by kernel_rfl) (fun c _ _ h=>b.out c _ _ _ _ h) (by kernel_rfl) ?y24 q ?_
     case y24=>(rintro u ⟨f,j,l,m⟩;go_simp;try rfl)
     simp only [Act.put];refine iw (i:=7) rfl (by kernel_rfl) (by kernel_rfl) (by kernel_rfl) ?_;intro K7 cB;have bE:=il cB;clear cB;go_simp;refine(ga.out _).mono ?_;rintro e u1 ⟨rfl,cx⟩;have bM:Hid (w6.grownBy u1 none):=kD cx;have ab:=H.out u1 (ip y.out bM.out);clear cx;refine bE.out _ _ ab ?_;clear bE;try simp only [Act.put,List.setIfInBounds_toArray]
     refine ij 8 ?v25 rfl (by kernel_rfl) (fun c _ _ h=>b.out c _ _ _ _ h) (by kernel_rfl) ?y25 ab ?_
     case y25=>(rintro u ⟨f,j,l,m⟩;go_simp;try rfl)
     simp only [Act.put,List.setIfInBounds_toArray];refine iw (i:=15) rfl (by kernel_rfl) (by kernel_rfl) (by kernel_rfl) ?_;intro K15 bH;have aA:=il bH;clear bH;go_simp;refine(fA.out _).mono ?_;rintro e u2 ⟨rfl,da⟩;have cV:Hid (w6.grownBy u2 none):=ip bM.out da;have W:=H.out u2 (ip y.out cV.out);clear da;refine aA.out _ _ W ?_;clear aA;try simp only [Act.put,List.setIfInBounds_toArray]
     refine ij 16 ?v26 rfl (by kernel_rfl) (fun c _ _ h=>b.out c _ _ _ _ h) (by kernel_rfl) ?y26 W ?_
     case y26=>(rintro u ⟨f,j,l,m⟩;go_simp;try rfl)
     simp only [Act.put,List.setIfInBounds_toArray];refine iw (i:=23) rfl (by kernel_rfl) (by kernel_rfl) (by kernel_rfl) ?_;intro K23 a7;have bD:=il a7;clear a7;go_simp;refine(eu.out _).mono ?_;rintro e u3 ⟨rfl,dj⟩;have bF:Hid (w6.grownBy u3 none):=ip cV.out dj;have U:=H.out u3 (ip y.out bF.out);clear dj;refine bD.out _ _ U ?_;clear bD;try simp only [Act.put,List.setIfInBounds_toArray]
     refine ij 24 ?v27 rfl (by kernel_rfl) (fun c _ _ h=>b.out c _ _ _ _ h) (by kernel_rfl) ?y27 U ?_
     case y27=>(rintro u ⟨f,j,l,m⟩;go_simp;try rfl)
     simp only [Act.put,List.setIfInBounds_toArray];refine iw (i:=30) rfl (by kernel_rfl) (by kernel_rfl) (by kernel_rfl) ?_;intro K30 al;have cL:=il al;clear al;go_simp;refine(gT.out _).mono ?_;rintro e u3b ⟨rfl,ff⟩;obtain rfl:=ff.symm;refine cL.out _ _ U ?_;clear cL;try simp only [Act.put,List.setIfInBounds_toArray]
     refine iw (i:=31) rfl (by kernel_rfl) (by kernel_rfl) (by kernel_rfl) ?_;intro K31 dk;have dA:=il dk;clear dk;go_simp;refine(gh.out _).mono ?_;rintro e u4 ⟨rfl,M⟩;have ee:Hid (w6.grownBy u4 none):=ip bF.out M;have ac:=H.out u4 (ip y.out ee.out);clear M;refine dA.out _ _ ac ?_;clear dA;try simp only [Act.put,List.setIfInBounds_toArray]
     refine ij 32 ?v28 rfl (by kernel_rfl) (fun c _ _ h=>b.out c _ _ _ _ h) (by kernel_rfl) ?y28 ac ?_
     case y28=>(rintro u ⟨f,j,l,m⟩;go_simp;try rfl)
     simp only [Act.put,List.setIfInBounds_toArray];refine iI rfl (by kernel_rfl) (by kernel_rfl) (by kernel_rfl) ?_;go_simp;clear q ab W U ac y1 y2 y3 y4 am;go_wp2_with fail
     go_roundw
     case rel=>exact⟨k+1,V4,by omega,by go_num,rfl,g0,by omega,il (ip y.out ee.out)⟩
     case measure=>simp [intOf];omega
    ·have t3:(c.length:Int)<=(k:Int):=by omega
     have id:Hid (V=X++(p.take (t+1)).flatMap jU):=by
      unfold Hid;rw [aC.out,List.take_of_length_le (show c.length<=k by omega),eS.out,<-eI.out,HZ.out];simp [jU,jx]
     have gH:V.length<=20+650*(t+1):=by have:=e6.out;omega
     go_wp2_with fail
     go_roundw
     case rel=>exact⟨t+1,V,by omega,by go_num,rfl,id,gH,y⟩
     case measure=>simp [intOf];omega
  ·have t1:(p.length:Int)<=(t:Int):=by omega
   have cR:Hid (Z=X++p.flatMap jU):=by
    unfold Hid;rw [HZ.out,List.take_of_length_le (by omega)]
   have g2:Z.length<=1000000:=by omega
   have fB:Hid (∀ x∈Z,x<256):=by
    unfold Hid;rw [cR.out]
    intro x z;rcases List.mem_append.1 z with z | z
    ·exact ie x z
    ·obtain⟨c,_,hc⟩:=List.mem_flatMap.1 z;exact xt c x hc
   rw [<-cR.out]at HQ;go_upto_if 71 with fail
   refine wp_cond_false rfl ?_;refine wp_exit ?_;refine ‹∀ a w,Code.wp Tryz.prog _ _ a w->_› _ _ ?_;refine En g2 fB.out ((HI.out.pres (iq r.out)).mono r.out.size) HV gw (iq r.out _ _ H1.out) ⟨iq r.out _ _ H6.out.1,iq r.out _ _ H6.out.2.1,iq r.out _ _ H6.out.2.2⟩ b ?_;intro z0 z1 z4 z5 z6 z7 z8 z9 cy dD dr bv bq cU dW bm bO cp cS a6 cu b6 eo bI dv ce aD dc cD df cK b5 cY d4 cG dy bB bQ dh ci aX cA ch aL cZ dR aB a9 cl bC ap b9 aQ a4 bi dI dT aR ep di bK er dL dM eg dp ea ec dV dO aT bJ cC bd bw ef cq bu cH ax d2 dw ek br d8 cF bj dg cI aq aZ bT cm b8 ck cv au dG cT a1 cM dF aY dm bW dU dx ay dK cW az aK c6 a8 bk dZ bc bn bz bU b7 cj cb bV aj bX bP bt cw db d0 cs aN ed cd dE en dt dB a3 bS ei aJ dY aO cr aG dP cn du bL dl d1 bo dq dN eh ar ds bG ao aH de bR eq d5 av dC dX an dS cf d7 bA el aw aV bf aM cO aF dn bZ em d3 w' f6;exact HQ.out w' (ip r.out f6)
def kh(a:Art):Value:=if jI a=0 then .tuple #[.string (bs (mJ a)),.int .i64 0] else .tuple #[.string ⟨#[]⟩,.int .i64 (jI a)]
def Db(i:Ins):Prop:= -9223372036854775808<=i.n/\i.n<=9223372036854775807
theorem rJ(p:List (List Ins))(s:List Int)(k0 k1 k2:Int)(tv sv:Value)(w:World)(N:ProgAt w (.agg #[tv]) p)(K:IntsAt w.heap.size w sv s)(au:p.length<=5864062014634)(T:∀ c∈p,c.length<=4398046510976)(Q:∀ c∈p,∀ i∈c,Db i):
  Calls Tryz.prog 40 #[.agg #[tv,sv,.int .i64 k0,.int .i64 k1,.int .i64 k2]] w fun e w'=>w.grownBy w' none/\e= .returned (kh ⟨p,s,(k0,k1,k2)⟩):=by
 obtain⟨u,r,aa⟩:=N.form;simp only [Value.agg.injEq,Array.mk.injEq,List.cons.injEq,and_true]at aa;subst aa;obtain⟨l,m,rfl⟩:=K.form;have Y:=il N;have W:=il K;have ar:=il T;have ah:=il Q;clear N K T Q;go_enter Tryz.func40,Tryz.ntmps40
 go_wp2_with fail
 obtain⟨o,A⟩:∃ o,o=w.alloc (.cells #[.slice u p.length r,.slice l s.length m,.int .i64 k0,.int .i64 k1,.int .i64 k2] 56):=⟨_,rfl⟩;have ac:o.heap[w.heap.size]?=some (.cells #[.slice u p.length r,.slice l s.length m,.int .i64 k0,.int .i64 k1,.int .i64 k2] 56 (0,0)):=by rw [A];exact heap_alloc_new w _
 have af:Hid (w.grownBy o none):=by unfold Hid;rw [A];exact ir (iu _ _)
 rw [<-A];clear A;have F:=il ac;clear ac;refine(mD p _ o (Y.out.pres (iq af.out)) au ar.out).mono ?_;rintro e y ⟨rfl,B⟩;have HG12:=il B;have C:Hid (w.grownBy y none):=ip af.out B;have x:Hid (y.heap[w.heap.size]?=some (.cells #[.slice u p.length r,.slice l s.length m,.int .i64 k0,.int .i64 k1,.int .i64 k2] 56 (0,0))):=by
  unfold Hid;rw [B.block _ (Array.getElem?_eq_some_iff.1 F.out).1 (by simp)];exact F.out
 clear B;cases hv:iV p
 ·have z:Hid (jh p=1):=by unfold Hid jh;simp [hv]
  have b:Hid (jI ⟨p,s,(k0,k1,k2)⟩=1):=by unfold Hid jI;simp only;rw [hv];rfl
  rw [z.out];clear hv;go_wp2_with fail
  refine bodyPost_ret (v:= .tuple #[.string ⟨#[]⟩,.int .i64 1]) (by simp [results,Tryz.results40,go_sem]) rfl ?_;exact⟨C.out,by unfold kh;rw [b.out];rfl⟩
 ·have z:Hid (jh p=0):=by unfold Hid jh;simp [hv]
  have k:=il hv;rw [z.out];clear hv z;have E:y.cell? ⟨w.heap.size,1,none⟩=some (.slice l s.length m):=by simp [World.cell?,x.out]
  have ag:=il (rC s _ y ((W.out.pres (iq C.out)).mono C.out.size));go_wp2_with fail
  refine ag.out.mono ?_;clear ag E;rintro e d ⟨rfl,J⟩;have aB:Hid (w.grownBy d none):=ip C.out J;have n:d.heap[w.heap.size]?=some (.cells #[.slice u p.length r,.slice l s.length m,.int .i64 k0,.int .i64 k1,.int .i64 k2] 56 (0,0)):=by
   rw [J.block _ (Array.getElem?_eq_some_iff.1 x.out).1 (by simp)];exact x.out
  have Z:d.cell? ⟨w.heap.size,0,none⟩=some (.slice u p.length r):=by simp [World.cell?,n]
  have E:d.cell? ⟨w.heap.size,1,none⟩=some (.slice l s.length m):=by simp [World.cell?,n]
  have d2:d.cell? ⟨w.heap.size,2,none⟩=some (.int .i64 k0):=by simp [World.cell?,n]
  have d3:d.cell? ⟨w.heap.size,3,none⟩=some (.int .i64 k1):=by simp [World.cell?,n]
  have d4:d.cell? ⟨w.heap.size,4,none⟩=some (.int .i64 k2):=by simp [World.cell?,n]
  have O:=il Z;have S:=il E;clear n J Z E;generalize D:jd s=vs;go_upto_region 6 with fail
  clear d2 d3 d4;have q:d.grownBy (d.alloc (.cells #[.int .i64 k0,.int .i64 k1,.int .i64 k2] 26)) none:=ir (iu _ _);have t:=heap_alloc_new d (.cells #[.int .i64 k0,.int .i64 k1,.int .i64 k2] 26);generalize d.alloc (.cells #[.int .i64 k0,.int .i64 k1,.int .i64 k2] 26)=w4 at q t ⊢;have j:Hid (w.grownBy w4 none):=ip aB.out q;have av:=il (iq q _ _ O.out);have am:=il (iq q _ _ S.out);have f0:w4.cell? ⟨d.heap.size,0,none⟩=some (.int .i64 k0):=by simp [World.cell?,t]
  have f1:w4.cell? ⟨d.heap.size,1,none⟩=some (.int .i64 k1):=by simp [World.cell?,t]
  have f2:w4.cell? ⟨d.heap.size,2,none⟩=some (.int .i64 k2):=by simp [World.cell?,t]
  have HF:Hid (w4.cell? ⟨d.heap.size,0,none⟩=some (.int .i64 k0)/\w4.cell? ⟨d.heap.size,1,none⟩=some (.int .i64 k1)/\w4.cell? ⟨d.heap.size,2,none⟩=some (.int .i64 k2)):=⟨f0,f1,f2⟩;clear q t O S F x;by_cases I:vs=true
  case neg=>
   have V:vs=false:=by simpa using I
   have b:Hid (jI ⟨p,s,(k0,k1,k2)⟩=2):=by unfold Hid jI;simp only;rw [if_pos k.out,if_neg (by rintro⟨R,_⟩;rw [D,V]at R;cases R)]
   subst V;clear I D;go_wp2_with fail
   refine bodyPost_ret (v:= .tuple #[.string ⟨#[]⟩,.int .i64 2]) (by simp [results,Tryz.results40,go_sem]) rfl ?_;exact⟨j.out,by unfold kh;rw [b.out];rfl⟩
  case pos=>
  subst I;have ae:=il D;clear D;by_cases h:k0<1
  ·have b:Hid (jI ⟨p,s,(k0,k1,k2)⟩=2):=by unfold Hid jI;simp only;rw [if_pos k.out,if_neg (by rintro⟨_,f⟩;simp only [kH,Bool.and_eq_true,decide_eq_true_eq]at f;omega)]
   go_wp2_with fail
   refine bodyPost_ret (v:= .tuple #[.string ⟨#[]⟩,.int .i64 2]) (by simp [results,Tryz.results40,go_sem]) rfl ?_;exact⟨j.out,by unfold kh;rw [b.out];rfl⟩
  replace h:1<=k0:=by omega
  by_cases h:5<k0
  ·have b:Hid (jI ⟨p,s,(k0,k1,k2)⟩=2):=by unfold Hid jI;simp only;rw [if_pos k.out,if_neg (by rintro⟨_,f⟩;simp only [kH,Bool.and_eq_true,decide_eq_true_eq]at f;omega)]
   go_wp2_with fail
   refine bodyPost_ret (v:= .tuple #[.string ⟨#[]⟩,.int .i64 2]) (by simp [results,Tryz.results40,go_sem]) rfl ?_;exact⟨j.out,by unfold kh;rw [b.out];rfl⟩
  replace h:k0<=5:=by omega
  by_cases h:k1<0
  ·have b:Hid (jI ⟨p,s,(k0,k1,k2)⟩=2):=by unfold Hid jI;simp only;rw [if_pos k.out,if_neg (by rintro⟨_,f⟩;simp only [kH,Bool.and_eq_true,decide_eq_true_eq]at f;omega)]
   go_wp2_with fail
   refine bodyPost_ret (v:= .tuple #[.string ⟨#[]⟩,.int .i64 2]) (by simp [results,Tryz.results40,go_sem]) rfl ?_;exact⟨j.out,by unfold kh;rw [b.out];rfl⟩
  replace h:0<=k1:=by omega
  by_cases h:3<k1
  ·have b:Hid (jI ⟨p,s,(k0,k1,k2)⟩=2):=by unfold Hid jI;simp only;rw [if_pos k.out,if_neg (by rintro⟨_,f⟩;simp only [kH,Bool.and_eq_true,decide_eq_true_eq]at f;omega)]
   go_wp2_with fail
   refine bodyPost_ret (v:= .tuple #[.string ⟨#[]⟩,.int .i64 2]) (by simp [results,Tryz.results40,go_sem]) rfl ?_;exact⟨j.out,by unfold kh;rw [b.out];rfl⟩
  replace h:k1<=3:=by omega
  by_cases h:k2<0
  ·have b:Hid (jI ⟨p,s,(k0,k1,k2)⟩=2):=by unfold Hid jI;simp only;rw [if_pos k.out,if_neg (by rintro⟨_,f⟩;simp only [kH,Bool.and_eq_true,decide_eq_true_eq]at f;omega)]
   go_wp2_with fail
   refine bodyPost_ret (v:= .tuple #[.string ⟨#[]⟩,.int .i64 2]) (by simp [results,Tryz.results40,go_sem]) rfl ?_;exact⟨j.out,by unfold kh;rw [b.out];rfl⟩
  replace h:0<=k2:=by omega
  by_cases h:500<k2
  ·have b:Hid (jI ⟨p,s,(k0,k1,k2)⟩=2):=by unfold Hid jI;simp only;rw [if_pos k.out,if_neg (by rintro⟨_,f⟩;simp only [kH,Bool.and_eq_true,decide_eq_true_eq]at f;omega)]
   go_wp2_with fail
   refine bodyPost_ret (v:= .tuple #[.string ⟨#[]⟩,.int .i64 2]) (by simp [results,Tryz.results40,go_sem]) rfl ?_;exact⟨j.out,by unfold kh;rw [b.out];rfl⟩
  replace h:k2<=500:=by omega
  have M:kH (k0,k1,k2)=true:=by simp only [kH,Bool.and_eq_true,decide_eq_true_eq];omega
  have ao:=(jA k.out).2;have ak:Hid (∀ c∈p,c.length<=16/\∀ i∈c,kC i):=by
   intro c hc;have U:=k.out;simp only [iV,Bool.and_eq_true,List.all_eq_true]at U;have f:=U.2.2 c hc;simp only [kU,Bool.and_eq_true,List.all_eq_true,decide_eq_true_eq]at f;refine⟨f.1,fun i hi'=>?_⟩;obtain⟨g1,g2,g3⟩:=pM (f.2 i hi');exact⟨g1,g2,g3,ah.out c hc i hi'⟩
  have b:Hid (jI ⟨p,s,(k0,k1,k2)⟩=0):=by unfold Hid jI;simp only;rw [if_pos k.out,if_pos ⟨ae.out,M⟩]
  have an:Hid (mL ⟨p,s,(k0,k1,k2)⟩=([82,82,1]++jZ p.length++p.flatMap jU)++(mz s++mQ (k0,k1,k2))):=by
   unfold Hid mL lY jx;simp
  have aq:Hid (kh ⟨p,s,(k0,k1,k2)⟩= .tuple #[.string (bs (([82,82,1]++jZ p.length++p.flatMap jU)++(mz s++mQ (k0,k1,k2))++leB 4 (lq (([82,82,1]++jZ p.length++p.flatMap jU)++(mz s++mQ (k0,k1,k2)))))),.int .i64 0]):=by
   unfold Hid kh;rw [if_pos b.out];unfold mJ;rw [an.out]
  have ai:=il M;clear M;have G:decide (k0<1)=false:=decide_eq_false (by omega);have z1:decide (5<k0)=false:=decide_eq_false (by omega);have z2:decide (k1<0)=false:=decide_eq_false (by omega);have P:decide (3<k1)=false:=decide_eq_false (by omega);have L:decide (k2<0)=false:=decide_eq_false (by omega);have H:decide (500<k2)=false:=decide_eq_false (by omega);have ZZ:Hid ((decide (k0<1) || decide (5<k0) || decide (k1<0) || decide (3<k1) || decide (k2<0) || decide (500<k2))=false):=by unfold Hid;rw [G,z1,z2,P,L,H];rfl
  clear G z1 z2 P L H;go_upto_if 58 with fail
  refine wp_cond_false (congrArg Value.bool ZZ.out) ?_;refine wp_skip ?_;refine ‹∀ a w,Code.wp Tryz.prog _ _ a w->_› _ _ ?_;refine D4 (X:=[82,82,1]++jZ p.length) (p:=p) (s:=s) (v:=(k0,k1,k2)) (il rfl) (Y.out.pres (iq j.out)) ao ak ((W.out.pres (iq j.out)).mono j.out.size) ae ai av am HF ?_ ?_
  ·exact fun _ _ _ _ _ h=>h
  intro G z1 L H z6 z7 z8 z9 z10 z11 z12 z13 z14 z15 z16 z17 z18 z19 z20 z21 z22 z23 z24 z25 z26 z27 z28 z29 z30 z31 z32 z33 z34 z35 z36 z37 z38 z39 z40 z41 z42 z43 z44 z45 z46 z47 z48 z49 z50 z51 z52 z53 z54 z55 z56 z57 z58 z59 z60 z61 z62 z63 z64 z65 z66 z67 z68 z69 z70 z71 z72 z73 z74 z75 z76 z77 z78 z79 z80 z81 z82 z83 z84 z85 z86 z87 z88 z89 z90 z91 z92 z93 z94 z95 z96 z97 z98 z99 z100 z101 z102 z103 z104 z105 z106 z107 z108 z109 z110 z111 z112 z113 z114 z115 z116 z117 z118 z119 z120 z121 z122 z123 z124 z125 z126 z127 z128 z129 z130 z131 z132 z133 z134 z135 z136 z137 z138 z139 z140 z141 z142 z143 z144 z145 z146 z147 z148 z149 z150 z151 z152 z153 z154 z155 z156 z157 z158 z159 z160 z161 z162 z163 z164 z165 z166 z167 z168 z169 z170 z171 z172 z173 z174 z175 z176 z177 z178 z179 z180 z181 z182 z183 z184 z185 z186 w' ad;have aw:=il ad;clear ad;refine bodyPost_ret (v:=kh ⟨p,s,(k0,k1,k2)⟩) (by rw [aq.out];simp [results,Tryz.results40,go_sem]) rfl ?_;exact⟨ip j.out aw.out,rfl⟩
def RDec(w:World)(s:ByteArray)(e:Ending)(w':World):Prop:=w.grownBy w' none/\
 ((kj (byt s)=none/\e= .returned (.tuple #[.agg #[.slice none 0 0,.slice none 0 0,.int .i64 0,.int .i64 0,.int .i64 0],.int .i64 3]))\/
 ∃ a tv sv,kj (byt s)=some a/\e= .returned (.tuple #[.agg #[tv,sv,.int .i64 a.ver.1,.int .i64 a.ver.2.1,.int .i64 a.ver.2.2],.int .i64 0])/\ProgAt w' (.agg #[tv]) a.prog/\IntsAt w'.heap.size w' sv a.sch)
theorem AZ{l:List Nat}{s:ByteArray}(h:bs l=s)(hl:∀ x∈l,x<256):l=byt s:=by rw [<-h,yf hl]
theorem Ap(s:ByteArray):bs (byt s)=s:=by
 apply ByteArray.ext;apply Array.ext';simp only [bs,strOfNums_data,byt,List.map_map];conv=>rhs;rw [<-List.map_id s.data.toList]
 refine List.map_congr_left fun x _=>?_
 simp
theorem DQ(a:Art):∀ x∈mJ a,x<256:=by
 intro x b;unfold mJ mL at b;simp only [List.mem_append]at b;rcases b with (b | b | b | b) | b
 ·simp only [List.mem_cons,List.not_mem_nil,or_false]at b;omega
 ·unfold lY jx at b;rcases List.mem_append.1 b with b | b
  ·exact k8 _ x b
  ·obtain⟨c,_,hc⟩:=List.mem_flatMap.1 b;exact xt c x hc
 ·unfold mz jx at b;rcases List.mem_append.1 b with b | b
  ·exact k8 _ x b
  ·obtain⟨y,_,d⟩:=List.mem_flatMap.1 b;unfold lQ jx at d;rcases List.mem_append.1 d with d | d<;>exact k8 _ x d
 ·unfold mQ jx at b;simp only [List.mem_append]at b;rcases b with b | b | b<;>exact k8 _ x b
 ·exact FQ _ _ x b
theorem xe(s:ByteArray)(w:World)(hs:s.size<=9223372036854775000):Calls Tryz.prog 42 #[.string s] w (RDec w s):=by
 have O:Hid (kj (byt s)=sy (byt s)):=(xM (fun b hb=>vB s b hb)).symm;have P:=il (rE (byt s));have Y:=il (fun u=>DY s u hs);have M:Hid (sy (byt s)=if (j9 (byt s)).2=true/\jI (j9 (byt s)).1=0/\mJ (j9 (byt s)).1=byt s then some (j9 (byt s)).1 else none):=rfl;generalize hG:j9 (byt s)=G at*;clear hG;obtain⟨⟨p,d,k0,k1,k2⟩,ok⟩:=G;simp only at P Y M;go_enter Tryz.func42,Tryz.ntmps42
 go_wp2_with fail
 have Z:w.grownBy (w.alloc (.cells #[.slice none 0 0,.slice none 0 0,.int .i64 0,.int .i64 0,.int .i64 0] 56)) none:=ir (iu _ _);have ad:=heap_alloc_new w (.cells #[.slice none 0 0,.slice none 0 0,.int .i64 0,.int .i64 0,.int .i64 0] 56);generalize w.alloc (.cells #[.slice none 0 0,.slice none 0 0,.int .i64 0,.int .i64 0,.int .i64 0] 56)=w0 at Z ad ⊢;have ao:=il Z;have N:=il ad;clear Z ad;refine(Y.out w0).mono ?_;clear Y;rintro e f ⟨tv,sv,rfl,Q,ab,U⟩;have W:=ab.progAt;have V:=jz U;have aJ:=il ab;have al:=il U;have ap:Hid (w.heap.size<w0.heap.size):=(Array.getElem?_eq_some_iff.1 N.out).1;clear ab U;obtain⟨r,o,an⟩:=W.form;simp only [Value.agg.injEq,Array.mk.injEq,List.cons.injEq,and_true]at an;subst an;obtain⟨m,n,rfl⟩:=V.form;have ai:=il W;have ar:=il V;have aC:Hid (w.grownBy f none):=ip ao.out Q;have R:Hid (f.heap[w.heap.size]?=some (.cells #[.slice none 0 0,.slice none 0 0,.int .i64 0,.int .i64 0,.int .i64 0] 56 (0,0))):=by
  unfold Hid;rw [Q.block _ (Array.getElem?_eq_some_iff.1 N.out).1 (by simp)];exact N.out
 clear W V Q;go_upto_region 2 with fail
 have y:f.grownBy (f.alloc (.cells #[.slice r p.length o,.slice m d.length n,.int .i64 k0,.int .i64 k1,.int .i64 k2] 56)) none:=ir (iu _ _);have X:=heap_alloc_new f (.cells #[.slice r p.length o,.slice m d.length n,.int .i64 k0,.int .i64 k1,.int .i64 k2] 56);generalize f.alloc (.cells #[.slice r p.length o,.slice m d.length n,.int .i64 k0,.int .i64 k1,.int .i64 k2] 56)=w2 at y X ⊢;have ag:Hid (w.grownBy w2 none):=ip aC.out y;have j:Hid (w2.heap[w.heap.size]?=some (.cells #[.slice none 0 0,.slice none 0 0,.int .i64 0,.int .i64 0,.int .i64 0] 56 (0,0))):=by
  unfold Hid;rw [y.block _ (Array.getElem?_eq_some_iff.1 R.out).1 (by simp)];exact R.out
 have A:=il X;have av:=il y;have ac:=il (ai.out.pres (iq y));have S:Hid (IntsAt w2.heap.size w2 (.slice m d.length n) d):=(ar.out.pres (iq y)).mono y.size;clear y X N R ao;cases ok with
 | false=>
  have K:Hid (kj (byt s)=none):=by unfold Hid;rw [O.out,M.out,if_neg (by rintro⟨h,_⟩;cases h)]
  have z0:w2.cell? ⟨w.heap.size,0,none⟩=some (.slice none 0 0):=by simp only [World.cell?,j.out];rfl
  have z1:w2.cell? ⟨w.heap.size,1,none⟩=some (.slice none 0 0):=by simp only [World.cell?,j.out];rfl
  have z2:w2.cell? ⟨w.heap.size,2,none⟩=some (.int .i64 0):=by simp only [World.cell?,j.out];rfl
  have z3:w2.cell? ⟨w.heap.size,3,none⟩=some (.int .i64 0):=by simp only [World.cell?,j.out];rfl
  have z4:w2.cell? ⟨w.heap.size,4,none⟩=some (.int .i64 0):=by simp only [World.cell?,j.out];rfl
  have y0:w2.frozen? ⟨w.heap.size,0,none⟩=false:=by simp [World.frozen?,j.out]
  have y1:w2.frozen? ⟨w.heap.size,1,none⟩=false:=by simp [World.frozen?,j.out]
  have y2:w2.frozen? ⟨w.heap.size,2,none⟩=false:=by simp [World.frozen?,j.out]
  have y3:w2.frozen? ⟨w.heap.size,3,none⟩=false:=by simp [World.frozen?,j.out]
  have y4:w2.frozen? ⟨w.heap.size,4,none⟩=false:=by simp [World.frozen?,j.out]
  go_wp2_with fail
  obtain⟨C,B,t,H,E,x⟩:=pc w2 w.heap.size _ _ _ _ _ j.out (.slice none 0 0) (.slice none 0 0) (.int .i64 0) (.int .i64 0) (.int .i64 0);generalize ((((w2.setCell ⟨w.heap.size,0,none⟩ (.slice none 0 0)).setCell ⟨w.heap.size,1,none⟩ (.slice none 0 0)).setCell ⟨w.heap.size,2,none⟩ (.int .i64 0)).setCell ⟨w.heap.size,3,none⟩ (.int .i64 0)).setCell ⟨w.heap.size,4,none⟩ (.int .i64 0)=w9 at*;have D:w.grownBy w9 none:=nR ag.out x (Nat.le_refl _);have I:Hid (RDec w s (.returned (.tuple #[.agg #[.slice none 0 0,.slice none 0 0,.int .i64 0,.int .i64 0,.int .i64 0],.int .i64 3])) w9):=⟨D,Or.inl ⟨K.out,rfl⟩⟩;refine bodyPost_ret (v:= .tuple #[.agg #[.slice none 0 0,.slice none 0 0,.int .i64 0,.int .i64 0,.int .i64 0],.int .i64 3]) ?_ rfl I.out;simp [results,Tryz.results42,go_sem,C,B,t,H,E]
 | true=>
  have d0:w2.cell? ⟨f.heap.size,0,none⟩=some (.slice r p.length o):=by simp only [World.cell?,A.out];rfl
  have d1:w2.cell? ⟨f.heap.size,1,none⟩=some (.slice m d.length n):=by simp only [World.cell?,A.out];rfl
  have d2:w2.cell? ⟨f.heap.size,2,none⟩=some (.int .i64 k0):=by simp only [World.cell?,A.out];rfl
  have d3:w2.cell? ⟨f.heap.size,3,none⟩=some (.int .i64 k1):=by simp only [World.cell?,A.out];rfl
  have d4:w2.cell? ⟨f.heap.size,4,none⟩=some (.int .i64 k2):=by simp only [World.cell?,A.out];rfl
  have ak:=il (rJ p d k0 k1 k2 _ _ w2 ac.out S.out (by have:=P.out.2;omega) (fun c hc=>by have:=(P.out.1 c hc).1;omega) (fun c hc i hi=>((P.out.1 c hc).2 i hi).2.2.2));go_wp2_with fail
  refine ak.out.mono ?_;clear ak d0 d1 d2 d3 d4;rintro e a ⟨z,rfl⟩;have ae:Hid (w.grownBy a none):=ip ag.out z;have T:Hid (f.grownBy a none):=ip av.out z;have l:Hid (a.heap[w.heap.size]?=some (.cells #[.slice none 0 0,.slice none 0 0,.int .i64 0,.int .i64 0,.int .i64 0] 56 (0,0))):=by
   unfold Hid;rw [z.block _ (Array.getElem?_eq_some_iff.1 j.out).1 (by simp)];exact j.out
  have L:Hid (a.heap[f.heap.size]?=some (.cells #[.slice r p.length o,.slice m d.length n,.int .i64 k0,.int .i64 k1,.int .i64 k2] 56 (0,0))):=by
   unfold Hid;rw [z.block _ (Array.getElem?_eq_some_iff.1 A.out).1 (by simp)];exact A.out
  have HP3:=il (ac.out.pres (iq z));have HI3:Hid (IntsAt a.heap.size a (.slice m d.length n) d):=(S.out.pres (iq z)).mono z.size;clear z j A ac S ai ar;have z0:a.cell? ⟨w.heap.size,0,none⟩=some (.slice none 0 0):=by simp only [World.cell?,l.out];rfl
  have z1:a.cell? ⟨w.heap.size,1,none⟩=some (.slice none 0 0):=by simp only [World.cell?,l.out];rfl
  have z2:a.cell? ⟨w.heap.size,2,none⟩=some (.int .i64 0):=by simp only [World.cell?,l.out];rfl
  have z3:a.cell? ⟨w.heap.size,3,none⟩=some (.int .i64 0):=by simp only [World.cell?,l.out];rfl
  have z4:a.cell? ⟨w.heap.size,4,none⟩=some (.int .i64 0):=by simp only [World.cell?,l.out];rfl
  have y0:a.frozen? ⟨w.heap.size,0,none⟩=false:=by simp [World.frozen?,l.out]
  have y1:a.frozen? ⟨w.heap.size,1,none⟩=false:=by simp [World.frozen?,l.out]
  have y2:a.frozen? ⟨w.heap.size,2,none⟩=false:=by simp [World.frozen?,l.out]
  have y3:a.frozen? ⟨w.heap.size,3,none⟩=false:=by simp [World.frozen?,l.out]
  have y4:a.frozen? ⟨w.heap.size,4,none⟩=false:=by simp [World.frozen?,l.out]
  by_cases F:jI ⟨p,d,(k0,k1,k2)⟩=0
  ·have aa:Hid (kh ⟨p,d,(k0,k1,k2)⟩= .tuple #[.string (bs (mJ ⟨p,d,(k0,k1,k2)⟩)),.int .i64 0]):=by unfold Hid kh;rw [if_pos F]
   rw [aa.out];by_cases J:bs (mJ ⟨p,d,(k0,k1,k2)⟩)=s
   ·have aG:Hid (kj (byt s)=some ⟨p,d,(k0,k1,k2)⟩):=by unfold Hid;rw [O.out,M.out,if_pos ⟨by first | trivial | rfl,F,AZ J (DQ _)⟩]
    rw [J];clear J F;have d0:a.cell? ⟨f.heap.size,0,none⟩=some (.slice r p.length o):=by simp only [World.cell?,L.out];rfl
    have d1:a.cell? ⟨f.heap.size,1,none⟩=some (.slice m d.length n):=by simp only [World.cell?,L.out];rfl
    have d2:a.cell? ⟨f.heap.size,2,none⟩=some (.int .i64 k0):=by simp only [World.cell?,L.out];rfl
    have d3:a.cell? ⟨f.heap.size,3,none⟩=some (.int .i64 k1):=by simp only [World.cell?,L.out];rfl
    have d4:a.cell? ⟨f.heap.size,4,none⟩=some (.int .i64 k2):=by simp only [World.cell?,L.out];rfl
    go_wp2_with fail
    obtain⟨C,B,t,H,E,x⟩:=pc a w.heap.size _ _ _ _ _ l.out (.slice r p.length o) (.slice m d.length n) (.int .i64 k0) (.int .i64 k1) (.int .i64 k2);generalize ((((a.setCell ⟨w.heap.size,0,none⟩ (.slice r p.length o)).setCell ⟨w.heap.size,1,none⟩ (.slice m d.length n)).setCell ⟨w.heap.size,2,none⟩ (.int .i64 k0)).setCell ⟨w.heap.size,3,none⟩ (.int .i64 k1)).setCell ⟨w.heap.size,4,none⟩ (.int .i64 k2)=w9 at*;have D:w.grownBy w9 none:=nR ae.out x (Nat.le_refl _);have I:Hid (RDec w s (.returned (.tuple #[.agg #[.slice r p.length o,.slice m d.length n,.int .i64 k0,.int .i64 k1,.int .i64 k2],.int .i64 0])) w9):=⟨D,Or.inr ⟨_,_,_,aG.out,rfl,((aJ.out.step T.out (fun _ e=>by cases e)).mono T.out.size |>.step x (fun q e=>by simp only [Option.some.injEq]at e;have:=ap.out;omega)).progAt,jz (kA (kA al.out T.out (fun _ e=>by cases e)) x (fun k e t=>by simp only [Option.some.injEq]at e;have:=ap.out;have:=iB al.out k t;omega))⟩⟩;refine bodyPost_ret (v:= .tuple #[.agg #[.slice r p.length o,.slice m d.length n,.int .i64 k0,.int .i64 k1,.int .i64 k2],.int .i64 0]) ?_ rfl I.out;simp [results,Tryz.results42,go_sem,C,B,t,H,E]
   ·have K:Hid (kj (byt s)=none):=by unfold Hid;rw [O.out,M.out,if_neg (by rintro⟨_,_,h⟩;exact J (by rw [h];exact Ap s))]
    clear F;generalize bs (mJ ⟨p,d,(k0,k1,k2)⟩)=TT at*;have hT2:(TT.toList==s.toList)=false:=by rw [beq_eq_false_iff_ne];intro h;rw [ByteArray.toList_eq,ByteArray.toList_eq]at h;exact J (ByteArray.ext (Array.ext' h))
    go_wp2_with fail
    obtain⟨C,B,t,H,E,x⟩:=pc a w.heap.size _ _ _ _ _ l.out (.slice none 0 0) (.slice none 0 0) (.int .i64 0) (.int .i64 0) (.int .i64 0);generalize ((((a.setCell ⟨w.heap.size,0,none⟩ (.slice none 0 0)).setCell ⟨w.heap.size,1,none⟩ (.slice none 0 0)).setCell ⟨w.heap.size,2,none⟩ (.int .i64 0)).setCell ⟨w.heap.size,3,none⟩ (.int .i64 0)).setCell ⟨w.heap.size,4,none⟩ (.int .i64 0)=w9 at*;have D:w.grownBy w9 none:=nR ae.out x (Nat.le_refl _);have I:Hid (RDec w s (.returned (.tuple #[.agg #[.slice none 0 0,.slice none 0 0,.int .i64 0,.int .i64 0,.int .i64 0],.int .i64 3])) w9):=⟨D,Or.inl ⟨K.out,rfl⟩⟩;refine bodyPost_ret (v:= .tuple #[.agg #[.slice none 0 0,.slice none 0 0,.int .i64 0,.int .i64 0,.int .i64 0],.int .i64 3]) ?_ rfl I.out;simp [results,Tryz.results42,go_sem,C,B,t,H,E]
  ·have aa:Hid (kh ⟨p,d,(k0,k1,k2)⟩= .tuple #[.string ⟨#[]⟩,.int .i64 (jI ⟨p,d,(k0,k1,k2)⟩)]):=by unfold Hid kh;rw [if_neg F]
   have K:Hid (kj (byt s)=none):=by unfold Hid;rw [O.out,M.out,if_neg (by rintro⟨_,h,_⟩;exact F h)]
   rw [aa.out];generalize jI ⟨p,d,(k0,k1,k2)⟩=ee at*;have h0':(ee !=0)=true:=by simpa using F
   go_wp2_with fail
   obtain⟨C,B,t,H,E,x⟩:=pc a w.heap.size _ _ _ _ _ l.out (.slice none 0 0) (.slice none 0 0) (.int .i64 0) (.int .i64 0) (.int .i64 0);generalize ((((a.setCell ⟨w.heap.size,0,none⟩ (.slice none 0 0)).setCell ⟨w.heap.size,1,none⟩ (.slice none 0 0)).setCell ⟨w.heap.size,2,none⟩ (.int .i64 0)).setCell ⟨w.heap.size,3,none⟩ (.int .i64 0)).setCell ⟨w.heap.size,4,none⟩ (.int .i64 0)=w9 at*;have D:w.grownBy w9 none:=nR ae.out x (Nat.le_refl _);have I:Hid (RDec w s (.returned (.tuple #[.agg #[.slice none 0 0,.slice none 0 0,.int .i64 0,.int .i64 0,.int .i64 0],.int .i64 3])) w9):=⟨D,Or.inl ⟨K.out,rfl⟩⟩;refine bodyPost_ret (v:= .tuple #[.agg #[.slice none 0 0,.slice none 0 0,.int .i64 0,.int .i64 0,.int .i64 0],.int .i64 3]) ?_ rfl I.out;simp [results,Tryz.results42,go_sem,C,B,t,H,E]
end
end Go.Proofs.YtklenjmfalljgabGreatDoor
