/- The texts Rgd. -/
import Derived.Test.YtklenjmfalljgabGreatDoorM11
import Derived.Test.YtklenjmfalljgabGreatDoorM23
import Derived.Test.YtklenjmfalljgabGreatDoorM26
namespace Go.Proofs.YtklenjmfalljgabGreatDoor
set_option maxRecDepth 100000
set_option maxHeartbeats 8000000
section
open Go.RowKit
attribute [local go_sem] Go.World.cell?_alloc_some
theorem jZ(n:Nat)(h:n<18446744073709551616):IntKind.u64.wrap (n:Int)=(n:Int):=by rw [IntKind.wrap_u64];omega
theorem jL{n:Nat}(h:n<18446744073709551616):(numB n).length<=10:=kn h
theorem jV{l m k:List Nat}(hk:l++m=k)(h:l.length+m.length<=9223372036854775807):Op.stringOp .add (bs l) (bs m)=pure (.string (bs k)):=by rw [<-hk];exact xG l m h
theorem x7{w:World}{g:Nat}{x0 x1 x2 x3:Nat}(h:w.heap[g]?=some (.cells #[.int .u8 (x0:Int),.int .u8 (x1:Int),.int .u8 (x2:Int),.int .u8 (x3:Int)] 5 (0,0))):(convert 147 9 (.slice (some ⟨g,0,none⟩) 4 4)).run Tryz.prog w= .ok (.string (bs [x0,x1,x2,x3])) w:=
 run_convert_bytes_arg w _ _ Tryz.underlying147 Tryz.underlying5 g 0 4 4 _ (by simp) (fun i hi=>by
  have hi':i<4:=by simpa using hi
  rcases(by omega:i=0\/i=1\/i=2\/i=3)with rfl | rfl | rfl | rfl<;>simp [World.cell?,h]) _ Tryz.underlying9
theorem zZ{w:World}{n1 A:Nat}{X:List Nat}{s:List Int}{v:Int × Int × Int}{sv:Value}(hX:X.length<=1000000)(ez:∀ x∈X,x<256)(HI:Hid (IntsAt w.heap.size w sv s))(HV:Hid (validS s=true))(be:Hid (verOk v=true))
  (H1:Hid (w.cell? ⟨n1,1,none⟩=some sv)) (R:Hid (w.cell? ⟨A,0,none⟩=some (.int .i64 v.1)/\w.cell? ⟨A,1,none⟩=some (.int .i64 v.2.1)/\w.cell? ⟨A,2,none⟩=some (.int .i64 v.2.2)))
  {Q:Exit->Act->World->Prop} {c0 c2 c3 c4 c5 c8 c9 bg bu bH bS b7 ci ct cE cP cX cZ c7 da db dc dd de df dg dh dj dk dl dm dn dp dq dr ds dt dv dw dx dy dz dA dB dC dD dE dG dH dI dJ dK dL dM dN dO dP dQ dR dS dT dU dV dW dX dY dZ d0 d1 d2 d3 d4 d5 d6 d7 d8 d9 eb ec ed ee ef eg eh ei ej ek em en eo ep eq er es et eu ev bh bi bj bk bl bm bo bp bq br bw bx bz bA bB bC bD bE bF bG bI bJ bK bL bM bN bO bP bQ bR bT bU bV bW bX bY bZ b4 b5 b6 b8 b9 ca cb cc cd ce cf cg ch cj ck cl cm cn co cp cq cr cs cu cv cw cx cy cz cA cB cC cD cF cG cH cI cJ cK cL cM cN cO cQ cR cS cT cU cV cW:Value} (k:Hid (∀ c a d v w,Q (.panic c) (Act.put a (some d) v) w->Q (.panic c) a w))
  (H:Hid (∀ {z0 z1 z4 z5 z6 z7 z8 z9 eS e7 fi ft fE fP f0 gc gn gv gw gx gy gz gA gB gC gD gE gF gG gH gI gJ gK gL gM gN gO gP gR gS gT gU gV gW gX gY gZ g0 g2 g3 g4 g5 g6 g7 g8 g9 ha hb hf hg hh hi hj hk hl hm hn ho hq hr hs hv hw hy hz hA hB hC hE hF hG hH hJ hK hM hN hO hP hR hS hT hU hV hW hY hZ h3 h4 eU eV eW eX eY eZ e3 e4 e5 e6 e8 e9 fa fb fc fd fe ff fg fh fj fk fl fm fn fo fp fq fr fs fu fv fw fx fy fz fA fB fC fD fF fG fH fI fJ fK fL fM fN fO fQ fR fS fT fU fV fW fX fY fZ f2 f3 f4 f5 f6 f7 f8 f9 ga gb gd ge gf gg gh gi gj gk gl gm go gp gq gr gs gt gu:Value} (w':World),w.grownBy w' none->Q .ret ⟨#[z0,z1,.string (bs (X++(schB s++verB v)++leB 4 (crcN (X++(schB s++verB v))))),.int .i64 0,z4,z5,z6,z7,z8,z9,eS,e7,fi,ft,fE,fP,f0,gc,gn,gv,gw,gx,gy,gz,gA,gB,gC,gD,gE,gF,gG,gH,gI,gJ,gK,gL,gM,gN,gO,gP,gR,gS,gT,gU,gV,gW,gX,gY,gZ,g0,g2,g3,g4,g5,g6,g7,g8,g9,ha,hb,hf,hg,hh,hi,hj,hk,hl,hm,hn,ho,hq,hr,hs,hv,hw,hy,hz,hA,hB,hC,hE,hF,hG,hH,hJ,hK,hM,hN,hO,hP,hR,hS,hT,hU,hV,hW,hY,hZ,h3,h4,eU,eV,eW,eX,eY,eZ,e3,e4,e5,e6,e8,e9,fa,fb,fc,fd,fe,ff,fg,fh,fj,fk,fl,fm,fn,fo,fp,fq,fr,fs,fu,fv,fw,fx,fy,fz,fA,fB,fC,fD,fF,fG,fH,fI,fJ,fK,fL,fM,fN,fO,fQ,fR,fS,fT,fU,fV,fW,fX,fY,fZ,f2,f3,f4,f5,f6,f7,f8,f9,ga,gb,gd,ge,gf,gg,gh,gi,gj,gk,gl,gm,go,gp,gq,gr,gs,gt,gu],[]⟩ w')):
  Code.wp Tryz.prog (tailOf Tryz.f40 18) Q ⟨#[c0,.pointer (some ⟨n1,0,none⟩),c2,c3,c4,c5,.pointer (some ⟨A,0,none⟩),.string (bs X),c8,c9,bg,bu,bH,bS,b7,ci,ct,cE,cP,cX,cZ,c7,da,db,dc,dd,de,df,dg,dh,dj,dk,dl,dm,dn,dp,dq,dr,ds,dt,dv,dw,dx,dy,dz,dA,dB,dC,dD,dE,dG,dH,dI,dJ,dK,dL,dM,dN,dO,dP,dQ,dR,dS,dT,dU,dV,dW,dX,dY,dZ,d0,d1,d2,d3,d4,d5,d6,d7,d8,d9,eb,ec,ed,ee,ef,eg,eh,ei,ej,ek,em,en,eo,ep,eq,er,es,et,eu,ev,bh,bi,bj,bk,bl,bm,bo,bp,bq,br,bw,bx,bz,bA,bB,bC,bD,bE,bF,bG,bI,bJ,bK,bL,bM,bN,bO,bP,bQ,bR,bT,bU,bV,bW,bX,bY,bZ,b4,b5,b6,b8,b9,ca,cb,cc,cd,ce,cf,cg,ch,cj,ck,cl,cm,cn,co,cp,cq,cr,cs,cu,cv,cw,cx,cy,cz,cA,cB,cC,cD,cF,cG,cH,cI,cJ,cK,cL,cM,cN,cO,cQ,cR,cS,cT,cU,cV,cW],[]⟩ w:=by
 conv=>arg 2;whnf
 have aR:=HV.out;simp only [validS,Bool.and_eq_true,decide_eq_true_eq,List.all_eq_true]at aR;obtain⟨ew,aK⟩:=aR;have aZ:=ij aK;clear aK;obtain⟨so,sc,rfl⟩:=HI.out.form;have c1:=H1.out;have E:Hid (∀ u,w.grownBy u none->u.cell? ⟨A,0,none⟩=some (.int .i64 v.1)/\u.cell? ⟨A,1,none⟩=some (.int .i64 v.2.1)/\u.cell? ⟨A,2,none⟩=some (.int .i64 v.2.2)):=fun u hu=>⟨ip hu _ _ R.out.1,ip hu _ _ R.out.2.1,ip hu _ _ R.out.2.2⟩
 go_wp2_with fail
 clear c1;go_loopw [11,12,13] (fun nv bv lv w'=>∃ (a:Option Addr) (c:Nat) (m:List Int) (G:List (Int × Int)),nv= .int .i64 G.length/\bv= .string (bs (G.flatMap runB))/\lv= .slice a m.length c/\Hid (IntsAt w.heap.size w (.slice a m.length c) m)/\Hid (w.grownBy w' none)/\Hid (G++grp m=grp s)/\Hid (∀ x∈m,x∈s)/\G.length+m.length<=500/\(G.flatMap runB).length<=20*G.length) (fun _ _ lv _=>lenOf lv)
 case atStart=>exact⟨so,sc,s,[],rfl,rfl,rfl,HI,ij (ir _ _),ij rfl,ij (fun x b=>b),by simpa using ew,by simp⟩
 case round=>
  obtain⟨a,c,m,G,rfl,rfl,rfl,T,z,ai,HM,hln,hgl⟩:=hrel;obtain⟨B,aS⟩:∃ B,B=wr:=⟨_,rfl⟩;rw [<-aS]at z ⊢;clear aS;cases m with
  | nil=>
   simp only [List.length_nil];have F:=be.out;simp only [verOk,Bool.and_eq_true,decide_eq_true_eq]at F;obtain⟨v0,v1,v2⟩:=v;simp only at F E H;obtain⟨k0,rfl⟩:=Int.eq_ofNat_of_zero_le (show 0<=v0 by omega);obtain⟨k1,rfl⟩:=Int.eq_ofNat_of_zero_le F.1.2.1;obtain⟨k2,rfl⟩:=Int.eq_ofNat_of_zero_le F.2.1;have h0:k0<=5:=by omega
   have h1:k1<=3:=by omega
   have h2:k2<=500:=by omega
   clear F;have hGl:G.length<=500:=by omega
   have qG:(G.length:Int)<=500:=by omega
   have q0:(k0:Int)<=5:=by omega
   have q1:(k1:Int)<=3:=by omega
   have q2:(k2:Int)<=500:=by omega
   have eG:=jZ G.length (by omega);have e0:=jZ k0 (by omega);have e1:=jZ k1 (by omega);have e2:=jZ k2 (by omega);have bb:=ij (fun u=>i6 G.length u (by omega));have a8:=ij (fun u=>i6 k0 u (by omega));have a9:=ij (fun u=>i6 k1 u (by omega));have ba:=ij (fun u=>i6 k2 u (by omega));have a4:Hid (grp s=G):=by have:=ai.out;simp only [grp,List.append_nil]at this;exact this.symm
   have b0:=jL (n:=G.length) (by omega);have b1:=jL (n:=k0) (by omega);have b2:=jL (n:=k1) (by omega);have b3:=jL (n:=k2) (by omega);obtain⟨Y1,J⟩:∃ Y,X++numB G.length=Y:=⟨_,rfl⟩;obtain⟨Y2,K⟩:∃ Y,Y1++G.flatMap runB=Y:=⟨_,rfl⟩;obtain⟨Y3,L⟩:∃ Y,Y2++numB k0=Y:=⟨_,rfl⟩;obtain⟨Y4,M⟩:∃ Y,Y3++numB k1=Y:=⟨_,rfl⟩;obtain⟨p,N⟩:∃ Y,Y4++numB k2=Y:=⟨_,rfl⟩;have l1:Y1.length<=X.length+10:=by rw [<-J,List.length_append];omega
   have l2:Y2.length<=X.length+10010:=by rw [<-K,List.length_append];omega
   have l3:Y3.length<=X.length+10020:=by rw [<-L,List.length_append];omega
   have l4:Y4.length<=X.length+10030:=by rw [<-M,List.length_append];omega
   have l5:p.length<=X.length+10040:=by rw [<-N,List.length_append];omega
   have y1:=jV J (by omega);have y2:=jV K (by omega);have y3:=jV L (by omega);have y4:=jV M (by omega);have y5:=jV N (by omega);have U:Hid (X++(schB s++verB ((k0:Int),(k1:Int),(k2:Int)))=p):=by
    unfold Hid schB verB wInt;rw [a4.out,<-N,<-M,<-L,<-K,<-J];simp
   rw [U.out]at H;have ay:Hid (p.length<=2000000):=by unfold Hid;omega
   have ax:Hid (∀ x∈p,x<256):=by
    unfold Hid;rw [<-U.out];intro x b;rcases List.mem_append.1 b with b | b
    ·exact ez x b
    ·unfold schB verB at b;simp only [List.mem_append,List.mem_flatMap]at b;rcases b with (b | ⟨y,_,b⟩) | b | b | b
     ·exact jz _ x b
     ·unfold runB at b;rcases List.mem_append.1 b with b | b<;>exact jz _ x b
     ·exact jz _ x b
     ·exact jz _ x b
     ·exact jz _ x b
   clear J K L M N l1 l2 l3 l4 l5 U;have aJ:=E.out B.drew (iy z.out);go_upto_region 26 with fail
   refine iz (fun u=>u.cell? ⟨A,0,none⟩=some (.int .i64 (k0:Int))/\u.cell? ⟨A,1,none⟩=some (.int .i64 (k1:Int))/\u.cell? ⟨A,2,none⟩=some (.int .i64 (k2:Int))) 22 (by kernel_rfl) (by kernel_rfl) aJ ?_;intro q;refine ie 0 ?v1 rfl (by kernel_rfl) (fun c _ _ h=>k.out c _ _ _ _ h) (by kernel_rfl) ?y1 q ?_
   case y1=>(rintro u ⟨l,f,j⟩;go_simp;try rfl)
   simp only [Act.put,List.setIfInBounds_toArray];refine ie 1 ?v2 rfl (by kernel_rfl) (fun c _ _ h=>k.out c _ _ _ _ h) (by kernel_rfl) ?y2 q ?_
   case y2=>(rintro u ⟨l,f,j⟩;go_simp;try rfl)
   simp only [Act.put];refine ie 2 ?v3 rfl (by kernel_rfl) (fun c _ _ h=>k.out c _ _ _ _ h) (by kernel_rfl) ?y3 q ?_
   case y3=>(rintro u ⟨l,f,j⟩;go_simp;try rfl)
   simp only [Act.put];refine ie 5 ?v4 rfl (by kernel_rfl) (fun c _ _ h=>k.out c _ _ _ _ h) (by kernel_rfl) ?y4 q ?_
   case y4=>(rintro u ⟨l,f,j⟩;go_simp;try rfl)
   simp only [Act.put];refine ie 7 ?v5 rfl (by kernel_rfl) (fun c _ _ h=>k.out c _ _ _ _ h) (by kernel_rfl) ?y5 q ?_
   case y5=>(rintro u ⟨l,f,j⟩;go_simp;try rfl)
   simp only [Act.put];refine ie 8 ?v6 rfl (by kernel_rfl) (fun c _ _ h=>k.out c _ _ _ _ h) (by kernel_rfl) ?y6 q ?_
   case y6=>(rintro u ⟨l,f,j⟩;go_simp;try rfl)
   simp only [Act.put];refine ie 9 ?v7 rfl (by kernel_rfl) (fun c _ _ h=>k.out c _ _ _ _ h) (by kernel_rfl) ?y7 q ?_
   case y7=>(rintro u ⟨l,f,j⟩;go_simp;try rfl)
   simp only [Act.put];refine ie 12 ?v8 rfl (by kernel_rfl) (fun c _ _ h=>k.out c _ _ _ _ h) (by kernel_rfl) ?y8 q ?_
   case y8=>(rintro u ⟨l,f,j⟩;go_simp;try rfl)
   simp only [Act.put];refine ie 13 ?v9 rfl (by kernel_rfl) (fun c _ _ h=>k.out c _ _ _ _ h) (by kernel_rfl) ?y9 q ?_
   case y9=>(rintro u ⟨l,f,j⟩;go_simp;try rfl)
   simp only [Act.put];refine ie 14 ?v10 rfl (by kernel_rfl) (fun c _ _ h=>k.out c _ _ _ _ h) (by kernel_rfl) ?y10 q ?_
   case y10=>(rintro u ⟨l,f,j⟩;go_simp;try rfl)
   simp only [Act.put];refine ie 17 ?v11 rfl (by kernel_rfl) (fun c _ _ h=>k.out c _ _ _ _ h) (by kernel_rfl) ?y11 q ?_
   case y11=>(rintro u ⟨l,f,j⟩;go_simp;try rfl)
   simp only [Act.put];refine ie 18 ?v12 rfl (by kernel_rfl) (fun c _ _ h=>k.out c _ _ _ _ h) (by kernel_rfl) ?y12 q ?_
   case y12=>(rintro u ⟨l,f,j⟩;go_simp;try rfl)
   simp only [Act.put];refine ie 19 ?v13 rfl (by kernel_rfl) (fun c _ _ h=>k.out c _ _ _ _ h) (by kernel_rfl) ?y13 q ?_
   case y13=>(rintro u ⟨l,f,j⟩;go_simp;try rfl)
   simp only [Act.put];refine iu (i:=3) rfl (by kernel_rfl) (by kernel_rfl) (by kernel_rfl) ?_;intro K3 aI;have an:=ij aI;clear aI;go_simp;refine(bb.out _).mono ?_;rintro e u1 ⟨rfl,f⟩;have ar:Hid (B.grownBy u1 none):=jo f;have I:=E.out u1 (il z.out ar.out);clear f;refine an.out _ _ I ?_;clear an;try simp only [Act.put,List.setIfInBounds_toArray]
   refine ie 4 ?v14 rfl (by kernel_rfl) (fun c _ _ h=>k.out c _ _ _ _ h) (by kernel_rfl) ?y14 I ?_
   case y14=>(rintro u ⟨l,f,j⟩;go_simp;try rfl)
   simp only [Act.put,List.setIfInBounds_toArray];refine ie 6 ?v15 rfl (by kernel_rfl) (fun c _ _ h=>k.out c _ _ _ _ h) (by kernel_rfl) ?y15 I ?_
   case y15=>(rintro u ⟨l,f,j⟩;go_simp;try rfl)
   simp only [Act.put];refine iu (i:=10) rfl (by kernel_rfl) (by kernel_rfl) (by kernel_rfl) ?_;intro K10 aF;have ak:=ij aF;clear aF;go_simp;refine(a8.out _).mono ?_;rintro e u2 ⟨rfl,j⟩;have au:Hid (B.grownBy u2 none):=il ar.out j;have aa:=E.out u2 (il z.out au.out);clear j;refine ak.out _ _ aa ?_;clear ak;try simp only [Act.put,List.setIfInBounds_toArray]
   refine ie 11 ?v16 rfl (by kernel_rfl) (fun c _ _ h=>k.out c _ _ _ _ h) (by kernel_rfl) ?y16 aa ?_
   case y16=>(rintro u ⟨l,f,j⟩;go_simp;try rfl)
   simp only [Act.put,List.setIfInBounds_toArray];refine iu (i:=15) rfl (by kernel_rfl) (by kernel_rfl) (by kernel_rfl) ?_;intro K15 aG;have al:=ij aG;clear aG;go_simp;refine(a9.out _).mono ?_;rintro e u3 ⟨rfl,aP⟩;have av:Hid (B.grownBy u3 none):=il au.out aP;have ab:=E.out u3 (il z.out av.out);clear aP;refine al.out _ _ ab ?_;clear al;try simp only [Act.put,List.setIfInBounds_toArray]
   refine ie 16 ?v17 rfl (by kernel_rfl) (fun c _ _ h=>k.out c _ _ _ _ h) (by kernel_rfl) ?y17 ab ?_
   case y17=>(rintro u ⟨l,f,j⟩;go_simp;try rfl)
   simp only [Act.put,List.setIfInBounds_toArray];refine iu (i:=20) rfl (by kernel_rfl) (by kernel_rfl) (by kernel_rfl) ?_;intro K20 aH;have am:=ij aH;clear aH;go_simp;refine(ba.out _).mono ?_;rintro e D ⟨rfl,aQ⟩;have aw:Hid (B.grownBy D none):=il av.out aQ;have ac:=E.out D (il z.out aw.out);clear aQ;refine am.out _ _ ac ?_;clear am;try simp only [Act.put,List.setIfInBounds_toArray]
   refine ie 21 ?v18 rfl (by kernel_rfl) (fun c _ _ h=>k.out c _ _ _ _ h) (by kernel_rfl) ?y18 ac ?_
   case y18=>(rintro u ⟨l,f,j⟩;go_simp;try rfl)
   simp only [Act.put,List.setIfInBounds_toArray];refine iF rfl (by kernel_rfl) (by kernel_rfl) (by kernel_rfl) ?_;go_simp;clear q I aa ab ac y1 y2 y3 y4 y5 aJ;have S:=ij (yQ (bs p) D (by rw [nX];have:=ay.out;omega));rw [tz ax.out]at S;have hcl:crcN p<4294967296:=by
    unfold crcN;exact Nat.xor_lt_two_pow (n:=32) (by omega) (uL _ _ (by omega) ax.out)
   have a6:Hid (leB 4 (crcN p)=[crcN p % 256,crcN p / 256 % 256,crcN p / 65536 % 256,crcN p / 16777216]):=by
    unfold Hid;generalize crcN p=C at hcl ⊢;simp only [leB,List.cons.injEq,and_true,true_and];omega
   generalize crcN p=C at*;go_wp2_with fail
   refine S.out.mono ?_;clear S;rintro e u5 ⟨rfl,eF⟩;obtain rfl:=eF.symm;have hcv:(convert 147 9 (.slice (some ⟨D.heap.size,0,none⟩) 4 4)).run Tryz.prog (D.alloc (.cells #[.int .u8 ((C:Int) % 256),.int .u8 ((C:Int) / 256 % 256),.int .u8 ((C:Int) / 65536 % 256),.int .u8 ((C:Int) / 16777216)] 5))= .ok (.string (bs (leB 4 C))) (D.alloc (.cells #[.int .u8 ((C:Int) % 256),.int .u8 ((C:Int) / 256 % 256),.int .u8 ((C:Int) / 65536 % 256),.int .u8 ((C:Int) / 16777216)] 5)):=by
    rw [a6.out];exact x7 (x0:=C % 256) (x1:=C / 256 % 256) (x2:=C / 65536 % 256) (x3:=C / 16777216) (heap_alloc_new D _)
   have a7:Hid ((leB 4 C).length=4):=lS 4 C;obtain⟨Y6,ad⟩:∃ Y,p++leB 4 C=Y:=⟨_,rfl⟩;have y6:=jV ad (by have:=ay.out;have:=a7.out;omega);rw [ad]at H;clear ad;go_wp2_with fail
   exact H.out _ (iq (il z.out aw.out))
  | cons t r=>
   have eE:0<(t::r).length:=by simp
   have hI:=T.out;obtain⟨ao',cp',e',eA,hc⟩:=hI;simp only [Value.slice.injEq,true_and]at e';obtain⟨rfl,rfl⟩:=e';obtain⟨g,o,rfl,hgb,Z⟩:=hc 0 eE;simp only [List.getElem_cons_zero,Nat.add_zero]at Z;have bf:=ip z.out _ _ Z;have ht:=aZ.out t (HM.out t (by simp));have bc:=ij (uW t r (.slice (some ⟨g,o,none⟩) (t::r).length c) B ((T.out.pres (ip z.out)).mono z.out.size) (by omega));have eC:=yJ (t::r);have hn1:1<=oftS (t::r):=by rw [kU];omega
   have aL:((t::r).drop (oftS (t::r))).length=(t::r).length - oftS (t::r):=by simp
   have a5:=ij (uT t r);clear hc Z;obtain⟨t,rfl⟩:=Int.eq_ofNat_of_zero_le ht.1;generalize eD:oftS ((t:Int)::r)=n at*;clear eD;generalize hL:(t:Int)::r=RL at*;clear hL;have q0:(0:Int)<RL.length:=by omega
   have q1:(n:Int)<=RL.length:=by omega
   have q2:(0:Int)<=(n:Int):=by omega
   have q3:(n:Int)<=c:=by omega
   have q4:RL.length<=c:=eA;have q5:(t:Int)<=63:=ht.2;have q6:(n:Int)<=500:=by omega
   have q7:(G.length:Int)<=500:=by omega
   have aq:=ij (fun u=>i6 t u (by omega));have ap:=ij (fun u=>i6 n u (by omega));have eT:=jZ t (by omega);have eN:=jZ n (by omega);have bt:=jL (n:=t) (by omega);have bn:=jL (n:=n) (by omega);obtain⟨Z1,O⟩:∃ Y,G.flatMap runB++numB t=Y:=⟨_,rfl⟩;obtain⟨W,P⟩:∃ Y,Z1++numB n=Y:=⟨_,rfl⟩;have l1:Z1.length<=20*G.length+10:=by rw [<-O,List.length_append];omega
   have l2:W.length<=20*G.length+20:=by rw [<-P,List.length_append];omega
   have z1:=jV O (by omega);have z2:=jV P (by omega);have V:Hid ((G++[((t:Int),(n:Int))]).flatMap runB=W):=by
    unfold Hid;rw [<-P,<-O];simp [runB,wInt]
   have a0:=ij aL;have aX:Hid (∀ (w':World),Hid (w.grownBy w' none)->∃ (a:Option Addr) (c_1:Nat) (m:List Int) (G':List (Int × Int)),Value.int .i64 ((G.length:Int)+1)= .int .i64 G'.length/\Value.string (bs W)= .string (bs (G'.flatMap runB))/\Value.slice (if c=n then some { block:=g,off:=o} else some { block:=g,off:=o+n}) (RL.length - n) (c - n)= .slice a m.length c_1/\Hid (IntsAt w.heap.size w (.slice a m.length c_1) m)/\Hid (w.grownBy w' none)/\Hid (G'++grp m=grp s)/\Hid (∀ x∈m,x∈s)/\G'.length+m.length<=500/\(G'.flatMap runB).length<=20*G'.length):=by
    intro w' eB;have hd:=a0.out;refine⟨_,c - n,RL.drop n,G++[((t:Int),(n:Int))],by simp,by rw [V.out],by rw [hd],?_,eB,?_,?_,by rw [hd,List.length_append];simp;omega,by rw [V.out,List.length_append];simp;omega⟩
    ·rw [hd];exact ij (T.out.tail n eC _ (fun h=>by rw [if_neg (by omega)]))
    ·unfold Hid;rw [<-ai.out,a5.out];simp
    ·exact ij (fun x b=>HM.out x (List.mem_of_mem_drop b))
   clear O P l1 l2 aL V;go_upto_region 23 with (go_at_call 68;refine bc.out.mono ?_;rintro e w6 ⟨rfl,af⟩;have a1:=ij (il z.out af);have c6:=ip af _ _ bf;clear af)
   go_upto_region 24 with (go_at_call 66;first | (refine(aq.out _).mono ?_;clear aq;rintro e w7 ⟨rfl,aM⟩;have a2:=ij (il a1.out aM);clear aM) | (refine(ap.out _).mono ?_;clear ap;rintro e w8 ⟨rfl,aN⟩;have a3:=ij (il a2.out aN);clear aN))
   go_wp2_with fail
   go_roundw
   case rel=>exact aX.out _ a3
   case measure=>simp [lenOf];omega
end
end Go.Proofs.YtklenjmfalljgabGreatDoor
