/- The texts Kqa Hgt Hgx Kqb Kqc Hgy Hgw. -/
import Derived.Test.YtklenjmfalljgabGreatDoorM01
import Derived.Test.YtklenjmfalljgabGreatDoorM09
import Derived.Test.YtklenjmfalljgabGreatDoorM10
import Derived.Test.YtklenjmfalljgabGreatDoorM11
namespace Go.Proofs.YtklenjmfalljgabGreatDoor
set_option maxRecDepth 100000
set_option maxHeartbeats 8000000
section
open Go.RowKit
attribute [local go_sem] Go.World.cell?_alloc_some
theorem yi:((Tryz.prog.info? 65).map fun i=>(i.zero,i.size,i.bytes))=some (some (.agg #[.int .i64 0,.int .i64 0,.int .i64 0,.int .i64 0]),4,32):=by kernel_rfl
theorem yl:((Tryz.prog.info? 66).map fun i=>(i.zero,i.size,i.bytes))=some (some (.slice none 0 0),1,24):=by kernel_rfl
theorem A3(m:Int)(xs:List Value)(k len:Nat)(hx:xs.length=len*4)(hk:k<len):((((((List.replicate k (elC m 3)).flatten++xs.drop (k*4)).set (k*4) (.int .i64 m)).set (k*4+1) (.int .i64 0)).set (k*4+2) (.int .i64 0)).set (k*4+3) (.int .i64 0))=(List.replicate (k+1) (elC m 3)).flatten++xs.drop ((k+1)*4):=by
 obtain⟨e,h⟩:∃ e,e=(List.replicate k (elC m 3)).flatten:=⟨_,rfl⟩;have j:e.length=k*4:=by rw [h];exact jW _ _
 rw [<-jw,<-h];have f:4<=(xs.drop (k*4)).length:=by rw [List.length_drop];omega
 have i:xs.drop ((k+1)*4)=(xs.drop (k*4)).drop 4:=by rw [List.drop_drop];congr 1<;>omega
 rw [i];generalize xs.drop (k*4)=zs at f;obtain⟨b,z1,c,d,a,rfl⟩:∃ b z1 c d a,zs=b::z1::c::d::a:=by
  match zs,f with
  | b::z1::c::d::a,_=>exact⟨b,z1,c,d,a,rfl⟩
 rw [<-j];simp [elC]
theorem Av{B:Nat}{w:World}{b n3 t tg tl tc:Nat}(h3:w.cell? ⟨n3,0,none⟩=some (.slice (some ⟨tg,0,none⟩) tl tc))(ht:t<tl)(htl:tl<=1000){who:Nat->Role}{n:Int}{f:Nat->Value}{K:Nat->List (Value × Int)}{x1:Option Addr}{x3 len:Nat}{xs:List Value}(cT:w.cell? ⟨tg,t,none⟩=some (.slice x1 len x3))(r:HsK B w b who n f K)(V:w.ownsRow B 65 4 (.slice x1 len x3) len xs)(E:∀ g,(Value.slice x1 len x3).ownBlock=some g->who g= .other)
  (db:0<=n) (hn1:n<=10000000000000) (hK:(K 3).length<=5000000000000) (ha:len<=900)
  {Q':Exit->Act->World->Prop} {c1 c2 c5 c6 D c8 c9 ao aB aF aG aH aI aJ aK bN bO bP bQ bR bS bT bU bV bW bX bY bZ b0 b1 b2 b3 b4 b5 b6 b7 b8 b9 ca cb cc cd ce cf cg ch ci ck cl cm cn co cq cr ct cv cw cx cy cz cA cB cC cD aM aN aO aP aQ aR aS aT aU aV aW aX aY aZ a0 a1 a2 a3 a4 a5 a6 a7 a8 ba bb bc bd be bf bg bh bi bj ap aq ar au av aw ax ay az aA aC aD aE:Value}
  (bH:Hid (∀ {z5 z6 z7 z8 dx dy dz dA dB dC dD dE dF dG dH dI dJ dK dL dM dN dO dP dQ dR dS dT dU dV dW dX dY dZ d0 d1 d2 d4 d5 d6 d7 d8 d9 ea eb ec ed ef eg eh ei el em en:Value} (w':World),(∃ who' f' K',HsK B w' b who' (n+1) f' K'/\After 3 w w' who who' f f' K K' (fun g=>(Value.slice x1 len x3).ownBlock=some g))->Q' .normal ⟨#[.pointer (some ⟨b,0,none⟩),c1,c2,.pointer (some ⟨n3,0,none⟩),.int .i64 ((t:Int)+1),z5,z6,z7,z8,c9,ao,aB,aF,aG,aH,aI,aJ,aK,dx,dy,dz,dA,dB,dC,dD,dE,dF,dG,dH,dI,dJ,dK,dL,dM,dN,dO,dP,dQ,dR,dS,dT,dU,dV,dW,dX,dY,dZ,d0,d1,d2,d4,d5,d6,d7,d8,d9,ea,eb,ec,ed,ef,eg,eh,ei,el,em,en,aM,aN,aO,aP,aQ,aR,aS,aT,aU,aV,aW,aX,aY,aZ,a0,a1,a2,a3,a4,a5,a6,a7,a8,ba,bb,bc,bd,be,bf,bg,bh,bi,bj,ap,aq,ar,au,av,aw,ax,ay,az,aA,aC,aD,aE],[]⟩ w')):
  Code.wp Tryz.prog (tailOf Tryz.f44 4) Q' ⟨#[.pointer (some ⟨b,0,none⟩),c1,c2,.pointer (some ⟨n3,0,none⟩),.int .i64 (t:Int),c5,c6,D,c8,c9,ao,aB,aF,aG,aH,aI,aJ,aK,bN,bO,bP,bQ,bR,bS,bT,bU,bV,bW,bX,bY,bZ,b0,b1,b2,b3,b4,b5,b6,b7,b8,b9,ca,cb,cc,cd,ce,cf,cg,ch,ci,ck,cl,cm,cn,co,cq,cr,ct,cv,cw,cx,cy,cz,cA,cB,cC,cD,aM,aN,aO,aP,aQ,aR,aS,aT,aU,aV,aW,aX,aY,aZ,a0,a1,a2,a3,a4,a5,a6,a7,a8,ba,bb,bc,bd,be,bf,bg,bh,bi,bj,ap,aq,ar,au,av,aw,ax,ay,az,aA,aC,aD,aE],[]⟩ w:=by
 conv=>arg 2;whnf
 obtain⟨i0,cU,dk,dl,dm⟩:=info_parts yi;obtain⟨i1,cV,dh,di,dj⟩:=info_parts yl;obtain⟨i2,cW,de,df,dg⟩:=info_parts ji;have bw:=V.1;have q3:(t:Int)<tl:=by omega
 have q4:(0:Int)<=(t:Int):=by omega
 have q5:(tl:Int)<=1000:=by omega
 go_upto_region 5 with fail
 clear h3 cT q3 q4 q5;have HM:=ij (oO r.1 db (by omega));have HO:=ij E;have H0:Hid (WrG B 3 w (w.setCell ⟨b,5,none⟩ (.int .i64 (n+1))) b who (n+1) f (setF f 5 (.int .i64 (n+1))) K (.slice x1 len x3) len xs (-77000000 - (n+1)) 0):=by
  refine⟨⟨r.1.setCnt _,r.2⟩,?_,?_,fun o E=>iN _ _ (by omega)⟩
  ·have cS:(Value.slice x1 len x3).ownBlock≠some b:=fun e=>by have:=E b e;rw [r.1.wb]at this;cases this
   have h5:=ownsRow_setCell_other (a:=⟨b,5,none⟩) V cS (.int .i64 (n+1));have e5:(List.replicate 0 (elC (-77000000 - (n+1)) 3)).flatten++xs.drop (0*(elC (-77000000 - (n+1)) 3).length)=xs:=by simp
   rw [e5];exact h5
  ·exact Fr.set (Or.inl (by rw [r.1.wb];simp))
 have bt:pt b= .pointer (some ⟨b,0,none⟩):=rfl;rw [bt]at*;clear r V E bt;generalize hm: -77000000 - (n+1)=m at*;have HMM:=ij hm;clear hm;go_wp2_with (go_at_call 55;refine HM.out.mono ?_;rintro e w1 ⟨rfl,rfl⟩)
 go_loopw [7] (fun i w'=>∃ k:Nat,k<=len/\i= .int .i64 k/\Hid (WrG B 3 w w' b who (n+1) f (setF f 5 (.int .i64 (n+1))) K (.slice x1 len x3) len xs m k)) (fun i _=>len - (intOf i).toNat)
 case atStart=>exact⟨0,Nat.zero_le _,rfl,H0⟩
 case round=>
  clear H0 HM;obtain⟨k,U,rfl,q⟩:=hrel;obtain⟨d,bu⟩:∃ d,d=wr:=⟨_,rfl⟩;rw [<-bu]at q ⊢;clear bu;by_cases cY:k<len
  ·obtain⟨g,cp,O,_,_⟩:=q.out.row.form (by omega);have l:d.ownsRow B 65 4 (.slice x1 len x3) len ((List.replicate k (elC m 3)).flatten++xs.drop (k*4)):=q.out.row;rw [O]at l;simp only [Value.slice.injEq,true_and]at O;obtain⟨rfl,rfl⟩:=O;have y:=HO.out g rfl;obtain⟨u0,y0⟩:∃ u,d.cell? ⟨g,k*4,none⟩=some u:=jJ l (by omega);have z0:d.frozen? ⟨g,k*4,none⟩=false:=jK l;obtain⟨u1,y1⟩:∃ u,d.cell? ⟨g,k*4+1,none⟩=some u:=jJ l (by omega);have z1:d.frozen? ⟨g,k*4+1,none⟩=false:=jK l;obtain⟨u2,y2⟩:∃ u,d.cell? ⟨g,k*4+2,none⟩=some u:=jJ l (by omega);have z2:d.frozen? ⟨g,k*4+2,none⟩=false:=jK l;obtain⟨u3,y3⟩:∃ u,d.cell? ⟨g,k*4+3,none⟩=some u:=jJ l (by omega);have z3:d.frozen? ⟨g,k*4+3,none⟩=false:=jK l;have bJ:Hid (WrG B 3 w ((((d.setCell ⟨g,k*4,none⟩ (.int .i64 m)).setCell ⟨g,k*4+1,none⟩ (.int .i64 0)).setCell ⟨g,k*4+2,none⟩ (.int .i64 0)).setCell ⟨g,k*4+3,none⟩ (.int .i64 0)) b who (n+1) f (setF f 5 (.int .i64 (n+1))) K (.slice (some ⟨g,0,none⟩) len x3) len xs m (k+1)):=by
    have Y:=q.out;refine⟨((((Y.hs.setOther y).setOther y).setOther y).setOther y),?_,?_,Y.lent⟩
    ·have h9:=(iU (iU (iU (iU l (k*4) (.int .i64 m)) (k*4+1) (.int .i64 0)) (k*4+2) (.int .i64 0)) (k*4+3) (.int .i64 0));have P:=A3 m xs k len bw cY;rw [P]at h9;exact h9
    ·exact((((Y.fr).trans (Fr.set (Or.inr rfl))).trans (Fr.set (Or.inr rfl))).trans (Fr.set (Or.inr rfl))).trans (Fr.set (Or.inr rfl))
   have q0:(0:Int)<=(k:Int):=by omega
   have q1:(k:Int)<len:=by omega
   clear l y;go_wp2_with fail
   go_roundw
   case rel=>exact⟨k+1,by omega,by go_num,bJ⟩
   case measure=>simp [intOf];omega
  ·have ek:k=len:=by omega
   have q1:(len:Int)<=(k:Int):=by omega
   have HS:Hid (∃ ag,KpG B 3 w d b who ag (n+1) m f (setF f 5 (.int .i64 (n+1))) K K (.slice x1 len x3) len 0 (fun g=>(Value.slice x1 len x3).ownBlock=some g)):=by
    have hi:=q.out;rw [ek]at hi;exact hi.kp (by omega) bw (by omega) HO.out
   clear q ek;go_wp2_with fail
   go_loopw [5,8] (fun lv' i w'=>∃ (k:Nat) (who':Nat->Role) (f':Nat->Value) (K':Nat->List (Value × Int)),k<=4/\i= .int .i64 k/\Hid (KpG B 3 w w' b who who' (n+1) m f f' K K' lv' (len+k) k (fun g=>(Value.slice x1 len x3).ownBlock=some g))) (fun _ i _=>4 - (intOf i).toNat)
   case atStart=>
    obtain⟨ag,h1⟩:=HS.out;exact⟨0,ag,_,K,by omega,rfl,ij h1⟩
   case round=>
    clear HS;obtain⟨j,who',f',K',hj,rfl,h⟩:=hrel;obtain⟨c,bv⟩:∃ c,c=wr:=⟨_,rfl⟩;rw [<-bv]at h ⊢;clear bv;have A:c.ownsRow B 66 1 (f' 12) (K' 3).length ((K' 3).map (·.1)):=h.out.hs.lst 3 (by omega);have rM:c.ownsRow B 3 1 (f' 13) (K' 3).length (ints ((K' 3).map (·.2))):=by have:=h.out.hs.mrk 3 (by omega);simpa [marksOf]using this
    have H:c.ownsRow B 65 4 u5 (len+j) (List.replicate (len+j) (elC m 3)).flatten:=h.out.cu.row;have bI:Hid ((K' 3).length=(K 3).length+j):=h.out.len;have c6:c.cell? ⟨b,12,none⟩=some (f' 12):=h.out.hs.blk.cell (by omega);have hbase:B<=c.heap.size:=by have:=h.out.hs.blk.lt;have:=(h.out.hs.dom b (by rw [h.out.hs.wb];simp)).1;omega
    obtain⟨v,l2,x,rfl⟩:=iw H;have cX:=iB H;subst cX;obtain⟨o1,o2,o3,R⟩:=iw A;rw [R]at A c6;have dc:=iB A;subst dc;have cR:(K' 3).length<=5000000000003\/¬j<4:=by have:=bI.out;omega
    have bK:=ij H;have al:=ij A;have I:=ij R;have bM:=ij rM;clear H A rM R;by_cases hj4:j<4
    ·have cR:(K' 3).length<=5000000000003:=by omega
     have z2:(j:Int)<4:=by omega
     have bm:(K' 3).length+1<=maxLen:=by unfold maxLen;omega
     have cP:len+j+1<=maxLen:=by unfold maxLen;omega
     have M:Hid (∀ {o:Obj} {g6 c6:Nat} {w6:World},w6.ownsRow B 66 1 (.slice (some ⟨g6,0,none⟩) ((K' 3).length+1) c6) ((K' 3).length+1) ((K' 3).map (·.1)++[.slice v (len+j) x])->
       (((Value.slice o1 (K' 3).length o3).ownBlock=some g6/\(c.alloc o).grownBy w6 (some g6))\/(g6=c.heap.size+1/\(c.alloc o).grownBy w6 none))->
       HB w6 b f'/\∃ who'' f'',KpA B 3 w (w6.setCell ⟨b,12,none⟩ (.slice (some ⟨g6,0,none⟩) ((K' 3).length+1) c6)) b who who'' (n+1) m f f'' K K' (.slice v (len+j) x) (len+j) j (fun g=>(Value.slice x1 len x3).ownBlock=some g)/\f'' 13=f' 13):=by
      intro o g6 c6 w6 dd key;rw [<-I.out]at key;exact h.out.push (by omega) dd key
     generalize bo:(K' 3).length=N at*;generalize cQ:(K' 3).map (·.1)=L1 at*;have L:=ij bo;clear bo cQ;go_upto_region 14 with (at_builtin;go_must (refine iE rfl _ _ _ rfl B 66 i1 _ 1 24 Tryz.underlying35 cV dh di dj rfl (by omega) (.slice o1 N o3) N L1 rfl (iG al.out) ⟨c.heap.size,0,none⟩ 1 1 [.slice v (len+j) x] rfl rfl (World.news_of_block (cs:= #[.slice v (len+j) x]) (t:=66) (fr:=(0,0)) (heap_alloc_new c _)) (by simp [Value.oneCell']) (by omega) bm (by omega) (by simp;omega) (c.heap.size+1) (by simp) ?_);intro g8 cG w8 X aa c4;have T:=(M.out X aa).1;have p6:w8.cell? ⟨b,12,none⟩=some (.slice o1 N o3):=(by rw [T.cell (by omega),I.out]);have p7:=T.frozen 12)
     obtain⟨_,who9,f9,p,P⟩:=M.out X aa;generalize w8.setCell ⟨b,12,none⟩ (.slice (some ⟨g8,0,none⟩) (N+1) cG)=w9 at*;have J:=ij p;have z:w9.ownsRow B 3 1 (f9 13) N (ints ((K' 3).map (·.2))):=by
      have:=p.hs.mrk 3 (by omega);rw [<-L.out];simpa [marksOf]using this
     have D:w9.cell? ⟨b,13,none⟩=some (f9 13):=p.hs.blk.cell (by omega);obtain⟨F,m2,G,Q⟩:=iw z;rw [Q]at z D;have da:=(iB z).symm;subst da;have hbase9:B<=w9.heap.size:=by have:=p.hs.blk.lt;have:=(p.hs.dom b (by rw [p.hs.wb];simp)).1;omega
     have ak:=ij z;have C:=ij Q;clear X aa T p6 p7 c4 c6 p P M z Q I al bM;go_upto_region 15 with (at_builtin;go_must (refine iE rfl _ _ _ rfl B 3 i2 _ 1 8 Tryz.underlying39 cW de df dg rfl (by omega) (.slice F N G) N (ints ((K' 3).map (·.2))) rfl (iG ak.out) ⟨w9.heap.size,0,none⟩ 1 1 [.int .i64 m] rfl rfl (World.news_of_block (cs:= #[.int .i64 m]) (t:=3) (fr:=(0,0)) (heap_alloc_new w9 _)) (by simp [Value.oneCell']) (by omega) bm (by omega) (by simp;omega) (w9.heap.size+1) (by simp) ?_);intro cJ cF bB W Z cZ;have S:=(J.out.tell (by omega) (M1:=F) (M3:=G) C.out L.out W Z).1;have p6:bB.cell? ⟨b,13,none⟩=some (.slice F N G):=(by rw [S.cell (by omega),C.out]);have p7:=S.frozen 13)
     obtain⟨_,who11,f11,s⟩:=J.out.tell (by omega) (M1:=F) (M3:=G) C.out L.out W Z;generalize bB.setCell ⟨b,13,none⟩ (.slice (some ⟨cJ,0,none⟩) (N+1) cF)=w11 at*;have bF:=ij s;have bL:Hid (w11.ownsRow B 65 4 (.slice v (len+j) x) (len+j) (List.replicate (len+j) (elC m 3)).flatten):=s.cu.row;have hbase11:B<=w11.heap.size:=by have:=s.hs.blk.lt;have:=(s.hs.dom b (by rw [s.hs.wb];simp)).1;omega
     clear W Z S p6 p7 cZ D s J ak C bK;go_wp2_with (at_builtin;go_must (refine iE rfl _ _ _ rfl B 65 i0 _ 4 32 Tryz.underlying66 cU dk dl dm rfl (by omega) (.slice v (len+j) x) (len+j) (List.replicate (len+j) (elC m 3)).flatten rfl (iG bL.out) ⟨w11.heap.size,0,none⟩ 1 1 [.int .i64 m,.int .i64 0,.int .i64 0,.int .i64 0] rfl rfl (World.news_of_block (cs:= #[.int .i64 m,.int .i64 0,.int .i64 0,.int .i64 0]) (t:=65) (fr:=(0,0)) (heap_alloc_new w11 _)) (by simp [Value.oneCell']) (by omega) cP (by omega) (by simp;omega) (w11.heap.size+1) (by simp) ?_);intro g12 cap12 w12 br bx c3;have bG:=ij (bF.out.grow (by omega) (by omega) br bx);clear br bx c3)
     go_roundw
     case rel=>
      obtain⟨dw,cM⟩:=bG.out;exact⟨j+1,dw,_,_,by omega,by go_num,ij cM⟩
     case measure=>simp [intOf];omega
    ·have z2:(4:Int)<=(j:Int):=by omega
     have HE:Hid (∃ who' f' K',HsK B c b who' (n+1) f' K'/\After 3 w c who who' f f' K K' (fun g=>(Value.slice x1 len x3).ownBlock=some g)):=by
      have ej:j=4:=by omega
      have U:=h.out;rw [ej]at U;exact U.done
     go_wp2_with fail
     exact bH.out c HE.out
end
section
open Go.RowKit
structure Cu4(B:Nat)(w:World)(who:Nat->Role)(m:Int)(c:Nat)(lv:Value)(len:Nat)(R:List Value)(K:Nat->List (Value × Int)):Prop where
 row:w.ownsRow B 66 1 lv len R
 el:∀ k,k<len->∃ g' cap',R[k]?=some (.slice (some ⟨g',0,none⟩) 1 cap')/\w.heap[g']?=some (.cells (elC m 3).toArray 65 (0,0))/\who g'= .kept
 wc:∀ g,lv.ownBlock=some g->who g= .cur
 ent:∀ x∈K c,∀ g,x.1.ownBlock=some g->who g= .cur->x.2=m/\∃ l c',x.1= .slice (some ⟨g,0,none⟩) l c'/\(lv.ownBlock=some g->l<=len)
 oth:∀ c',c'<5->c'≠c->∀ x∈K c',∀ g,x.1.ownBlock=some g->who g= .kept
 ln:len<=1000
section
variable {B : Nat} {w w6 : World} {b : Nat} {who : Nat -> Role} {n m : Int} {f : Nat -> Value} {K : Nat -> List (Value × Int)} {M : Nat -> List Int} {c : Nat} {lv : Value} {len : Nat} {R : List Value}
theorem Cu4.keptNow4(a:Cu4 B w who m c lv len R K)(hc:c=4):KeptC c w who (lv,m):=by
 subst hc;rcases a.row.2 with ⟨e,_⟩ | ⟨g,cap,cur,hv,hbb,hh,hrest⟩
 ·exact Or.inl e
 ·refine Or.inr ⟨g,len,cap,hv,a.ln,?_⟩;have b:=a.row;rw [hv]at b;refine kl.2 fun k hk=>?_
  obtain⟨f,d,h,i,j⟩:=a.el k hk;exact⟨f,d,by rw [b.cellAt k (by omega)];exact h,i,j⟩
theorem Hs.push4(h:Hs B w b who n f K M)(i:Cu4 B w who m c lv len R K)(hc:c=4){o:Obj}{g6 c6:Nat}
  (D:w6.ownsRow B (tlC c) 1 (.slice (some ⟨g6,0,none⟩) ((K c).length+1) c6) ((K c).length+1) ((K c).map (·.1)++[lv]))
  (key:((f (6+2*c)).ownBlock=some g6/\(w.alloc o).grownBy w6 (some g6))\/(g6=w.heap.size+1/\(w.alloc o).grownBy w6 none)):
  Hs B (w6.setCell ⟨b,6+2*c,none⟩ (.slice (some ⟨g6,0,none⟩) ((K c).length+1) c6)) b (setW who g6 (.lst c)) n (setF f (6+2*c) (.slice (some ⟨g6,0,none⟩) ((K c).length+1) c6)) (setK K c (K c++[(lv,m)])) M/\
  Cu4 B (w6.setCell ⟨b,6+2*c,none⟩ (.slice (some ⟨g6,0,none⟩) ((K c).length+1) c6)) (setW who g6 (.lst c)) m c lv len R (setK K c (K c++[(lv,m)])):=by
 have N:c<5:=by omega
 obtain⟨hsz,v,hsr,h6r⟩:=jp key (fun g e=>(h.dom g e).2) (r:= .lst c) (by simp) (h.wl c N);have J:g6≠b:=(v b (by rw [h.wb];simp) (by rw [h.wb];simp)).2;have L:HB w6 b f:=h.blk.same (v b (by rw [h.wb];simp) (by rw [h.wb];simp)).1;generalize H:Value.slice (some ⟨g6,0,none⟩) ((K c).length+1) c6=V at*;have t:V.ownBlock=some g6:=by rw [<-H];rfl
 have C:∀ g,who g≠ .other->who g≠ .lst c->g≠b->(w6.setCell ⟨b,6+2*c,none⟩ V).heap[g]?=w.heap[g]?:=fun g p q h3=>by
  rw [Below.heap_setCell _ _ _ _ (by simpa using h3)];exact(v g p q).1
 have s:∀ g,who g≠ .other->who g≠ .lst c->setW who g6 (.lst c) g=who g:=fun g p q=>iJ _ _ (fun e=>(v g p q).2 e.symm)
 have A:∀ g,who g= .kept\/who g= .cur->(w6.setCell ⟨b,6+2*c,none⟩ V).heap[g]?=w.heap[g]?:=fun g e=>C g (by rcases e with e | e<;>rw [e]<;>simp) (by rcases e with e | e<;>rw [e]<;>simp) (fun d=>by subst d;rw [h.wb]at e;rcases e with e | e<;>cases e)
 have u:∀ g,who g= .kept->setW who g6 (.lst c) g= .kept:=fun g e=>by rw [s g (by rw [e];simp) (by rw [e];simp)];exact e
 have z:∀ g,who g= .cur->setW who g6 (.lst c) g= .cur:=fun g e=>by rw [s g (by rw [e];simp) (by rw [e];simp)];exact e
 have I:∀ g,who g= .kept\/who g= .cur->setW who g6 (.lst c) g= .kept\/setW who g6 (.lst c) g= .cur:=fun g e=>e.imp (u g) (z g)
 have O:∀ g,setW who g6 (.lst c) g= .cur->who g= .cur:=fun g e=>by
  by_cases d:g=g6
  ·subst d;rw [iY]at e;cases e
  ·rwa [iJ _ _ d]at e
 have F:∀ c' x,c'<5->x∈K c'->KeptC c' (w6.setCell ⟨b,6+2*c,none⟩ V) (setW who g6 (.lst c)) x/\∀ g,x.1.ownBlock=some g->setW who g6 (.lst c) g= .kept\/setW who g6 (.lst c) g= .cur:=fun c' x hc' hx=>by
  obtain⟨k1,k2⟩:=h.kept c' hc' x hx;exact⟨(k1.same k2 A).who u,fun g e=>I g (k2 g e)⟩
 have Q:(w6.setCell ⟨b,6+2*c,none⟩ V).ownsRow B 66 1 lv len R:=iI i.row (fun g e=>A g (Or.inr (i.wc g e)));have P:∀ k,k<len->∃ j y,R[k]?=some (.slice (some ⟨j,0,none⟩) 1 y)/\(w6.setCell ⟨b,6+2*c,none⟩ V).heap[j]?=some (.cells (elC m 3).toArray 65 (0,0))/\setW who g6 (.lst c) j= .kept:=fun k hk=>by
  obtain⟨j,y,S,T,G⟩:=i.el k hk;exact⟨j,y,S,by rw [A j (Or.inl G)];exact T,u j G⟩
 have E:Cu4 B (w6.setCell ⟨b,6+2*c,none⟩ V) (setW who g6 (.lst c)) m c lv len R (setK K c (K c++[(lv,m)])):=by
  refine⟨Q,P,fun g e=>z g (i.wc g e),fun x hx g e d=>?_,fun c' hc' hne x hx g e=>?_,i.ln⟩
  ·rw [kN]at hx;rcases List.mem_append.1 hx with hx | hx
   ·exact i.ent x hx g e (O g d)
   ·simp at hx;subst hx;refine⟨rfl,?_⟩;rcases i.row.2 with ⟨e3,_⟩ | ⟨j,cap,cur,hv,_⟩
    ·simp only at e;rw [e3]at e;cases e
    ·simp only at e;rw [hv]at e;simp only [Value.ownBlock,Option.some.injEq]at e;exact⟨len,cap,by rw [hv,e],fun _=>Nat.le_refl _⟩
  ·rw [kO _ _ hne]at hx;exact u g (i.oth c' hc' hne x hx g e)
 refine⟨⟨L.set (by omega) V,by rw [iN _ _ (by omega)];exact h.cnt,fun c' hc'=>?_,fun c' hc'=>?_,fun c' hc' g e=>?_,fun c' hc' g e=>?_,?_,fun c' hc' x hx=>?_,fun g e=>?_⟩,E⟩
 ·by_cases e:c'=c
  ·subst e;rw [jM,kN];have:=ownsRow_setCell_other (a:=⟨b,6+2*c',none⟩) D (show V.ownBlock≠some b by rw [t];simpa using J) V;simpa using this
  ·rw [iN _ _ (by omega),kO _ _ e];exact iI (h.lst c' hc') (fun g d=>C g (by rw [h.wl c' hc' g d];simp) (by rw [h.wl c' hc' g d];simpa using e) (fun e3=>by subst e3;have:=h.wl c' hc' g d;rw [h.wb]at this;cases this))
 ·rw [iN _ _ (by omega)];exact iI (h.mrk c' hc') (fun g d=>C g (by rw [h.wm c' hc' g d];simp) (by rw [h.wm c' hc' g d];simp) (fun e3=>by subst e3;have:=h.wm c' hc' g d;rw [h.wb]at this;cases this))
 ·by_cases d:c'=c
  ·subst d;rw [jM,t]at e;simp only [Option.some.injEq]at e;subst e;exact iY _ _ _
  ·rw [iN _ _ (by omega)]at e;have:=h.wl c' hc' g e;rw [s g (by rw [this];simp) (by rw [this];simpa using d),this]
 ·rw [iN _ _ (by omega)]at e;have:=h.wm c' hc' g e;rw [s g (by rw [this];simp) (by rw [this];simp),this]
 ·rw [s b (by rw [h.wb];simp) (by rw [h.wb];simp),h.wb]
 ·by_cases d:c'=c
  ·subst d;rw [kN]at hx;rcases List.mem_append.1 hx with hx | hx
   ·exact F c' x hc' hx
   ·simp at hx;subst hx;exact⟨E.keptNow4 hc,fun g e=>Or.inr (z g (i.wc g e))⟩
  ·rw [kO _ _ d]at hx;exact F c' x hc' hx
 ·by_cases d:g=g6
  ·subst d;have p:=iA D g t;have q:=iP D g t;exact⟨p,by simpa using q⟩
  ·rw [iJ _ _ d]at e;have:=h.dom g e;exact⟨this.1,by simp;omega⟩
theorem Hs.tell4(h:Hs B w b who n f K M)(i:Cu4 B w who m c lv len R K)(hc:c=4){o:Obj}{g6 c6:Nat}
  (z:w6.ownsRow B 3 1 (.slice (some ⟨g6,0,none⟩) ((M c).length+1) c6) ((M c).length+1) (ints (M c)++[.int .i64 m]))
  (key:((f (7+2*c)).ownBlock=some g6/\(w.alloc o).grownBy w6 (some g6))\/(g6=w.heap.size+1/\(w.alloc o).grownBy w6 none)):
  Hs B (w6.setCell ⟨b,7+2*c,none⟩ (.slice (some ⟨g6,0,none⟩) ((M c).length+1) c6)) b (setW who g6 (.mrk c)) n (setF f (7+2*c) (.slice (some ⟨g6,0,none⟩) ((M c).length+1) c6)) K (setM M c (M c++[m]))/\
  Cu4 B (w6.setCell ⟨b,7+2*c,none⟩ (.slice (some ⟨g6,0,none⟩) ((M c).length+1) c6)) (setW who g6 (.mrk c)) m c lv len R K:=by
 have H:c<5:=by omega
 obtain⟨hsz,t,hsr,h6r⟩:=jp key (fun g e=>(h.dom g e).2) (r:= .mrk c) (by simp) (h.wm c H);have F:g6≠b:=(t b (by rw [h.wb];simp) (by rw [h.wb];simp)).2;have G:HB w6 b f:=h.blk.same (t b (by rw [h.wb];simp) (by rw [h.wb];simp)).1;generalize E:Value.slice (some ⟨g6,0,none⟩) ((M c).length+1) c6=V at*;have q:V.ownBlock=some g6:=by rw [<-E];rfl
 have y:∀ g,who g≠ .other->who g≠ .mrk c->g≠b->(w6.setCell ⟨b,7+2*c,none⟩ V).heap[g]?=w.heap[g]?:=fun g j l h3=>by
  rw [Below.heap_setCell _ _ _ _ (by simpa using h3)];exact(t g j l).1
 have p:∀ g,who g≠ .other->who g≠ .mrk c->setW who g6 (.mrk c) g=who g:=fun g j l=>iJ _ _ (fun e=>(t g j l).2 e.symm)
 have v:∀ g,who g= .kept\/who g= .cur->(w6.setCell ⟨b,7+2*c,none⟩ V).heap[g]?=w.heap[g]?:=fun g e=>y g (by rcases e with e | e<;>rw [e]<;>simp) (by rcases e with e | e<;>rw [e]<;>simp) (fun d=>by subst d;rw [h.wb]at e;rcases e with e | e<;>cases e)
 have s:∀ g,who g= .kept->setW who g6 (.mrk c) g= .kept:=fun g e=>by rw [p g (by rw [e];simp) (by rw [e];simp)];exact e
 have A:∀ g,who g= .cur->setW who g6 (.mrk c) g= .cur:=fun g e=>by rw [p g (by rw [e];simp) (by rw [e];simp)];exact e
 have I:∀ g,setW who g6 (.mrk c) g= .cur->who g= .cur:=fun g e=>by
  by_cases d:g=g6
  ·subst d;rw [iY]at e;cases e
  ·rwa [iJ _ _ d]at e
 refine⟨⟨G.set (by omega) V,by rw [iN _ _ (by omega)];exact h.cnt,fun c' hc'=>?_,fun c' hc'=>?_,fun c' hc' g e=>?_,fun c' hc' g e=>?_,?_,fun c' hc' x hx=>?_,fun g e=>?_⟩,
  ⟨iI i.row (fun g e=>v g (Or.inr (i.wc g e))),fun k hk=>(by obtain⟨u,D,J,L,C⟩:=i.el k hk;exact⟨u,D,J,by rw [v u (Or.inl C)];exact L,s u C⟩),fun g e=>A g (i.wc g e),fun x hx g e d=>i.ent x hx g e (I g d),fun c' hc' hne x hx g e=>s g (i.oth c' hc' hne x hx g e),i.ln⟩⟩
 ·rw [iN _ _ (by omega)];exact iI (h.lst c' hc') (fun g d=>y g (by rw [h.wl c' hc' g d];simp) (by rw [h.wl c' hc' g d];simp) (fun e3=>by subst e3;have:=h.wl c' hc' g d;rw [h.wb]at this;cases this))
 ·by_cases e:c'=c
  ·subst e;rw [jM,vc];have:=ownsRow_setCell_other (a:=⟨b,7+2*c',none⟩) z (show V.ownBlock≠some b by rw [q];simpa using F) V;simpa [ints]using this
  ·rw [iN _ _ (by omega),vd _ _ e];exact iI (h.mrk c' hc') (fun g d=>y g (by rw [h.wm c' hc' g d];simp) (by rw [h.wm c' hc' g d];simpa using e) (fun e3=>by subst e3;have:=h.wm c' hc' g d;rw [h.wb]at this;cases this))
 ·rw [iN _ _ (by omega)]at e;have:=h.wl c' hc' g e;rw [p g (by rw [this];simp) (by rw [this];simp),this]
 ·by_cases d:c'=c
  ·subst d;rw [jM,q]at e;simp only [Option.some.injEq]at e;subst e;exact iY _ _ _
  ·rw [iN _ _ (by omega)]at e;have:=h.wm c' hc' g e;rw [p g (by rw [this];simp) (by rw [this];simpa using d),this]
 ·rw [p b (by rw [h.wb];simp) (by rw [h.wb];simp),h.wb]
 ·obtain⟨k1,k2⟩:=h.kept c' hc' x hx;exact⟨(k1.same k2 v).who s,fun g e=>(k2 g e).imp (s g) (A g)⟩
 ·by_cases d:g=g6
  ·subst d;have j:=iA z g q;have l:=iP z g q;exact⟨j,by simpa using l⟩
  ·rw [iJ _ _ d]at e;have:=h.dom g e;exact⟨this.1,by simp;omega⟩
theorem Hs.grow4(h:Hs B w b who n f K M)(i:Cu4 B w who m c lv len R K)(hc:c=4)(W:len+1<=1000){o:Obj}{g6 c6:Nat}{v:Value}(Z:∃ g' cap',v= .slice (some ⟨g',0,none⟩) 1 cap'/\w.heap[g']?=some (.cells (elC m 3).toArray 65 (0,0))/\who g'= .kept)
  (y:w6.ownsRow B 66 1 (.slice (some ⟨g6,0,none⟩) (len+1) c6) (len+1) (R++[v]))
  (key:(lv.ownBlock=some g6/\(w.alloc o).grownBy w6 (some g6))\/(g6=w.heap.size+1/\(w.alloc o).grownBy w6 none)):
  Hs B w6 b (setW who g6 .cur) n f K M/\Cu4 B w6 (setW who g6 .cur) m c (.slice (some ⟨g6,0,none⟩) (len+1) c6) (len+1) (R++[v]) K:=by
 obtain⟨hsz,Y,L,G⟩:=jp key (fun g e=>(h.dom g e).2) (r:= .cur) (by simp) i.wc;have p:∀ g,who g≠ .other->setW who g6 .cur g=who g:=fun g h1=>by
  by_cases e:g=g6
  ·subst e;rw [iY];exact(G (h.dom g h1).2).symm
  ·exact iJ _ _ e
 have Q:∀ g,setW who g6 .cur g= .cur->g=g6\/who g= .cur:=fun g e=>by
  by_cases a:g=g6
  ·exact Or.inl a
  ·rw [iJ _ _ a]at e;exact Or.inr e
 have q:∀ g,who g≠ .other->who g≠ .cur->w6.heap[g]?=w.heap[g]?:=fun g h1 h2=>(Y g h1 h2).1
 have hRl:R.length=len:=by have:=i.row.1;omega
 have T:∀ g,lv.ownBlock=some g->∀ k,k<len->w6.cell? ⟨g,k,none⟩=w.cell? ⟨g,k,none⟩:=fun g e k A=>by
  by_cases a:g6=g
  ·subst a;rcases i.row.2 with ⟨j,_⟩ | ⟨g',cap,cur,hv,_⟩
   ·rw [j]at e;cases e
   ·have J:=i.row;rw [hv]at e;simp only [Value.ownBlock,Option.some.injEq]at e;subst e;rw [hv]at J;rw [y.cellAt k (by omega),J.cellAt k (by omega),List.getElem?_append_left (by omega)]
  ·exact World.cell?_of_block (L g (i.wc g e) a)
 have S:∀ g,who g= .cur->lv.ownBlock≠some g->w6.heap[g]?=w.heap[g]?:=fun g e a=>by
  by_cases j:g6=g
  ·subst j;rcases key with ⟨k1,_⟩ | ⟨k1,_⟩
   ·exact absurd k1 a
   ·have:=(h.dom g6 (by rw [e];simp)).2;omega
  ·exact L g e j
 have X:∀ c' x,c'<5->x∈K c'->KeptC c' w6 (setW who g6 .cur) x/\∀ g,x.1.ownBlock=some g->setW who g6 .cur g= .kept\/setW who g6 .cur g= .cur:=fun c' x hc' hx=>by
  obtain⟨k1,k2⟩:=h.kept c' hc' x hx;refine⟨?_,fun g e=>?_⟩
  ·refine KeptC.who (who:=who) ?_ (fun g e=>by rw [p g (by rw [e];simp)];exact e);rcases k1 with k1 | ⟨g,l,cap,e,hl,hin⟩
   ·exact Or.inl k1
   ·refine Or.inr ⟨g,l,cap,e,hl,?_⟩;have E:x.1.ownBlock=some g:=by rw [e];rfl
    have u:∀ g,who g= .kept->w6.heap[g]?=w.heap[g]?:=fun g e=>q g (by rw [e];simp) (by rw [e];simp)
    rcases k2 g E with hkp | hcr
    ·exact km hin (u g hkp) u
    ·by_cases H:c'=c
     ·subst H;by_cases D:lv.ownBlock=some g
      ·obtain⟨I,O,F,z,C⟩:=i.ent x hx g E hcr;rw [z]at e;simp only [Value.slice.injEq,true_and]at e;have hl4:l<=len:=by have:=C D;omega
       subst hc;rw [kl]at hin ⊢;intro k A;obtain⟨g',cap',s,t,d⟩:=hin k A;exact⟨g',cap',by rw [T g D k (by omega)];exact s,by rw [u g' d];exact t,d⟩
      ·exact km hin (S g hcr D) u
     ·have:=i.oth c' hc' H x hx g E;rw [hcr]at this;cases this
  ·have:=k2 g e;rw [p g (by rcases this with e | e<;>rw [e]<;>simp)];exact this
 refine⟨⟨h.blk.same (q b (by rw [h.wb];simp) (by rw [h.wb];simp)),h.cnt,fun c' hc'=>iI (h.lst c' hc') (fun g e=>q g (by rw [h.wl c' hc' g e];simp) (by rw [h.wl c' hc' g e];simp)),fun c' hc'=>iI (h.mrk c' hc') (fun g e=>q g (by rw [h.wm c' hc' g e];simp) (by rw [h.wm c' hc' g e];simp)),
  fun c' hc' g e=>(by rw [p g (by rw [h.wl c' hc' g e];simp)];exact h.wl c' hc' g e),fun c' hc' g e=>(by rw [p g (by rw [h.wm c' hc' g e];simp)];exact h.wm c' hc' g e),(by rw [p b (by rw [h.wb];simp)];exact h.wb),fun c' hc' x hx=>X c' x hc' hx,fun g e=>?_⟩,
  ⟨y,fun k A=>?_,fun g e=>(by simp only [Value.ownBlock,Option.some.injEq]at e;subst e;exact iY _ _ _),fun x hx g e a=>?_,fun c' hc' hne x hx g e=>?_,W⟩⟩
 ·by_cases a:g=g6
  ·subst a;exact⟨iA y g rfl,iP y g rfl⟩
  ·rw [iJ _ _ a]at e;have:=h.dom g e;exact⟨this.1,by omega⟩
 ·by_cases e:k<len
  ·obtain⟨g',cap',s,t,d⟩:=i.el k e;exact⟨g',cap',by rw [List.getElem?_append_left (by omega)];exact s,by rw [q g' (by rw [d];simp) (by rw [d];simp)];exact t,by rw [p g' (by rw [d];simp)];exact d⟩
  ·obtain⟨g',cap',s,t,d⟩:=Z;have P:k=R.length:=by omega
   exact⟨g',cap',by rw [P,List.getElem?_append_right (by omega)];simp [s],by rw [q g' (by rw [d];simp) (by rw [d];simp)];exact t,by rw [p g' (by rw [d];simp)];exact d⟩
 ·have N:who g= .cur:=by
   rcases Q g a with j | j
   ·have V:=(h.kept c (by omega) x hx).2 g e;have U:=(h.dom g (by rcases V with e | e<;>rw [e]<;>simp)).2;subst j;exact G U
   ·exact j
  obtain⟨I,O,F,z,C⟩:=i.ent x hx g e N;refine⟨I,O,F,z,fun e6=>?_⟩;simp only [Value.ownBlock,Option.some.injEq]at e6;subst e6;rcases key with ⟨k1,_⟩ | ⟨k1,_⟩
  ·have:=C k1;omega
  ·have:=(h.dom g6 (by rw [N];simp)).2;omega
 ·have:=i.oth c' hc' hne x hx g e;rw [p g (by rw [this];simp)];exact this
theorem Hs.begin4(h:Hs B w b who n f K M)(hc:c=4)(d:∀ c',c'<5->∀ x∈K c',∀ g,x.1.ownBlock=some g->who g= .kept)(l:w.ownsRow B 66 1 lv len R)(q:len<=1000)
  (p:∀ k,k<len->∃ g' cap',R[k]?=some (.slice (some ⟨g',0,none⟩) 1 cap')/\w.heap[g']?=some (.cells (elC m 3).toArray 65 (0,0))/\who g'= .kept)
  (j:∀ g,lv.ownBlock=some g->who g= .other):∃ who',Hs B w b who' n f K M/\Cu4 B w who' m c lv len R K/\(∀ g,lv.ownBlock≠some g->who' g=who g):=by
 rcases l.2 with ⟨e,_⟩ | ⟨g0,cap,cur,hv,hbb,hh,hrest⟩
 ·refine⟨who,h,⟨l,p,fun g a=>(by rw [e]at a;cases a),fun x hx g a e3=>?_,fun c' hc' hne x hx g a=>d c' hc' x hx g a,q⟩,fun _ _=>rfl⟩;rw [d c (by omega) x hx g a]at e3;cases e3
 ·have i:lv.ownBlock=some g0:=by rw [hv];rfl
  have r:∀ c',c'<5->∀ x∈K c',∀ g,x.1.ownBlock=some g->g≠g0:=fun c' hc' x hx g e a=>by
   have:=d c' hc' x hx g e;subst a;rw [j g i]at this;cases this
  refine⟨setW who g0 .cur,h.more (fun g e=>iJ _ _ (fun a=>by subst a;exact e (j g i))) (fun g e=>?_),⟨l,fun k d=>(by obtain⟨g',cap',s,t,o⟩:=p k d;exact⟨g',cap',s,t,by rw [iJ _ _ (fun a=>by rw [a,j g0 i]at o;cases o)];exact o⟩),fun g a=>(by rw [i]at a;simp only [Option.some.injEq]at a;subst a;exact iY _ _ _),fun x hx g a e3=>?_,fun c' hc' hne x hx g a=>?_,q⟩,fun g e=>iJ _ _ (fun a=>e (by rw [a];exact i))⟩
  ·by_cases a:g=g0
   ·subst a;exact⟨hbb,(Array.getElem?_eq_some_iff.1 hh).1⟩
   ·rw [iJ _ _ a]at e;exact h.dom g e
  ·rw [iJ _ _ (r c (by omega) x hx g a),d c (by omega) x hx g a]at e3;cases e3
  ·rw [iJ _ _ (r c' hc' x hx g a)];exact d c' hc' x hx g a
end
structure KpH(B:Nat)(w0 w:World)(b:Nat)(who0 who:Nat->Role)(n m:Int)(f0 f:Nat->Value)(K0 K:Nat->List (Value × Int))(lv:Value)(len:Nat)(R:List Value)(k:Nat)(ex:Nat->Prop):Prop where
 hs:Hs B w b who n f K (marksOf K)
 cu:Cu4 B w who m 4 lv len R K
 fr:Fr w0 w who0 who ex
 lent:∀ o,o<5->f o=f0 o
 len:(K 4).length=(K0 4).length+k
 oth:∀ c',c'≠4->K c'=K0 c'
structure KpB(B:Nat)(w0 w:World)(b:Nat)(who0 who:Nat->Role)(n m:Int)(f0 f:Nat->Value)(K0 K:Nat->List (Value × Int))(lv:Value)(len:Nat)(R:List Value)(k:Nat)(ex:Nat->Prop):Prop where
 hs:Hs B w b who n f (setK K 4 (K 4++[(lv,m)])) (marksOf K)
 cu:Cu4 B w who m 4 lv len R (setK K 4 (K 4++[(lv,m)]))
 fr:Fr w0 w who0 who ex
 lent:∀ o,o<5->f o=f0 o
 len:(K 4).length=(K0 4).length+k
 oth:∀ c',c'≠4->K c'=K0 c'
section
variable {B : Nat} {w0 w w6 : World} {b : Nat} {who0 who : Nat -> Role} {n m : Int} {f0 f : Nat -> Value} {K0 K : Nat -> List (Value × Int)} {lv : Value} {len k : Nat} {ex : Nat -> Prop} {R : List Value}
structure WrK(B:Nat)(w0 w:World)(b:Nat)(who0 who:Nat->Role)(n:Int)(f0 f:Nat->Value)(K:Nat->List (Value × Int))(lv:Value)(len:Nat)(R:List Value)(m:Int)(k:Nat):Prop where
 hs:HsK B w b who n f K
 row:w.ownsRow B 66 1 lv len R
 el:∀ j,j<k->∃ g' cap',R[j]?=some (.slice (some ⟨g',0,none⟩) 1 cap')/\w.heap[g']?=some (.cells (elC m 3).toArray 65 (0,0))/\who g'= .kept
 fr:Fr w0 w who0 who (fun g=>lv.ownBlock=some g)
 oth:∀ g,lv.ownBlock=some g->who g= .other
 lent:∀ o,o<5->f o=f0 o
theorem Hs.made{M:Nat->List Int}(h:Hs B w b who n f K M)(o:Obj):Hs B (w.alloc o) b (setW who w.heap.size .kept) n f K M:=by
 have c:∀ g',who g'≠ .other->setW who w.heap.size .kept g'=who g':=fun g' e=>iJ _ _ (fun a=>by subst a;have:=(h.dom _ e).2;omega)
 refine(h.grown (iq (ir _ _))).more c (fun g' e=>?_);have hb:=h.dom b (by rw [h.wb];simp);by_cases a:g'=w.heap.size
 ·subst a;exact⟨by omega,by simp⟩
 ·rw [iJ _ _ a]at e;have:=h.dom g' e;exact⟨this.1,by simp;omega⟩
theorem HsK.made(h:HsK B w b who n f K)(o:Obj):HsK B (w.alloc o) b (setW who w.heap.size .kept) n f K:=by
 refine⟨h.1.made o,fun c hc x hx g e=>?_⟩;have:=h.2 c hc x hx g e;rw [iJ _ _ (fun e2=>by subst e2;have:=(h.1.dom _ (by rw [this];simp)).2;omega)];exact this
theorem Fr.made{ex:Nat->Prop}(h:Fr w0 w who0 who ex)(hd:w0.heap.size<=w.heap.size)(o:Obj):Fr w0 (w.alloc o) who0 (Go.Proofs.YtklenjmfalljgabGreatDoor.setW who w.heap.size .kept) ex:=
 Fr.setW (h.trans (Fr.grown (iq (ir _ _)))) (Or.inl hd)
theorem WrK.step(h:WrK B w0 w b who0 who n f0 f K lv len R m k){g q:Nat}(a:lv= .slice (some ⟨g,0,none⟩) len q)(hk:k<len):
  WrK B w0 ((w.alloc (.cells #[.int .i64 m,.int .i64 0,.int .i64 0,.int .i64 0] 65)).setCell ⟨g,k,none⟩ (.slice (some ⟨w.heap.size,0,none⟩) 1 1)) b who0 (setW who w.heap.size .kept) n f0 f K lv len (R.set k (.slice (some ⟨w.heap.size,0,none⟩) 1 1)) m (k+1):=by
 have i:who g= .other:=h.oth g (by rw [a];rfl);have hgl:g<w.heap.size:=iP h.row g (by rw [a];rfl);have l:setW who w.heap.size .kept g= .other:=by rw [iJ _ _ (by omega)];exact i
 have hRl:R.length=len:=by have:=h.row.1;omega
 refine⟨(h.hs.made _).setOther l,?_,fun j hj=>?_,(h.fr.made h.fr.size _).trans (Fr.set (Or.inr (by rw [a];rfl))),fun c e=>?_,h.lent⟩
 ·have:=iU (iG (o:= .cells #[.int .i64 m,.int .i64 0,.int .i64 0,.int .i64 0] 65) (by have:=h.row;rw [a]at this;exact this)) k (.slice (some ⟨w.heap.size,0,none⟩) 1 1);rw [a];exact this
 ·by_cases e:j<k
  ·obtain⟨c,p,u,v,d⟩:=h.el j e;have s:=(h.hs.1.dom c (by rw [d];simp)).2;have t:c≠g:=fun e2=>by rw [e2,i]at d;cases d
   refine⟨c,p,by rw [List.getElem?_set_ne (by omega)];exact u,?_,by rw [iJ _ _ (by omega)];exact d⟩;rw [Below.heap_setCell _ _ _ _ (by simpa using t),Below.heap_alloc _ _ _ s];exact v
  ·have r:j=k:=by omega
   subst r;refine⟨w.heap.size,1,by rw [List.getElem?_set_self (by omega)],?_,iY _ _ _⟩;rw [Below.heap_setCell _ _ _ _ (by simp only;omega)];exact heap_alloc_new w _
 ·rw [a]at e;simp only [Value.ownBlock,Option.some.injEq]at e;subst e;exact l
theorem KpH.push(h:KpH B w0 w b who0 who n m f0 f K0 K lv len R k ex){o:Obj}{g6 c6:Nat}
  (i:w6.ownsRow B (tlC 4) 1 (.slice (some ⟨g6,0,none⟩) ((K 4).length+1) c6) ((K 4).length+1) ((K 4).map (·.1)++[lv]))
  (key:((f (6+2*4)).ownBlock=some g6/\(w.alloc o).grownBy w6 (some g6))\/(g6=w.heap.size+1/\(w.alloc o).grownBy w6 none)):
  HB w6 b f/\∃ who' f',KpB B w0 (w6.setCell ⟨b,6+2*4,none⟩ (.slice (some ⟨g6,0,none⟩) ((K 4).length+1) c6)) b who0 who' n m f0 f' K0 K lv len R k ex/\f' (7+2*4)=f (7+2*4):=by
 obtain⟨hsz,j,hsr,h6r⟩:=jp key (fun g e=>(h.hs.dom g e).2) (r:= .lst 4) (by simp) (h.hs.wl 4 (by omega));have d:HB w6 b f:=h.hs.blk.same (j b (by rw [h.hs.wb];simp) (by rw [h.hs.wb];simp)).1;obtain⟨a,c⟩:=h.hs.push4 h.cu rfl i key;refine⟨d,_,_,⟨a,c,?_,fun o ho=>by rw [iN _ _ (by omega)];exact h.lent o ho,h.len,h.oth⟩,iN _ _ (by omega)⟩;refine(h.fr.trans (Fr.key (r:= .lst 4) (fun g e=>by rw [h.hs.wl 4 (by omega) g e];simp) key)).trans (Fr.set (Or.inl ?_));have:=a.wb;rw [this];simp
theorem KpB.tell(h:KpB B w0 w b who0 who n m f0 f K0 K lv len R k ex){M1:Option Addr}{N M3:Nat}(i:f (7+2*4)= .slice M1 N M3)(j:(K 4).length=N){o:Obj}{g6 c6:Nat}
  (p:w6.ownsRow B 3 1 (.slice (some ⟨g6,0,none⟩) (N+1) c6) (N+1) (ints ((K 4).map (·.2))++[.int .i64 m]))
  (key:((Value.slice M1 N M3).ownBlock=some g6/\(w.alloc o).grownBy w6 (some g6))\/(g6=w.heap.size+1/\(w.alloc o).grownBy w6 none)):
  HB w6 b f/\∃ who' f',KpH B w0 (w6.setCell ⟨b,7+2*4,none⟩ (.slice (some ⟨g6,0,none⟩) (N+1) c6)) b who0 who' n m f0 f' K0 (setK K 4 (K 4++[(lv,m)])) lv len R (k+1) ex:=by
 rw [<-i]at key;obtain⟨hsz,q,hsr,h6r⟩:=jp key (fun g e=>(h.hs.dom g e).2) (r:= .mrk 4) (by simp) (h.hs.wm 4 (by omega));have l:HB w6 b f:=h.hs.blk.same (q b (by rw [h.hs.wb];simp) (by rw [h.hs.wb];simp)).1;have d:(marksOf K 4).length=N:=by simp [marksOf,j]
 obtain⟨a,c⟩:=h.hs.tell4 h.cu rfl (w6:=w6) (g6:=g6) (c6:=c6) (o:=o) (by rw [d];exact p) key;rw [d]at a c;refine⟨l,_,_,⟨by rw [oP];exact a,c,?_,fun o ho=>by rw [iN _ _ (by omega)];exact h.lent o ho,by rw [kN,List.length_append,h.len];simp;omega,fun c' hc'=>by rw [kO _ _ hc'];exact h.oth c' hc'⟩⟩;refine(h.fr.trans (Fr.key (r:= .mrk 4) (fun g e=>by rw [h.hs.wm 4 (by omega) g e];simp) key)).trans (Fr.set (Or.inl ?_));have:=a.wb;rw [this];simp
theorem KpH.grow(h:KpH B w0 w b who0 who n m f0 f K0 K lv len R k ex)(d:len+1<=1000){o:Obj}{g6 c6:Nat}
  {v:Value} (j:∃ g' cap',v= .slice (some ⟨g',0,none⟩) 1 cap'/\w.heap[g']?=some (.cells (elC m 3).toArray 65 (0,0))/\who g'= .kept)
  (i:w6.ownsRow B 66 1 (.slice (some ⟨g6,0,none⟩) (len+1) c6) (len+1) (R++[v]))
  (key:(lv.ownBlock=some g6/\(w.alloc o).grownBy w6 (some g6))\/(g6=w.heap.size+1/\(w.alloc o).grownBy w6 none)):
  ∃ who',KpH B w0 w6 b who0 who' n m f0 f K0 K (.slice (some ⟨g6,0,none⟩) (len+1) c6) (len+1) (R++[v]) k ex:=by
 obtain⟨a,c⟩:=h.hs.grow4 h.cu rfl d j i key;exact⟨_,a,c,h.fr.trans (Fr.key (fun g e=>by rw [h.cu.wc g e];simp) key),h.lent,h.len,h.oth⟩
theorem WrK.kp(h:WrK B w0 w b who0 who n f0 f K lv len R m len)(j:len<=1000):∃ who1,KpH B w0 w b who0 who1 n m f0 f K K lv len R 0 (fun g=>lv.ownBlock=some g):=by
 obtain⟨k,d,e,i⟩:=h.hs.1.begin4 (c:=4) rfl h.hs.2 h.row j h.el h.oth;refine⟨k,d,e,⟨h.fr.os,h.fr.tape,h.fr.output,h.fr.size,fun g q1 q2 q3=>?_⟩,h.lent,rfl,fun _ _=>rfl⟩;obtain⟨a,b⟩:=h.fr.oth g q1 q2 q3;exact⟨a,by rw [i g q3];exact b⟩
theorem KpH.made(h:KpH B w0 w b who0 who n m f0 f K0 K lv len R k ex)(o:Obj):KpH B w0 (w.alloc o) b who0 (setW who w.heap.size .kept) n m f0 f K0 K lv len R k ex:=by
 have c:∀ a,who a≠ .other->setW who w.heap.size .kept a=who a:=fun a e=>iJ _ _ (fun e2=>by subst e2;have:=(h.hs.dom _ e).2;omega)
 refine⟨h.hs.made o,⟨iG h.cu.row,fun j hj=>?_,fun g e=>?_,fun x hx g e e2=>?_,fun c' hc' hcn x hx g e=>?_,h.cu.ln⟩,h.fr.made h.fr.size o,h.lent,h.len,h.oth⟩
 ·obtain⟨a,l,p,q,d⟩:=h.cu.el j hj;exact⟨a,l,p,by rw [Below.heap_alloc _ _ _ (h.hs.dom a (by rw [d];simp)).2];exact q,by rw [c a (by rw [d];simp)];exact d⟩
 ·have:=h.cu.wc g e;rw [c g (by rw [this];simp)];exact this
 ·refine h.cu.ent x hx g e ?_;by_cases i:g=w.heap.size
  ·subst i;rw [iY]at e2;cases e2
  ·rw [iJ _ _ i]at e2;exact e2
 ·have:=h.cu.oth c' hc' hcn x hx g e;rw [c g (by rw [this];simp)];exact this
theorem KpH.done(h:KpH B w0 w b who0 who n m f0 f K0 K lv len R 4 ex):∃ who' f' K',HsK B w b who' n f' K'/\After 4 w0 w who0 who' f0 f' K0 K' ex:=
 ⟨settleW who,f,K,⟨h.hs.settled.1,h.hs.settled.2⟩,⟨h.fr.settled,h.lent,h.len,h.oth⟩⟩
end
end
section
open Go.RowKit
attribute [local go_sem] Go.World.cell?_alloc_some
theorem Ak:((Tryz.prog.info? 66).map fun i=>(i.zero,i.size,i.bytes))=some (some (.slice none 0 0),1,24):=by kernel_rfl
theorem Al:((Tryz.prog.info? 35).map fun i=>(i.zero,i.size,i.bytes))=some (some (.slice none 0 0),1,24):=by kernel_rfl
theorem BJ{B:Nat}{w:World}{b n3:Nat}{who:Nat->Role}{n:Int}{f:Nat->Value}{K:Nat->List (Value × Int)}{x1:Option Addr}{x3 len:Nat}{xs:List Value}(h3:w.cell? ⟨n3,0,none⟩=some (.slice x1 len x3))(p:HsK B w b who n f K)(hl:w.ownsRow B 66 1 (.slice x1 len x3) len xs)(D:∀ g,(Value.slice x1 len x3).ownBlock=some g->who g= .other)
  (db:0<=n) (hn1:n<=10000000000000) (hK:(K 4).length<=5000000000000) (ha:len<=900)
  {Q:Exit->Act->World->Prop} {c1 c2 c4 c5 c6 A c8 c9 aP a0 a4 a5 a6 a7 a8 a9 ba bb bd be bf bg bh bi bj bk bl bm bn bo bp bq br bt bu bv bw bx bA bB bC bD bE bF bG bH bI bJ bL bM bN bO bP bQ bR bS bT bU bV bW bX bY bZ b0 b1 b2 b3 b4 b5 b6 b7 b8 b9 ca cb cc cd ce cg ch ci cj ck cl cm cn co cq ct cv cw cx cy cz cA cB cC cD aQ aR aS aT aU aV aW aX aY aZ a1 a2 a3:Value}
  (HQ:Hid (∀ {z0 z1 z2 z3 z4 z5 z6 z7 z8 z9 dv dG dK dL dM dN dO dP dQ dR dS dT dU dV dW dX dY dZ d0 d1 d3 d4 d5 d6 d7 d8 d9 ea eb ec ee ef eg eh ei el em en eo ep er es et eu ev ew ex ey ez eA eC eD eE eF eG eH eI eJ eK eL eP eQ eR eS eT eU eV eW eX eY e1 e2 e3 e4 e5 e6 e7 e8 fa fb fd fe ff fg fh fi fj fk fl fm dw dx dy dz dA dB dC dD dE dF dH dI dJ:Value} (w':World),(∃ who' f' K',HsK B w' b who' (n+1) f' K'/\After 4 w w' who who' f f' K K' (fun g=>(Value.slice x1 len x3).ownBlock=some g))->Q .normal ⟨#[z0,z1,z2,z3,z4,z5,z6,z7,z8,z9,dv,dG,dK,dL,dM,dN,dO,dP,dQ,dR,dS,dT,dU,dV,dW,dX,dY,dZ,d0,d1,d3,d4,d5,d6,d7,d8,d9,ea,eb,ec,ee,ef,eg,eh,ei,el,em,en,eo,ep,er,es,et,eu,ev,ew,ex,ey,ez,eA,eC,eD,eE,eF,eG,eH,eI,eJ,eK,eL,eP,eQ,eR,eS,eT,eU,eV,eW,eX,eY,e1,e2,e3,e4,e5,e6,e7,e8,fa,fb,fd,fe,ff,fg,fh,fi,fj,fk,fl,fm,dw,dx,dy,dz,dA,dB,dC,dD,dE,dF,dH,dI,dJ],[]⟩ w')):
  Code.wp Tryz.prog (tailOf Tryz.f44 16) Q ⟨#[.pointer (some ⟨b,0,none⟩),c1,c2,.pointer (some ⟨n3,0,none⟩),c4,c5,c6,A,c8,c9,aP,a0,a4,a5,a6,a7,a8,a9,ba,bb,bd,be,bf,bg,bh,bi,bj,bk,bl,bm,bn,bo,bp,bq,br,bt,bu,bv,bw,bx,bA,bB,bC,bD,bE,bF,bG,bH,bI,bJ,bL,bM,bN,bO,bP,bQ,bR,bS,bT,bU,bV,bW,bX,bY,bZ,b0,b1,b2,b3,b4,b5,b6,b7,b8,b9,ca,cb,cc,cd,ce,cg,ch,ci,cj,ck,cl,cm,cn,co,cq,ct,cv,cw,cx,cy,cz,cA,cB,cC,cD,aQ,aR,aS,aT,aU,aV,aW,aX,aY,aZ,a1,a2,a3],[]⟩ w:=by
 conv=>arg 2;whnf
 go_upto_region 17 with fail
 clear h3;obtain⟨i0,cS,dl,dm,dn⟩:=info_parts Ak;obtain⟨i1,cT,di,dj,dk⟩:=info_parts Al;obtain⟨i2,cU,df,dg,dh⟩:=info_parts ji;have M:=ij (oO p.1 db (by omega));have H0:Hid (WrK B w (w.setCell ⟨b,5,none⟩ (.int .i64 (n+1))) b who who (n+1) f (setF f 5 (.int .i64 (n+1))) K (.slice x1 len x3) len xs (-77000000 - (n+1)) 0):=by
  refine⟨⟨p.1.setCnt _,p.2⟩,?_,fun j hj=>by omega,Fr.set (Or.inl (by rw [p.1.wb];simp)),D,fun o D=>iN _ _ (by omega)⟩;have cQ:(Value.slice x1 len x3).ownBlock≠some b:=fun e=>by have:=D b e;rw [p.1.wb]at this;cases this
  exact ownsRow_setCell_other (a:=⟨b,5,none⟩) hl cQ (.int .i64 (n+1))
 have ax:pt b= .pointer (some ⟨b,0,none⟩):=rfl;rw [ax]at M;clear p hl D ax;generalize hm: -77000000 - (n+1)=m at*;have HMM:=ij hm;clear hm;go_wp2_with (go_at_call 55;refine M.out.mono ?_;rintro e w1 ⟨rfl,rfl⟩)
 go_loopw [11] (fun i w'=>∃ (k:Nat) (who':Nat->Role) (R:List Value),k<=len/\i= .int .i64 k/\Hid (WrK B w w' b who who' (n+1) f (setF f 5 (.int .i64 (n+1))) K (.slice x1 len x3) len R m k)) (fun i _=>len - (intOf i).toNat)
 case atStart=>exact⟨0,who,xs,Nat.zero_le _,rfl,H0⟩
 case round=>
  clear H0 M;obtain⟨k,who',R,V,rfl,l⟩:=hrel;obtain⟨s,ay⟩:∃ s,s=wr:=⟨_,rfl⟩;rw [<-ay]at l ⊢;clear ay;by_cases cX:k<len
  ·obtain⟨g,cp,C,_,_⟩:=l.out.row.form (by omega);have E:=l.out.row;rw [C]at E;have cR:g<s.heap.size:=iP E g rfl;have Z:=l.out.step C cX;rw [World.setCell_alloc_past _ _ _ _ cR]at Z;have aJ:=ij Z;clear Z;simp only [Value.slice.injEq,true_and]at C;obtain⟨rfl,rfl⟩:=C;have Y:=iG (o:= .cells #[.int .i64 m,.int .i64 0,.int .i64 0,.int .i64 0] 65) E;obtain⟨u0,y0⟩:∃ u,(s.alloc (.cells #[.int .i64 m,.int .i64 0,.int .i64 0,.int .i64 0] 65)).cell? ⟨g,k,none⟩=some u:=jJ Y (by omega);have z0:(s.alloc (.cells #[.int .i64 m,.int .i64 0,.int .i64 0,.int .i64 0] 65)).frozen? ⟨g,k,none⟩=false:=jK Y;have q0:(0:Int)<=(k:Int):=by omega
   have q1:(k:Int)<len:=by omega
   clear E Y;go_wp2_with fail
   go_roundw
   case rel=>exact⟨k+1,_,_,by omega,by go_num,aJ⟩
   case measure=>simp [intOf];omega
  ·have ek:k=len:=by omega
   have q1:(len:Int)<=(k:Int):=by omega
   have HS:Hid (∃ ag,KpH B w s b who ag (n+1) m f (setF f 5 (.int .i64 (n+1))) K K (.slice x1 len x3) len R 0 (fun g=>(Value.slice x1 len x3).ownBlock=some g)):=by
    have hi:=l.out;rw [ek]at hi;exact hi.kp (by omega)
   clear l ek;go_wp2_with fail
   go_loopw [9,12] (fun lv' i w'=>∃ (k:Nat) (who':Nat->Role) (f':Nat->Value) (K':Nat->List (Value × Int)) (R:List Value),k<=4/\i= .int .i64 k/\Hid (KpH B w w' b who who' (n+1) m f f' K K' lv' (len+k) R k (fun g=>(Value.slice x1 len x3).ownBlock=some g))) (fun _ i _=>4 - (intOf i).toNat)
   case atStart=>
    obtain⟨ag,h1⟩:=HS.out;exact⟨0,ag,_,K,R,by omega,rfl,ij h1⟩
   case round=>
    clear HS;obtain⟨j,who',f',K',R,hj,rfl,d⟩:=hrel;obtain⟨c,az⟩:∃ c,c=wr:=⟨_,rfl⟩;rw [<-az]at d ⊢;clear az;have y:c.ownsRow B 35 1 (f' 14) (K' 4).length ((K' 4).map (·.1)):=d.out.hs.lst 4 (by omega);have rM:c.ownsRow B 3 1 (f' 15) (K' 4).length (ints ((K' 4).map (·.2))):=by have:=d.out.hs.mrk 4 (by omega);simpa [marksOf]using this
    have H:c.ownsRow B 66 1 u9 (len+j) R:=d.out.cu.row;have aI:Hid ((K' 4).length=(K 4).length+j):=d.out.len;have c6:c.cell? ⟨b,14,none⟩=some (f' 14):=d.out.hs.blk.cell (by omega);have hbase:B<=c.heap.size:=by have:=d.out.hs.blk.lt;have:=(d.out.hs.dom b (by rw [d.out.hs.wb];simp)).1;omega
    obtain⟨q,l2,r,rfl⟩:=iw H;have cW:=iB H;subst cW;obtain⟨o1,o2,o3,S⟩:=iw y;rw [S]at y c6;have dd:=iB y;subst dd;have cP:(K' 4).length<=5000000000003\/¬j<4:=by have:=aI.out;omega
    have aL:=ij H;have al:=ij y;have I:=ij S;have aN:=ij rM;clear H y rM S;by_cases hj4:j<4
    ·have cP:(K' 4).length<=5000000000003:=by omega
     have z2:(j:Int)<4:=by omega
     have ap:(K' 4).length+1<=maxLen:=by unfold maxLen;omega
     have cN:len+j+1<=maxLen:=by unfold maxLen;omega
     have O:Hid (∀ {o:Obj} {g6 c6:Nat} {w6:World},w6.ownsRow B 35 1 (.slice (some ⟨g6,0,none⟩) ((K' 4).length+1) c6) ((K' 4).length+1) ((K' 4).map (·.1)++[.slice q (len+j) r])->
       (((Value.slice o1 (K' 4).length o3).ownBlock=some g6/\(c.alloc o).grownBy w6 (some g6))\/(g6=c.heap.size+1/\(c.alloc o).grownBy w6 none))->
       HB w6 b f'/\∃ who'' f'',KpB B w (w6.setCell ⟨b,14,none⟩ (.slice (some ⟨g6,0,none⟩) ((K' 4).length+1) c6)) b who who'' (n+1) m f f'' K K' (.slice q (len+j) r) (len+j) R j (fun g=>(Value.slice x1 len x3).ownBlock=some g)/\f'' 15=f' 15):=by
      intro o g6 c6 w6 de key;rw [<-I.out]at key;exact d.out.push de key
     generalize aq:(K' 4).length=N at*;generalize cO:(K' 4).map (·.1)=L1 at*;have L:=ij aq;clear aq cO;go_upto_region 26 with (at_builtin;go_must (refine iE rfl _ _ _ rfl B 35 i1 _ 1 24 Tryz.underlying41 cT di dj dk rfl (by omega) (.slice o1 N o3) N L1 rfl (iG al.out) ⟨c.heap.size,0,none⟩ 1 1 [.slice q (len+j) r] rfl rfl (World.news_of_block (cs:= #[.slice q (len+j) r]) (t:=35) (fr:=(0,0)) (heap_alloc_new c _)) (by simp [Value.oneCell']) (by omega) ap (by omega) (by simp;omega) (c.heap.size+1) (by simp) ?_);intro g8 cF w8 X ab c3;have U:=(O.out X ab).1;have p6:w8.cell? ⟨b,14,none⟩=some (.slice o1 N o3):=(by rw [U.cell (by omega),I.out]);have p7:=U.frozen 14)
     obtain⟨_,who9,f9,h,e9⟩:=O.out X ab;generalize w8.setCell ⟨b,14,none⟩ (.slice (some ⟨g8,0,none⟩) (N+1) cF)=w9 at*;have J:=ij h;have x:w9.ownsRow B 3 1 (f9 15) N (ints ((K' 4).map (·.2))):=by
      have:=h.hs.mrk 4 (by omega);rw [<-L.out];simpa [marksOf]using this
     have A:w9.cell? ⟨b,15,none⟩=some (f9 15):=h.hs.blk.cell (by omega);obtain⟨F,m2,G,P⟩:=iw x;rw [P]at x A;have da:=(iB x).symm;subst da;have hbase9:B<=w9.heap.size:=by have:=h.hs.blk.lt;have:=(h.hs.dom b (by rw [h.hs.wb];simp)).1;omega
     have ak:=ij x;have z:=ij P;clear X ab U p6 p7 c3 c6 h e9 O x P I al aN;go_upto_region 27 with (at_builtin;go_must (refine iE rfl _ _ _ rfl B 3 i2 _ 1 8 Tryz.underlying39 cU df dg dh rfl (by omega) (.slice F N G) N (ints ((K' 4).map (·.2))) rfl (iG ak.out) ⟨w9.heap.size,0,none⟩ 1 1 [.int .i64 m] rfl rfl (World.news_of_block (cs:= #[.int .i64 m]) (t:=3) (fr:=(0,0)) (heap_alloc_new w9 _)) (by simp [Value.oneCell']) (by omega) ap (by omega) (by simp;omega) (w9.heap.size+1) (by simp) ?_);intro cI cE aD W aa cY;have T:=(J.out.tell (M1:=F) (M3:=G) z.out L.out W aa).1;have p6:aD.cell? ⟨b,15,none⟩=some (.slice F N G):=(by rw [T.cell (by omega),z.out]);have p7:=T.frozen 15)
     obtain⟨_,dt,f11,v⟩:=J.out.tell (M1:=F) (M3:=G) z.out L.out W aa;generalize aD.setCell ⟨b,15,none⟩ (.slice (some ⟨cI,0,none⟩) (N+1) cE)=w11 at*;have aj:=ij (v.made (.cells #[.int .i64 m,.int .i64 0,.int .i64 0,.int .i64 0] 65));have aM:Hid ((w11.alloc (.cells #[.int .i64 m,.int .i64 0,.int .i64 0,.int .i64 0] 65)).ownsRow B 66 1 (.slice q (len+j) r) (len+j) R):=aj.out.cu.row;have aO:Hid (∃ g' cap',Value.slice (some ⟨w11.heap.size,0,none⟩) 1 1= .slice (some ⟨g',0,none⟩) 1 cap'/\(w11.alloc (.cells #[.int .i64 m,.int .i64 0,.int .i64 0,.int .i64 0] 65)).heap[g']?=some (.cells (elC m 3).toArray 65 (0,0))/\setW dt w11.heap.size .kept g'= .kept):=⟨w11.heap.size,1,rfl,heap_alloc_new w11 _,iY _ _ _⟩;have hbase11:B<=w11.heap.size:=by have:=v.hs.blk.lt;have:=(v.hs.dom b (by rw [v.hs.wb];simp)).1;omega
     have dc:((w11.alloc (.cells #[.int .i64 m,.int .i64 0,.int .i64 0,.int .i64 0] 65)).alloc (.cells #[.slice (some ⟨w11.heap.size,0,none⟩) 1 1] 66)).heap[w11.heap.size+1]?=some (.cells #[.slice (some ⟨w11.heap.size,0,none⟩) 1 1] 66 (0,0)):=by
      have:=heap_alloc_new (w11.alloc (.cells #[.int .i64 m,.int .i64 0,.int .i64 0,.int .i64 0] 65)) (.cells #[.slice (some ⟨w11.heap.size,0,none⟩) 1 1] 66);simpa using this
     clear W aa T p6 p7 cY A v J ak z aL;go_wp2_with (at_builtin;go_must (refine iE rfl _ _ _ rfl B 66 i0 _ 1 24 Tryz.underlying35 cS dl dm dn rfl (by omega) (.slice q (len+j) r) (len+j) R rfl (iG aM.out) ⟨w11.heap.size+1,0,none⟩ 1 1 [.slice (some ⟨w11.heap.size,0,none⟩) 1 1] rfl rfl (World.news_of_block (cs:= #[.slice (some ⟨w11.heap.size,0,none⟩) 1 1]) (t:=66) (fr:=(0,0)) dc) (by simp [Value.oneCell']) (by omega) cN (by omega) (by simp;omega) ((w11.alloc (.cells #[.int .i64 m,.int .i64 0,.int .i64 0,.int .i64 0] 65)).heap.size+1) (by simp) ?_);intro g12 cap12 w12 aw aA cZ;have aH:=ij (aj.out.grow (by omega) aO.out aw aA);clear aw aA cZ)
     go_roundw
     case rel=>
      obtain⟨du,cL⟩:=aH.out;exact⟨j+1,du,_,_,_,by omega,by go_num,ij cL⟩
     case measure=>simp [intOf];omega
    ·have z2:(4:Int)<=(j:Int):=by omega
     have HE:Hid (∃ who' f' K',HsK B c b who' (n+1) f' K'/\After 4 w c who who' f f' K K' (fun g=>(Value.slice x1 len x3).ownBlock=some g)):=by
      have ej:j=4:=by omega
      have V:=d.out;rw [ej]at V;exact V.done
     go_wp2_with fail
     exact HQ.out c HE.out
structure ThrD(B:Nat)(w:World)(tv:Value)(T:List (Value × Nat × List Value)):Prop where
 row:w.ownsRow B 66 1 tv T.length (T.map (·.1))
 el:∀ x∈T,w.ownsRow B 65 4 x.1 x.2.1 x.2.2/\x.2.1<=900
 dis:∀ i j (hi:i<T.length) (hj:j<T.length),i<j->∀ g,T[i].1.ownBlock=some g->T[j].1.ownBlock≠some g
theorem qw{w:World}{B c:Nat}{v b:Value}{m q:Nat}{xs f:List Value}(h:w.ownsRow B 66 1 v m xs)(d:w.ownsRow c 65 4 b q f){g:Nat}(e:v.ownBlock=some g)(a:b.ownBlock=some g):False:=by
 rcases h.2 with ⟨rfl,_⟩ | ⟨g1,cap1,cur1,rfl,_,hh,_⟩
 ·cases e
 ·rcases d.2 with ⟨rfl,_⟩ | ⟨g2,cap2,cur2,rfl,_,hh',_⟩
  ·cases a
  ·simp only [Value.ownBlock,Option.some.injEq]at e a;subst e a;rw [hh]at hh';simp only [Option.some.injEq,Obj.cells.injEq]at hh';exact absurd hh'.2.1 (by decide)
structure KpQ(B:Nat)(w0 w:World)(b:Nat)(who0 who:Nat->Role)(n:Int)(f0 f:Nat->Value)(K0 K:Nat->List (Value × Int))(T:List (Value × Nat × List Value))(t:Nat):Prop where
 hs:HsK B w b who (n+t) f K
 fr:Fr w0 w who0 who (fun g=>∃ x∈T.take t,x.1.ownBlock=some g)
 lent:∀ o,o<5->f o=f0 o
 len:(K 3).length=(K0 3).length+4*t
 oth:∀ c,c≠3->K c=K0 c
theorem py(B:Nat)(w:World)(b:Nat)(who:Nat->Role)(n:Int)(f:Nat->Value)(K:Nat->List (Value × Int))(tv:Value)(T:List (Value × Nat × List Value))(Z:HsK B w b who n f K)(A:ThrD B w tv T)
  (ho:∀ g,tv.ownBlock=some g->who g= .other) (ad:∀ x∈T,∀ g,x.1.ownBlock=some g->who g= .other) (hn0:0<=n) (hn1:n<=9000000000000) (hK3:(K 3).length<=4900000000000) (hK4:(K 4).length<=4900000000000) (hl:T.length<=100):
  Calls Tryz.prog 44 #[pt b,.agg #[tv]] w fun e w'=>(∃ v,e= .returned v)/\∃ who' f' K',HsK B w' b who' (n+T.length+1) f' K'/\Fr w w' who who' (fun g=>tv.ownBlock=some g\/∃ x∈T,x.1.ownBlock=some g)/\(∀ o,o<5->f' o=f o)/\(K' 3).length=(K 3).length+4*T.length/\(K' 4).length=(K 4).length+4/\∀ c,c≠3->c≠4->K' c=K c:=by
 obtain⟨q,t2,s,rfl⟩:=iw A.row;have ao:=iB A.row;subst ao;have U:=ij Z;have u:=ij A;have V:=ij ho;have W:=ij ad;have am:pt b= .pointer (some ⟨b,0,none⟩):=rfl;have qT:(T.length:Int)<=100:=by omega
 rw [am];clear Z A ho ad;go_enter Tryz.func44,Tryz.ntmps44
 go_upto_region 1 with fail
 obtain⟨k,C⟩:∃ k,k=w.alloc (.cells #[.slice q T.length s] 37):=⟨_,rfl⟩;have R:Hid (k.heap[w.heap.size]?=some (.cells #[.slice q T.length s] 37 (0,0))):=by unfold Hid;rw [C];exact heap_alloc_new w _
 have z:Hid (w.grownBy k none):=by unfold Hid;rw [C];exact iq (ir _ _)
 rw [<-C];clear C;have ai:Hid (who w.heap.size= .other):=by
  unfold Hid;by_cases e:who w.heap.size= .other
  ·exact e
  ·exact absurd (U.out.1.dom _ e).2 (by omega)
 have j:Hid (ThrD B k (.slice q T.length s) T):=⟨iC u.out.row z.out (fun _ e=>by cases e),fun x d=>⟨iC (u.out.el x d).1 z.out (fun _ e=>by cases e),(u.out.el x d).2⟩,u.out.dis⟩;have Q:Hid (KpQ B k k b who who n f f K K T 0):=⟨by simpa using U.out.grown z.out,Fr.refl _ _ _,fun _ _=>rfl,by simp,fun _ _=>rfl⟩;have ah:Hid (∀ (w':World) (who':Nat->Role) (f':Nat->Value) (K':Nat->List (Value × Int)) (t:Nat),t<=T.length->KpQ B k w' b who who' n f f' K K' T t->w'.cell? ⟨w.heap.size,0,none⟩=some (.slice q T.length s)/\(w'.ownsRow B 66 1 (.slice q T.length s) T.length (T.map (·.1))/\∀ g,(Value.slice q T.length s).ownBlock=some g->who' g= .other)/\∀ (N:t<T.length),w'.ownsRow B 65 4 T[t].1 T[t].2.1 T[t].2.2/\∀ g,T[t].1.ownBlock=some g->who' g= .other):=by
  intro w' who' f' K' t N p;have r:w.heap.size<k.heap.size:=(Array.getElem?_eq_some_iff.1 R.out).1;have L:∀ x∈T.take t,x∈T:=fun x d=>List.mem_of_mem_take d
  have ak:=p.fr.oth w.heap.size r ai.out (fun⟨x,d,e⟩=>by
   have:=iP (u.out.el x (L x d)).1 _ e;omega)
  refine⟨?_,⟨?_,?_⟩,fun htl=>⟨?_,?_⟩⟩
  ·rw [World.cell?_of_block ak.1];simp [World.cell?,R.out]
  ·exact iI j.out.row (fun g e=>(p.fr.oth g (iP j.out.row g e) (V.out g e) (fun⟨x,d,l⟩=>qw j.out.row (j.out.el x (L x d)).1 e l)).1)
  ·exact fun g e=>(p.fr.oth g (iP j.out.row g e) (V.out g e) (fun⟨x,d,l⟩=>qw j.out.row (j.out.el x (L x d)).1 e l)).2
  ·have d:=j.out.el T[t] (List.getElem_mem htl);refine iI d.1 (fun g e=>(p.fr.oth g (iP d.1 g e) (W.out _ (List.getElem_mem htl) g e) (fun⟨x,hx',l⟩=>?_)).1);obtain⟨i,J,rfl⟩:=List.getElem_of_mem hx';simp only [List.length_take]at J;rw [List.getElem_take]at l;exact j.out.dis i t (by omega) htl (by omega) g l e
  ·intro g e;have d:=j.out.el T[t] (List.getElem_mem htl);refine(p.fr.oth g (iP d.1 g e) (W.out _ (List.getElem_mem htl) g e) (fun⟨x,hx',l⟩=>?_)).2;obtain⟨i,J,rfl⟩:=List.getElem_of_mem hx';simp only [List.length_take]at J;rw [List.getElem_take]at l;exact j.out.dis i t (by omega) htl (by omega) g l e
 go_wp2_with fail
 go_loopw [4] (fun tv' w'=>∃ t:Nat,t<=T.length/\tv'= .int .i64 t/\Hid (∃ who' f' K',KpQ B k w' b who who' n f f' K K' T t)) (fun tv' _=>T.length - (intOf tv').toNat)
 case atStart=>exact⟨0,Nat.zero_le _,rfl,⟨_,_,_,Q.out⟩⟩
 case round=>
  clear Q;obtain⟨t,N,rfl,S⟩:=hrel;obtain⟨who',f',K',p⟩:=S.out;clear S;obtain⟨E,ae⟩:∃ E,E=wr:=⟨_,rfl⟩;rw [<-ae]at p ⊢;clear ae;have h:=ij p;obtain⟨Y,⟨M,an⟩,al⟩:=ah.out E who' f' K' t N p;clear p;by_cases r:t<T.length
  ·have q1:(t:Int)<T.length:=by omega
   obtain⟨tg,rfl⟩:∃ g,q=some ⟨g,0,none⟩:=by
    rcases M.2 with ⟨_,e⟩ | ⟨g,cap,cur,hv,_⟩
    ·omega
    ·simp only [Value.slice.injEq]at hv;exact⟨g,hv.1⟩
   obtain⟨D,O⟩:=al r;have ab:=(j.out.el T[t] (List.getElem_mem r)).2;have aa:E.cell? ⟨tg,t,none⟩=some T[t].1:=by rw [M.cellAt _ (by omega)];simp [r]
   have X:Hid (T.take (t+1)=T.take t++[T[t]]):=List.take_succ_eq_append_getElem r;generalize T[t]=x at*;obtain⟨xv,xn,xs⟩:=x;simp only at D O ab aa;obtain⟨x1,x2,x3,rfl⟩:=iw D;have ap:=iB D;subst ap;go_upto_if 17 with fail
   refine wp_cond_true rfl ?_;refine wp_skip ?_;refine ‹∀ a w,Code.wp Tryz.prog _ _ a w->_› _ _ ?_;have HXO:=ij O;refine Av Y r (by omega) aa h.out.hs D O (by omega) (by omega) (by have:=h.out.len;omega) ab ?_;intro z5 z6 z7 z8 au av aw ax ay az aA aB aC aD aE aF aG aH aI aJ aK aL aM aN aO aP aQ aR aS aT aU aV aW aX aY aZ a1 a2 a3 a4 a5 a6 a7 a8 a9 ba bc bd be bf bg bh bi F y;have ag:Hid (∃ who' f' K',KpQ B k F b who who' n f f' K K' T (t+1)):=by
    obtain⟨P,H,G,I,m⟩:=y;refine⟨P,H,G,?_,?_,fun o ho'=>(m.lent o ho').trans (h.out.lent o ho'),?_,fun c hc=>(m.oth c hc).trans (h.out.oth c hc)⟩
    ·have e:n+((t+1:Nat):Int)=n+(t:Int)+1:=by omega
     rw [e];exact I
    ·exact(h.out.fr.mono (fun g ⟨x,d,e⟩=>⟨x,(by rw [X.out];exact List.mem_append.2 (Or.inl d)),e⟩)).trans (m.fr.mono (fun g e=>⟨(.slice x1 x2 x3,x2,xs),(by rw [X.out];exact List.mem_append.2 (Or.inr (List.mem_singleton.2 rfl))),e⟩))
    ·have e1:=m.len;have l:=h.out.len;omega
   clear y;go_wp2_with fail
   go_roundw
   case rel=>exact⟨t+1,by omega,by go_num,ag⟩
   case measure=>simp [intOf]<;>omega
  ·have q1:(T.length:Int)<=(t:Int):=by omega
   have et:t=T.length:=by omega
   subst et;go_upto_if 17 with fail
   refine wp_cond_false rfl ?_;refine wp_exit ?_;refine ‹∀ a w,Code.wp Tryz.prog _ _ a w->_› _ _ ?_;refine BJ Y h.out.hs M an (by omega) (by omega) (by have:=h.out.oth 4 (by omega);rw [this];omega) (by omega) ?_;intro z0 z1 z2 z3 z4 z5 z6 z7 z8 z9 z10 z11 z12 z13 z14 z15 z16 z17 au av aw ax ay az aA aB aC aD aE aF aG aH aI aJ aK aL aM aN aO aP aQ aR aS aT aU aV aW aX aY aZ a1 a2 a3 a4 a5 a6 a7 a8 a9 ba bc bd be bf bg bh bi z67 z68 z69 z70 z71 z72 z73 z74 z75 z76 z77 z78 z79 z80 z81 z82 z83 z84 z85 z86 z87 z88 z89 z90 z91 z92 z93 z94 z95 z96 z97 z98 z99 z100 z101 z102 z103 z104 z105 z106 z107 z108 z109 z110 z111 z112 F y;have HF:Hid (∃ who' f' K',HsK B F b who' (n+T.length+1) f' K'/\Fr w F who who' (fun g=>(Value.slice q T.length s).ownBlock=some g\/∃ x∈T,x.1.ownBlock=some g)/\(∀ o,o<5->f' o=f o)/\(K' 3).length=(K 3).length+4*T.length/\(K' 4).length=(K 4).length+4/\∀ c,c≠3->c≠4->K' c=K c):=by
    obtain⟨P,H,G,I,m⟩:=y;refine⟨P,H,G,I,?_,fun o ho'=>(m.lent o ho').trans (h.out.lent o ho'),?_,?_,fun c hc3 hc4=>(m.oth c hc4).trans (h.out.oth c hc3)⟩
    ·refine(((Fr.grown z.out).trans (h.out.fr.mono (fun g ⟨x,d,e⟩=>?_))).trans (m.fr.mono (fun g e=>Or.inl e)));exact Or.inr ⟨x,List.mem_of_mem_take d,e⟩
    ·rw [m.oth 3 (by omega)];exact h.out.len
    ·rw [m.len,h.out.oth 4 (by omega)]
   clear y;go_end0
   exact⟨⟨_,rfl⟩,HF.out⟩
theorem uD{w w':World}(h:w.drew.grownBy w' none):w.grownBy w' none:=⟨h.os,h.tape,h.output,h.size,h.block⟩
theorem oT{w:World}{a:Option Addr}{b:Nat}{p:List (List Ins)}(h:ProgAt w (.agg #[.slice a p.length b]) p){t:Nat}(j:t<p.length):∃ g o,a=some ⟨g,o,none⟩/\∃ rv,w.cell? ⟨g,o+t,none⟩=some rv/\CodeAt w rv p[t]:=by
 obtain⟨ao',cap',e,i⟩:=h;simp only [Value.agg.injEq,Array.mk.injEq,List.cons.injEq,Value.slice.injEq,and_true,true_and]at e;obtain⟨g,o,c,rv,d,f⟩:=i t j;exact⟨g,o,by rw [e.1];exact c,rv,d,f⟩
theorem pK(p:List (List Ins))(a b:Value)(w:World)(G:ProgAt w a p)(H:ProgAt w b p)(hpl:p.length<=1000)(Z:∀ c∈p,c.length<=4398046510976):
  Calls Tryz.prog 43 #[a,b] w fun e w'=>e= .returned (.bool true)/\w.grownBy w' none:=by
 obtain⟨v,o,rfl⟩:=G.form;obtain⟨x,q,rfl⟩:=H.form;have HA:=ij G;have HB:=ij H;have ag:=ij Z;have qp:(p.length:Int)<=1000:=by omega
 clear G H Z;go_enter Tryz.func43,Tryz.ntmps43
 go_upto_region 1 with fail
 obtain⟨f,s⟩:∃ f,f=(w.alloc (.cells #[.slice v p.length o] 37)).alloc (.cells #[.slice x p.length q] 37):=⟨_,rfl⟩;rw [<-s];have r:Hid (w.grownBy f none):=by unfold Hid;rw [s];exact iq (iq (ir _ _))
 have P:f.cell? ⟨w.heap.size,0,none⟩=some (.slice v p.length o):=by
  have I:f.heap[w.heap.size]?=some (.cells #[.slice v p.length o] 37 (0,0)):=by rw [s,Below.heap_alloc _ _ _ (by simp)];exact heap_alloc_new w _
  simp [World.cell?,I]
 have Q:f.cell? ⟨w.heap.size+1,0,none⟩=some (.slice x p.length q):=by
  have I:f.heap[w.heap.size+1]?=some (.cells #[.slice x p.length q] 37 (0,0)):=by
   have:=heap_alloc_new (w.alloc (.cells #[.slice v p.length o] 37)) (.cells #[.slice x p.length q] 37);rw [s];simpa using this
  simp [World.cell?,I]
 clear s;generalize w.heap.size=n2 at*;have L:=ij P;have ad:=ij Q;go_wp2_with fail
 clear P Q;go_loopw [5] (fun iv w'=>∃ t:Nat,t<=p.length/\iv= .int .i64 t/\Hid (f.grownBy w' none)) (fun iv _=>p.length - (intOf iv).toNat)
 case atStart=>exact⟨0,Nat.zero_le _,rfl,ij (ir _ _)⟩
 case round=>
  obtain⟨t,ht,rfl,n⟩:=hrel;obtain⟨K,aa⟩:∃ K,K=wr:=⟨_,rfl⟩;rw [<-aa]at n ⊢;clear aa;have k2:=ip n.out _ _ L.out;by_cases J:t<p.length
  ·have q0:(0:Int)<=(t:Int):=by omega
   have q1:(t:Int)<p.length:=by omega
   obtain⟨y,z,rfl,rv,R,S⟩:=oT HA.out J;obtain⟨A,B,rfl,rw',T,U⟩:=oT HB.out J;have hcl:=ag.out _ (List.getElem_mem J);have ae:=ij S;have af:=ij U;obtain⟨C,D,ai,_⟩:=S;obtain⟨E,F,aj,_⟩:=U;subst ai aj;generalize p[t]=c at*;have O:Hid (∀ u,f.grownBy u none->u.cell? ⟨n2,0,none⟩=some (.slice (some ⟨y,z,none⟩) p.length o)/\u.cell? ⟨n2+1,0,none⟩=some (.slice (some ⟨A,B,none⟩) p.length q)/\u.cell? ⟨y,z+t,none⟩=some (.slice C c.length D)/\u.cell? ⟨A,B+t,none⟩=some (.slice E c.length F)):=fun u hu=>⟨ip hu _ _ L.out,ip hu _ _ ad.out,ip (il r.out hu) _ _ R,ip (il r.out hu) _ _ T⟩
   have ah:=ij (fun u hu=>mu c (.slice C c.length D) (.slice E c.length F) u (ae.out.pres (ip (il r.out hu))) (af.out.pres (ip (il r.out hu))) hcl);have X:=O.out K.drew (iy n.out);clear R T;go_upto_region 6 with fail
   refine iz (fun u=>u.cell? ⟨n2,0,none⟩=some (.slice (some ⟨y,z,none⟩) p.length o)/\u.cell? ⟨n2+1,0,none⟩=some (.slice (some ⟨A,B,none⟩) p.length q)/\u.cell? ⟨y,z+t,none⟩=some (.slice C c.length D)/\u.cell? ⟨A,B+t,none⟩=some (.slice E c.length F)) 11 (by kernel_rfl) (by kernel_rfl) X ?_;intro d;refine ie 0 ?v0 rfl (by kernel_rfl) (fun _ _ _ h=>h) (by kernel_rfl) ?y0 d ?_
   case y0=>(rintro u ⟨j,k,l,m⟩;go_simp;try rfl)
   simp only [Act.put,List.setIfInBounds_toArray];refine ie 1 ?v1 rfl (by kernel_rfl) (fun _ _ _ h=>h) (by kernel_rfl) ?y1 d ?_
   case y1=>(rintro u ⟨j,k,l,m⟩;go_simp;try rfl)
   simp only [Act.put];refine ie 2 ?v2 rfl (by kernel_rfl) (fun _ _ _ h=>h) (by kernel_rfl) ?y2 d ?_
   case y2=>(rintro u ⟨j,k,l,m⟩;go_simp;try rfl)
   simp only [Act.put];refine ie 3 ?v3 rfl (by kernel_rfl) (fun _ _ _ h=>h) (by kernel_rfl) ?y3 d ?_
   case y3=>(rintro u ⟨j,k,l,m⟩;go_simp;try rfl)
   simp only [Act.put];refine ie 4 ?v4 rfl (by kernel_rfl) (fun _ _ _ h=>h) (by kernel_rfl) ?y4 d ?_
   case y4=>(rintro u ⟨j,k,l,m⟩;go_simp;try rfl)
   simp only [Act.put];refine ie 5 ?v5 rfl (by kernel_rfl) (fun _ _ _ h=>h) (by kernel_rfl) ?y5 d ?_
   case y5=>(rintro u ⟨j,k,l,m⟩;go_simp;try rfl)
   simp only [Act.put];refine ie 6 ?v6 rfl (by kernel_rfl) (fun _ _ _ h=>h) (by kernel_rfl) ?y6 d ?_
   case y6=>(rintro u ⟨j,k,l,m⟩;go_simp;try rfl)
   simp only [Act.put];refine ie 7 ?v7 rfl (by kernel_rfl) (fun _ _ _ h=>h) (by kernel_rfl) ?y7 d ?_
   case y7=>(rintro u ⟨j,k,l,m⟩;go_simp;try rfl)
   simp only [Act.put];refine ie 8 ?v8 rfl (by kernel_rfl) (fun _ _ _ h=>h) (by kernel_rfl) ?y8 d ?_
   case y8=>(rintro u ⟨j,k,l,m⟩;go_simp;try rfl)
   simp only [Act.put];refine ie 9 ?v9 rfl (by kernel_rfl) (fun _ _ _ h=>h) (by kernel_rfl) ?y9 d ?_
   case y9=>(rintro u ⟨j,k,l,m⟩;go_simp;try rfl)
   simp only [Act.put];refine iu (i:=10) rfl (by kernel_rfl) (by kernel_rfl) (by kernel_rfl) ?_;intro K10 W;have N:=ij W;clear W;go_simp;refine(ah.out _ (iy n.out)).mono ?_;rintro e w3 ⟨rfl,Y⟩;have M:Hid (f.grownBy w3 none):=il n.out (uD (iH Y));have V:=O.out w3 M.out;refine N.out _ _ V ?_;clear N Y;try simp only [Act.put,List.setIfInBounds_toArray]
   refine iF rfl (by kernel_rfl) (by kernel_rfl) (by kernel_rfl) ?_;go_simp;clear d V X k2;go_wp2_with fail
   go_roundw
   case rel=>exact⟨t+1,by omega,by go_num,M⟩
   case measure=>simp [intOf]<;>omega
  ·have q1:(p.length:Int)<=(t:Int):=by omega
   go_wp2_with fail
   go_ret;exact⟨rfl,il r.out n.out⟩
end
section
open Go.RowKit
def f00:Nat->Value:=fun k=>if k=5 then .int .i64 0 else .slice none 0 0
theorem Hz.start{w:World}{b:Nat}(h:w.heap[b]?=some (.cells (hcl f00) 45 (0,0))):Hz b w b (setW (fun _=> .other) b .hands) 0 f00 (fun _=>[]):=by
 have a:∀ k,k≠5->f00 k= .slice none 0 0:=fun k hk=>by unfold f00;rw [if_neg hk]
 refine⟨⟨⟨h,rfl,fun c hc=>?_,fun c hc=>?_,fun c hc g e=>?_,fun c hc g e=>?_,iY _ _ _,fun c hc x hx=>(by cases hx),fun g e=>?_⟩,fun c hc x hx=>(by cases hx)⟩,fun k hk=>a k (by omega)⟩
 ·rw [a _ (by omega)];exact⟨rfl,Or.inl ⟨rfl,rfl⟩⟩
 ·rw [a _ (by omega)];exact⟨rfl,Or.inl ⟨rfl,rfl⟩⟩
 ·rw [a _ (by omega)]at e;cases e
 ·rw [a _ (by omega)]at e;cases e
 ·by_cases d:g=b
  ·subst d;exact⟨Nat.le_refl _,(Array.getElem?_eq_some_iff.1 h).1⟩
  ·rw [iJ _ _ d]at e;exact absurd rfl e
end
end Go.Proofs.YtklenjmfalljgabGreatDoor
