/- The texts Kqa Hgt Hgx Kqb Kqc. -/
import Derived.Test.YtklenjmfalljgabGreatDoorM02
import Derived.Test.YtklenjmfalljgabGreatDoorM08
namespace Go.Proofs.YtklenjmfalljgabGreatDoor
set_option maxRecDepth 100000
set_option maxHeartbeats 8000000
section
open Go.RowKit
attribute [local go_sem] Go.World.cell?_alloc_some
theorem BJ:((Tryz.prog.info? 65).map fun i=>(i.zero,i.size,i.bytes))=some (some (.agg #[.int .i64 0,.int .i64 0,.int .i64 0,.int .i64 0]),4,32):=by kernel_rfl
theorem CT:((Tryz.prog.info? 66).map fun i=>(i.zero,i.size,i.bytes))=some (some (.slice none 0 0),1,24):=by kernel_rfl
theorem EV(m:Int)(xs:List Value)(k len:Nat)(hx:xs.length=len*4)(hk:k<len):((((((List.replicate k (elC m 3)).flatten++xs.drop (k*4)).set (k*4) (.int .i64 m)).set (k*4+1) (.int .i64 0)).set (k*4+2) (.int .i64 0)).set (k*4+3) (.int .i64 0))=(List.replicate (k+1) (elC m 3)).flatten++xs.drop ((k+1)*4):=by
 obtain⟨e,h⟩:∃ e,e=(List.replicate k (elC m 3)).flatten:=⟨_,rfl⟩;have j:e.length=k*4:=by rw [h];exact mq _ _
 rw [<-kX,<-h];have f:4<=(xs.drop (k*4)).length:=by rw [List.length_drop];omega
 have i:xs.drop ((k+1)*4)=(xs.drop (k*4)).drop 4:=by rw [List.drop_drop];congr 1<;>omega
 rw [i];generalize xs.drop (k*4)=zs at f;obtain⟨b,z1,d,c,a,rfl⟩:∃ b z1 d c a,zs=b::z1::d::c::a:=by
  match zs,f with
  | b::z1::d::c::a,_=>exact⟨b,z1,d,c,a,rfl⟩
 rw [<-j];simp [elC]
theorem Ex{B:Nat}{w:World}{b S t tg tl tc:Nat}(h3:w.cell? ⟨S,0,none⟩=some (.slice (some ⟨tg,0,none⟩) tl tc))(ht:t<tl)(htl:tl<=1000){who:Nat->Role}{n:Int}{f:Nat->Value}{K:Nat->List (Value × Int)}{x1:Option Addr}{x3 len:Nat}{xs:List Value}(bV:w.cell? ⟨tg,t,none⟩=some (.slice x1 len x3))(v:HsK B w b who n f K)(hl:w.ownsRow B 65 4 (.slice x1 len x3) len xs)(F:∀ g,(Value.slice x1 len x3).ownBlock=some g->who g= .other)
  (da:0<=n) (hn1:n<=10000000000000) (hK:(K 3).length<=5000000000000) (ha:len<=900)
  {Q':Exit->Act->World->Prop} {c1 c2 c5 c6 C c8 c9 aI bw bj aB aE a4 ah a5 dl b3 cQ bW c4 cN db cK cY ep bS dp bK eb cC cc dP dX cg ch dN dW cZ b2 dg dI ee dn cw ef cj bU bL dD ds dy cV dY bE bJ ce dM dv dq cz dk cT co dj aJ a2 bu aU aP bx bn ax a6 ao bd bD aM aH aC ar bh aV aG aZ bp aS bt bg aR ay aW a0 a3 aK bi a1 am aL aQ bq aT a9 al bm ai aj an aw ak bA:Value}
  (bI:Hid (∀ {z5 z6 z7 z8 dK ec b6 cJ ei dV el dG cP d3 b4 cf bR cm bX dU b7 dQ bT cU dx dL cq d5 cA bO d4 ca b8 dC b0 cM d7 dA bN d0 ck cG dh dm dF cl em ct dH eo dt dw d9:Value} (w':World),(∃ who' f' K',HsK B w' b who' (n+1) f' K'/\oB 3 w w' who who' f f' K K' (fun g=>(Value.slice x1 len x3).ownBlock=some g))->Q' .normal ⟨#[.pointer (some ⟨b,0,none⟩),c1,c2,.pointer (some ⟨S,0,none⟩),.int .i64 ((t:Int)+1),z5,z6,z7,z8,c9,aI,bw,bj,aB,aE,a4,ah,a5,dK,ec,b6,cJ,ei,dV,el,dG,cP,d3,b4,cf,bR,cm,bX,dU,b7,dQ,bT,cU,dx,dL,cq,d5,cA,bO,d4,ca,b8,dC,b0,cM,d7,dA,bN,d0,ck,cG,dh,dm,dF,cl,em,ct,dH,eo,dt,dw,d9,aJ,a2,bu,aU,aP,bx,bn,ax,a6,ao,bd,bD,aM,aH,aC,ar,bh,aV,aG,aZ,bp,aS,bt,bg,aR,ay,aW,a0,a3,aK,bi,a1,am,aL,aQ,bq,aT,a9,al,bm,ai,aj,an,aw,ak,bA],[]⟩ w')):
  Code.wp Tryz.prog (oO Tryz.f44 4) Q' ⟨#[.pointer (some ⟨b,0,none⟩),c1,c2,.pointer (some ⟨S,0,none⟩),.int .i64 (t:Int),c5,c6,C,c8,c9,aI,bw,bj,aB,aE,a4,ah,a5,dl,b3,cQ,bW,c4,cN,db,cK,cY,ep,bS,dp,bK,eb,cC,cc,dP,dX,cg,ch,dN,dW,cZ,b2,dg,dI,ee,dn,cw,ef,cj,bU,bL,dD,ds,dy,cV,dY,bE,bJ,ce,dM,dv,dq,cz,dk,cT,co,dj,aJ,a2,bu,aU,aP,bx,bn,ax,a6,ao,bd,bD,aM,aH,aC,ar,bh,aV,aG,aZ,bp,aS,bt,bg,aR,ay,aW,a0,a3,aK,bi,a1,am,aL,aQ,bq,aT,a9,al,bm,ai,aj,an,aw,ak,bA],[]⟩ w:=by
 conv=>arg 2;whnf
 obtain⟨i0,dd,dJ,cB,df⟩:=info_parts BJ;obtain⟨i1,dO,cX,dc,di⟩:=info_parts CT;obtain⟨i2,eg,dz,d2,b9⟩:=info_parts kn;have be:=hl.1;have q3:(t:Int)<tl:=by omega
 have q4:(0:Int)<=(t:Int):=by omega
 have q5:(tl:Int)<=1000:=by omega
 go_upto_region 5 with fail
 clear h3 bV q3 q4 q5;have HM:=il (sR v.1 da (by omega));have HO:=il F;have H0:Hid (WrG B 3 w (w.setCell ⟨b,5,none⟩ (.int .i64 (n+1))) b who (n+1) f (lw f 5 (.int .i64 (n+1))) K (.slice x1 len x3) len xs (-77000000 - (n+1)) 0):=by
  refine⟨⟨v.1.setCnt _,v.2⟩,?_,?_,fun o F=>iX _ _ (by omega)⟩
  ·have ea:(Value.slice x1 len x3).ownBlock≠some b:=fun e=>by have:=F b e;rw [v.1.wb]at this;cases this
   have h5:=ownsRow_setCell_other (a:=⟨b,5,none⟩) hl ea (.int .i64 (n+1));have e5:(List.replicate 0 (elC (-77000000 - (n+1)) 3)).flatten++xs.drop (0*(elC (-77000000 - (n+1)) 3).length)=xs:=by simp
   rw [e5];exact h5
  ·exact Fr.set (Or.inl (by rw [v.1.wb];simp))
 have bb:pt b= .pointer (some ⟨b,0,none⟩):=rfl;rw [bb]at*;clear v hl F bb;generalize hm: -77000000 - (n+1)=m at*;have HMM:=il hm;clear hm;go_wp2_with (go_at_call 55;refine HM.out.mono ?_;rintro e w1 ⟨rfl,rfl⟩)
 go_loopw [7] (fun i w'=>∃ k:Nat,k<=len/\i= .int .i64 k/\Hid (WrG B 3 w w' b who (n+1) f (lw f 5 (.int .i64 (n+1))) K (.slice x1 len x3) len xs m k)) (fun i _=>len - (intOf i).toNat)
 case atStart=>exact⟨0,Nat.zero_le _,rfl,H0⟩
 case round=>
  clear H0 HM;obtain⟨k,Q,rfl,s⟩:=hrel;obtain⟨d,az⟩:∃ d,d=wr:=⟨_,rfl⟩;rw [<-az]at s ⊢;clear az;by_cases b5:k<len
  ·obtain⟨g,cp,e0,_,_⟩:=s.out.row.form (by omega);have l:d.ownsRow B 65 4 (.slice x1 len x3) len ((List.replicate k (elC m 3)).flatten++xs.drop (k*4)):=s.out.row;rw [e0]at l;simp only [Value.slice.injEq,true_and]at e0;obtain⟨rfl,rfl⟩:=e0;have y:=HO.out g rfl;obtain⟨u0,y0⟩:∃ u,d.cell? ⟨g,k*4,none⟩=some u:=lO l (by omega);have z0:d.frozen? ⟨g,k*4,none⟩=false:=lL l;obtain⟨u1,y1⟩:∃ u,d.cell? ⟨g,k*4+1,none⟩=some u:=lO l (by omega);have z1:d.frozen? ⟨g,k*4+1,none⟩=false:=lL l;obtain⟨u2,y2⟩:∃ u,d.cell? ⟨g,k*4+2,none⟩=some u:=lO l (by omega);have z2:d.frozen? ⟨g,k*4+2,none⟩=false:=lL l;obtain⟨u3,y3⟩:∃ u,d.cell? ⟨g,k*4+3,none⟩=some u:=lO l (by omega);have z3:d.frozen? ⟨g,k*4+3,none⟩=false:=lL l;have en:Hid (WrG B 3 w ((((d.setCell ⟨g,k*4,none⟩ (.int .i64 m)).setCell ⟨g,k*4+1,none⟩ (.int .i64 0)).setCell ⟨g,k*4+2,none⟩ (.int .i64 0)).setCell ⟨g,k*4+3,none⟩ (.int .i64 0)) b who (n+1) f (lw f 5 (.int .i64 (n+1))) K (.slice (some ⟨g,0,none⟩) len x3) len xs m (k+1)):=by
    have R:=s.out;refine⟨((((R.hs.setOther y).setOther y).setOther y).setOther y),?_,?_,R.lent⟩
    ·have h9:=(jt (jt (jt (jt l (k*4) (.int .i64 m)) (k*4+1) (.int .i64 0)) (k*4+2) (.int .i64 0)) (k*4+3) (.int .i64 0));have T:=EV m xs k len be b5;rw [T]at h9;exact h9
    ·exact((((R.fr).trans (Fr.set (Or.inr rfl))).trans (Fr.set (Or.inr rfl))).trans (Fr.set (Or.inr rfl))).trans (Fr.set (Or.inr rfl))
   have q0:(0:Int)<=(k:Int):=by omega
   have q1:(k:Int)<len:=by omega
   clear l y;go_wp2_with fail
   go_roundw
   case rel=>exact⟨k+1,by omega,by go_num,en⟩
   case measure=>simp [intOf];omega
  ·have ek:k=len:=by omega
   have q1:(len:Int)<=(k:Int):=by omega
   have HS:Hid (∃ V,KpG B 3 w d b who V (n+1) m f (lw f 5 (.int .i64 (n+1))) K K (.slice x1 len x3) len 0 (fun g=>(Value.slice x1 len x3).ownBlock=some g)):=by
    have hi:=s.out;rw [ek]at hi;exact hi.kp (by omega) be (by omega) HO.out
   clear s ek;go_wp2_with fail
   go_loopw [5,8] (fun lv' i w'=>∃ (k:Nat) (who':Nat->Role) (f':Nat->Value) (K':Nat->List (Value × Int)),k<=4/\i= .int .i64 k/\Hid (KpG B 3 w w' b who who' (n+1) m f f' K K' lv' (len+k) k (fun g=>(Value.slice x1 len x3).ownBlock=some g))) (fun _ i _=>4 - (intOf i).toNat)
   case atStart=>
    obtain⟨V,h1⟩:=HS.out;exact⟨0,V,_,K,by omega,rfl,il h1⟩
   case round=>
    clear HS;obtain⟨j,who',f',K',hj,rfl,h⟩:=hrel;obtain⟨c,aF⟩:∃ c,c=wr:=⟨_,rfl⟩;rw [<-aF]at h ⊢;clear aF;have z:c.ownsRow B 66 1 (f' 12) (K' 3).length ((K' 3).map (·.1)):=h.out.hs.lst 3 (by omega);have rM:c.ownsRow B 3 1 (f' 13) (K' 3).length (iM ((K' 3).map (·.2))):=by have:=h.out.hs.mrk 3 (by omega);simpa [jp]using this
    have G:c.ownsRow B 65 4 u5 (len+j) (List.replicate (len+j) (elC m 3)).flatten:=h.out.cu.row;have dT:Hid ((K' 3).length=(K 3).length+j):=h.out.len;have c6:c.cell? ⟨b,12,none⟩=some (f' 12):=h.out.hs.blk.cell (by omega);have hbase:B<=c.heap.size:=by have:=h.out.hs.blk.lt;have:=(h.out.hs.dom b (by rw [h.out.hs.wb];simp)).1;omega
    obtain⟨r,l2,x,rfl⟩:=iy G;have dr:=iC G;subst dr;obtain⟨J,o2,U,P⟩:=iy z;rw [P]at z c6;have cL:=iC z;subst cL;have cF:(K' 3).length<=5000000000003\/¬j<4:=by have:=dT.out;omega
    have bP:=il G;have br:=il z;have O:=il P;have c3:=il rM;clear G z rM P;by_cases hj4:j<4
    ·have cF:(K' 3).length<=5000000000003:=by omega
     have z2:(j:Int)<4:=by omega
     have au:(K' 3).length+1<=maxLen:=by unfold maxLen;omega
     have dB:len+j+1<=maxLen:=by unfold maxLen;omega
     have ab:Hid (∀ {o:Obj} {g6 c6:Nat} {w6:World},w6.ownsRow B 66 1 (.slice (some ⟨g6,0,none⟩) ((K' 3).length+1) c6) ((K' 3).length+1) ((K' 3).map (·.1)++[.slice r (len+j) x])->
       (((Value.slice J (K' 3).length U).ownBlock=some g6/\(c.alloc o).grownBy w6 (some g6))\/(g6=c.heap.size+1/\(c.alloc o).grownBy w6 none))->
       HB w6 b f'/\∃ who'' f'',KpA B 3 w (w6.setCell ⟨b,12,none⟩ (.slice (some ⟨g6,0,none⟩) ((K' 3).length+1) c6)) b who who'' (n+1) m f f'' K K' (.slice r (len+j) x) (len+j) j (fun g=>(Value.slice x1 len x3).ownBlock=some g)/\f'' 13=f' 13):=by
      intro o g6 c6 w6 dS key;rw [<-O.out]at key;exact h.out.push (by omega) dS key
     generalize bf:(K' 3).length=N at*;generalize cn:(K' 3).map (·.1)=L1 at*;have Z:=il bf;clear bf cn;go_upto_region 14 with (at_builtin;go_must (refine iH rfl _ _ _ rfl B 66 i1 _ 1 24 Tryz.underlying35 dO cX dc di rfl (by omega) (.slice J N U) N L1 rfl (iK br.out) ⟨c.heap.size,0,none⟩ 1 1 [.slice r (len+j) x] rfl rfl (World.news_of_block (cs:= #[.slice r (len+j) x]) (t:=66) (fr:=(0,0)) (heap_alloc_new c _)) (by simp [Value.oneCell']) (by omega) au (by omega) (by simp;omega) (c.heap.size+1) (by simp) ?_);intro g8 cr w8 X ad cW;have Y:=(ab.out X ad).1;have I:w8.cell? ⟨b,12,none⟩=some (.slice J N U):=(by rw [Y.cell (by omega),O.out]);have L:=Y.frozen 12)
     obtain⟨_,who9,f9,p,T⟩:=ab.out X ad;generalize w8.setCell ⟨b,12,none⟩ (.slice (some ⟨g8,0,none⟩) (N+1) cr)=w9 at*;have ac:=il p;have A:w9.ownsRow B 3 1 (f9 13) N (iM ((K' 3).map (·.2))):=by
      have:=p.hs.mrk 3 (by omega);rw [<-Z.out];simpa [jp]using this
     have C:w9.cell? ⟨b,13,none⟩=some (f9 13):=p.hs.blk.cell (by omega);obtain⟨D,m2,E,W⟩:=iy A;rw [W]at A C;have bG:=(iC A).symm;subst bG;have hbase9:B<=w9.heap.size:=by have:=p.hs.blk.lt;have:=(p.hs.dom b (by rw [p.hs.wb];simp)).1;omega
     have ba:=il A;have H:=il W;clear X ad Y I L cW c6 p T ab A W O br c3;go_upto_region 15 with (at_builtin;go_must (refine iH rfl _ _ _ rfl B 3 i2 _ 1 8 Tryz.underlying39 eg dz d2 b9 rfl (by omega) (.slice D N E) N (iM ((K' 3).map (·.2))) rfl (iK ba.out) ⟨w9.heap.size,0,none⟩ 1 1 [.int .i64 m] rfl rfl (World.news_of_block (cs:= #[.int .i64 m]) (t:=3) (fr:=(0,0)) (heap_alloc_new w9 _)) (by simp [Value.oneCell']) (by omega) au (by omega) (by simp;omega) (w9.heap.size+1) (by simp) ?_);intro bF cS bv ag af cv;have M:=(ac.out.tell (by omega) (M1:=D) (M3:=E) H.out Z.out ag af).1;have I:bv.cell? ⟨b,13,none⟩=some (.slice D N E):=(by rw [M.cell (by omega),H.out]);have L:=M.frozen 13)
     obtain⟨_,who11,f11,q⟩:=ac.out.tell (by omega) (M1:=D) (M3:=E) H.out Z.out ag af;generalize bv.setCell ⟨b,13,none⟩ (.slice (some ⟨bF,0,none⟩) (N+1) cS)=w11 at*;have cI:=il q;have dE:Hid (w11.ownsRow B 65 4 (.slice r (len+j) x) (len+j) (List.replicate (len+j) (elC m 3)).flatten):=q.cu.row;have hbase11:B<=w11.heap.size:=by have:=q.hs.blk.lt;have:=(q.hs.dom b (by rw [q.hs.wb];simp)).1;omega
     clear ag af M I L cv C q ac ba H bP;go_wp2_with (at_builtin;go_must (refine iH rfl _ _ _ rfl B 65 i0 _ 4 32 Tryz.underlying66 dd dJ cB df rfl (by omega) (.slice r (len+j) x) (len+j) (List.replicate (len+j) (elC m 3)).flatten rfl (iK dE.out) ⟨w11.heap.size,0,none⟩ 1 1 [.int .i64 m,.int .i64 0,.int .i64 0,.int .i64 0] rfl rfl (World.news_of_block (cs:= #[.int .i64 m,.int .i64 0,.int .i64 0,.int .i64 0]) (t:=65) (fr:=(0,0)) (heap_alloc_new w11 _)) (by simp [Value.oneCell']) (by omega) dB (by omega) (by simp;omega) (w11.heap.size+1) (by simp) ?_);intro g12 cap12 w12 bo av d8;have cy:=il (cI.out.grow (by omega) (by omega) bo av);clear bo av d8)
     go_roundw
     case rel=>
      obtain⟨cx,d6⟩:=cy.out;exact⟨j+1,cx,_,_,by omega,by go_num,il d6⟩
     case measure=>simp [intOf];omega
    ·have z2:(4:Int)<=(j:Int):=by omega
     have HE:Hid (∃ who' f' K',HsK B c b who' (n+1) f' K'/\oB 3 w c who who' f f' K K' (fun g=>(Value.slice x1 len x3).ownBlock=some g)):=by
      have ej:j=4:=by omega
      have Q:=h.out;rw [ej]at Q;exact Q.done
     go_wp2_with fail
     exact bI.out c HE.out
end
section
open Go.RowKit
structure Cu4(B:Nat)(w:World)(who:Nat->Role)(m:Int)(c:Nat)(lv:Value)(len:Nat)(R:List Value)(K:Nat->List (Value × Int)):Prop where
 row:w.ownsRow B 66 1 lv len R
 el:∀ k,k<len->∃ g' cap',R[k]?=some (.slice (some ⟨g',0,none⟩) 1 cap')/\w.heap[g']?=some (.cells (elC m 3).toArray 65 (0,0))/\who g'= .kept
 wc:∀ g,lv.ownBlock=some g->who g= .cur
 ent:∀ x∈K c,∀ g,x.1.ownBlock=some g->who g= .cur->x.2=m/\∃ l c',x.1= .slice (some ⟨g,0,none⟩) l c'/\(lv.ownBlock=some g->l<=len)
 oth:∀ c',c'<5->c'≠c->∀ x∈K c',∀ g,x.1.ownBlock=some g->who g= .kept
 ln:len<=1000
section
variable {B : Nat} {w w6 : World} {b : Nat} {who : Nat -> Role} {n m : Int} {f : Nat -> Value} {K : Nat -> List (Value × Int)} {M : Nat -> List Int} {c : Nat} {lv : Value} {len : Nat} {R : List Value}
theorem Cu4.keptNow4(a:Cu4 B w who m c lv len R K)(hc:c=4):KeptC c w who (lv,m):=by
 subst hc;rcases a.row.2 with ⟨e,_⟩ | ⟨g,cap,cur,hv,hbb,hh,hrest⟩
 ·exact Or.inl e
 ·refine Or.inr ⟨g,len,cap,hv,a.ln,?_⟩;have b:=a.row;rw [hv]at b;refine mP.2 fun k hk=>?_
  obtain⟨j,d,h,i,f⟩:=a.el k hk;exact⟨j,d,by rw [b.cellAt k (by omega)];exact h,i,f⟩
theorem Hs.push4(h:Hs B w b who n f K M)(i:Cu4 B w who m c lv len R K)(hc:c=4){o:Obj}{g6 c6:Nat}
  (C:w6.ownsRow B (tlC c) 1 (.slice (some ⟨g6,0,none⟩) ((K c).length+1) c6) ((K c).length+1) ((K c).map (·.1)++[lv]))
  (key:((f (6+2*c)).ownBlock=some g6/\(w.alloc o).grownBy w6 (some g6))\/(g6=w.heap.size+1/\(w.alloc o).grownBy w6 none)):
  Hs B (w6.setCell ⟨b,6+2*c,none⟩ (.slice (some ⟨g6,0,none⟩) ((K c).length+1) c6)) b (setW who g6 (.lst c)) n (lw f (6+2*c) (.slice (some ⟨g6,0,none⟩) ((K c).length+1) c6)) (oD K c (K c++[(lv,m)])) M/\
  Cu4 B (w6.setCell ⟨b,6+2*c,none⟩ (.slice (some ⟨g6,0,none⟩) ((K c).length+1) c6)) (setW who g6 (.lst c)) m c lv len R (oD K c (K c++[(lv,m)])):=by
 have N:c<5:=by omega
 obtain⟨hsz,t,hsr,h6r⟩:=kB key (fun g e=>(h.dom g e).2) (r:= .lst c) (by simp) (h.wl c N);have Q:g6≠b:=(t b (by rw [h.wb];simp) (by rw [h.wb];simp)).2;have H:HB w6 b f:=h.blk.same (t b (by rw [h.wb];simp) (by rw [h.wb];simp)).1;generalize I:Value.slice (some ⟨g6,0,none⟩) ((K c).length+1) c6=V at*;have u:V.ownBlock=some g6:=by rw [<-I];rfl
 have A:∀ g,who g≠ .other->who g≠ .lst c->g≠b->(w6.setCell ⟨b,6+2*c,none⟩ V).heap[g]?=w.heap[g]?:=fun g q p h3=>by
  rw [Below.heap_setCell _ _ _ _ (by simpa using h3)];exact(t g q p).1
 have s:∀ g,who g≠ .other->who g≠ .lst c->setW who g6 (.lst c) g=who g:=fun g q p=>iO _ _ (fun e=>(t g q p).2 e.symm)
 have y:∀ g,who g= .kept\/who g= .cur->(w6.setCell ⟨b,6+2*c,none⟩ V).heap[g]?=w.heap[g]?:=fun g e=>A g (by rcases e with e | e<;>rw [e]<;>simp) (by rcases e with e | e<;>rw [e]<;>simp) (fun d=>by subst d;rw [h.wb]at e;rcases e with e | e<;>cases e)
 have v:∀ g,who g= .kept->setW who g6 (.lst c) g= .kept:=fun g e=>by rw [s g (by rw [e];simp) (by rw [e];simp)];exact e
 have z:∀ g,who g= .cur->setW who g6 (.lst c) g= .cur:=fun g e=>by rw [s g (by rw [e];simp) (by rw [e];simp)];exact e
 have P:∀ g,who g= .kept\/who g= .cur->setW who g6 (.lst c) g= .kept\/setW who g6 (.lst c) g= .cur:=fun g e=>e.imp (v g) (z g)
 have T:∀ g,setW who g6 (.lst c) g= .cur->who g= .cur:=fun g e=>by
  by_cases d:g=g6
  ·subst d;rw [jD]at e;cases e
  ·rwa [iO _ _ d]at e
 have E:∀ c' x,c'<5->x∈K c'->KeptC c' (w6.setCell ⟨b,6+2*c,none⟩ V) (setW who g6 (.lst c)) x/\∀ g,x.1.ownBlock=some g->setW who g6 (.lst c) g= .kept\/setW who g6 (.lst c) g= .cur:=fun c' x hc' hx=>by
  obtain⟨k1,k2⟩:=h.kept c' hc' x hx;exact⟨(k1.same k2 y).who v,fun g e=>P g (k2 g e)⟩
 have J:(w6.setCell ⟨b,6+2*c,none⟩ V).ownsRow B 66 1 lv len R:=iN i.row (fun g e=>y g (Or.inr (i.wc g e)));have S:∀ k,k<len->∃ j D,R[k]?=some (.slice (some ⟨j,0,none⟩) 1 D)/\(w6.setCell ⟨b,6+2*c,none⟩ V).heap[j]?=some (.cells (elC m 3).toArray 65 (0,0))/\setW who g6 (.lst c) j= .kept:=fun k hk=>by
  obtain⟨j,D,L,O,G⟩:=i.el k hk;exact⟨j,D,L,by rw [y j (Or.inl G)];exact O,v j G⟩
 have F:Cu4 B (w6.setCell ⟨b,6+2*c,none⟩ V) (setW who g6 (.lst c)) m c lv len R (oD K c (K c++[(lv,m)])):=by
  refine⟨J,S,fun g e=>z g (i.wc g e),fun x hx g e d=>?_,fun c' hc' hne x hx g e=>?_,i.ln⟩
  ·rw [nC]at hx;rcases List.mem_append.1 hx with hx | hx
   ·exact i.ent x hx g e (T g d)
   ·simp at hx;subst hx;refine⟨rfl,?_⟩;rcases i.row.2 with ⟨e3,_⟩ | ⟨j,cap,cur,hv,_⟩
    ·simp only at e;rw [e3]at e;cases e
    ·simp only at e;rw [hv]at e;simp only [Value.ownBlock,Option.some.injEq]at e;exact⟨len,cap,by rw [hv,e],fun _=>Nat.le_refl _⟩
  ·rw [nH _ _ hne]at hx;exact v g (i.oth c' hc' hne x hx g e)
 refine⟨⟨H.set (by omega) V,by rw [iX _ _ (by omega)];exact h.cnt,fun c' hc'=>?_,fun c' hc'=>?_,fun c' hc' g e=>?_,fun c' hc' g e=>?_,?_,fun c' hc' x hx=>?_,fun g e=>?_⟩,F⟩
 ·by_cases e:c'=c
  ·subst e;rw [lJ,nC];have:=ownsRow_setCell_other (a:=⟨b,6+2*c',none⟩) C (show V.ownBlock≠some b by rw [u];simpa using Q) V;simpa using this
  ·rw [iX _ _ (by omega),nH _ _ e];exact iN (h.lst c' hc') (fun g d=>A g (by rw [h.wl c' hc' g d];simp) (by rw [h.wl c' hc' g d];simpa using e) (fun e3=>by subst e3;have:=h.wl c' hc' g d;rw [h.wb]at this;cases this))
 ·rw [iX _ _ (by omega)];exact iN (h.mrk c' hc') (fun g d=>A g (by rw [h.wm c' hc' g d];simp) (by rw [h.wm c' hc' g d];simp) (fun e3=>by subst e3;have:=h.wm c' hc' g d;rw [h.wb]at this;cases this))
 ·by_cases d:c'=c
  ·subst d;rw [lJ,u]at e;simp only [Option.some.injEq]at e;subst e;exact jD _ _ _
  ·rw [iX _ _ (by omega)]at e;have:=h.wl c' hc' g e;rw [s g (by rw [this];simp) (by rw [this];simpa using d),this]
 ·rw [iX _ _ (by omega)]at e;have:=h.wm c' hc' g e;rw [s g (by rw [this];simp) (by rw [this];simp),this]
 ·rw [s b (by rw [h.wb];simp) (by rw [h.wb];simp),h.wb]
 ·by_cases d:c'=c
  ·subst d;rw [nC]at hx;rcases List.mem_append.1 hx with hx | hx
   ·exact E c' x hc' hx
   ·simp at hx;subst hx;exact⟨F.keptNow4 hc,fun g e=>Or.inr (z g (i.wc g e))⟩
  ·rw [nH _ _ d]at hx;exact E c' x hc' hx
 ·by_cases d:g=g6
  ·subst d;have q:=iB C g u;have p:=i6 C g u;exact⟨q,by simpa using p⟩
  ·rw [iO _ _ d]at e;have:=h.dom g e;exact⟨this.1,by simp;omega⟩
theorem Hs.tell4(h:Hs B w b who n f K M)(i:Cu4 B w who m c lv len R K)(hc:c=4){o:Obj}{g6 c6:Nat}
  (v:w6.ownsRow B 3 1 (.slice (some ⟨g6,0,none⟩) ((M c).length+1) c6) ((M c).length+1) (iM (M c)++[.int .i64 m]))
  (key:((f (7+2*c)).ownBlock=some g6/\(w.alloc o).grownBy w6 (some g6))\/(g6=w.heap.size+1/\(w.alloc o).grownBy w6 none)):
  Hs B (w6.setCell ⟨b,7+2*c,none⟩ (.slice (some ⟨g6,0,none⟩) ((M c).length+1) c6)) b (setW who g6 (.mrk c)) n (lw f (7+2*c) (.slice (some ⟨g6,0,none⟩) ((M c).length+1) c6)) K (vT M c (M c++[m]))/\
  Cu4 B (w6.setCell ⟨b,7+2*c,none⟩ (.slice (some ⟨g6,0,none⟩) ((M c).length+1) c6)) (setW who g6 (.mrk c)) m c lv len R K:=by
 have I:c<5:=by omega
 obtain⟨hsz,s,hsr,h6r⟩:=kB key (fun g e=>(h.dom g e).2) (r:= .mrk c) (by simp) (h.wm c I);have F:g6≠b:=(s b (by rw [h.wb];simp) (by rw [h.wb];simp)).2;have D:HB w6 b f:=h.blk.same (s b (by rw [h.wb];simp) (by rw [h.wb];simp)).1;generalize E:Value.slice (some ⟨g6,0,none⟩) ((M c).length+1) c6=V at*;have q:V.ownBlock=some g6:=by rw [<-E];rfl
 have z:∀ g,who g≠ .other->who g≠ .mrk c->g≠b->(w6.setCell ⟨b,7+2*c,none⟩ V).heap[g]?=w.heap[g]?:=fun g l j h3=>by
  rw [Below.heap_setCell _ _ _ _ (by simpa using h3)];exact(s g l j).1
 have p:∀ g,who g≠ .other->who g≠ .mrk c->setW who g6 (.mrk c) g=who g:=fun g l j=>iO _ _ (fun e=>(s g l j).2 e.symm)
 have u:∀ g,who g= .kept\/who g= .cur->(w6.setCell ⟨b,7+2*c,none⟩ V).heap[g]?=w.heap[g]?:=fun g e=>z g (by rcases e with e | e<;>rw [e]<;>simp) (by rcases e with e | e<;>rw [e]<;>simp) (fun d=>by subst d;rw [h.wb]at e;rcases e with e | e<;>cases e)
 have t:∀ g,who g= .kept->setW who g6 (.mrk c) g= .kept:=fun g e=>by rw [p g (by rw [e];simp) (by rw [e];simp)];exact e
 have A:∀ g,who g= .cur->setW who g6 (.mrk c) g= .cur:=fun g e=>by rw [p g (by rw [e];simp) (by rw [e];simp)];exact e
 have H:∀ g,setW who g6 (.mrk c) g= .cur->who g= .cur:=fun g e=>by
  by_cases d:g=g6
  ·subst d;rw [jD]at e;cases e
  ·rwa [iO _ _ d]at e
 refine⟨⟨D.set (by omega) V,by rw [iX _ _ (by omega)];exact h.cnt,fun c' hc'=>?_,fun c' hc'=>?_,fun c' hc' g e=>?_,fun c' hc' g e=>?_,?_,fun c' hc' x hx=>?_,fun g e=>?_⟩,
  ⟨iN i.row (fun g e=>u g (Or.inr (i.wc g e))),fun k hk=>(by obtain⟨y,L,G,J,C⟩:=i.el k hk;exact⟨y,L,G,by rw [u y (Or.inl C)];exact J,t y C⟩),fun g e=>A g (i.wc g e),fun x hx g e d=>i.ent x hx g e (H g d),fun c' hc' hne x hx g e=>t g (i.oth c' hc' hne x hx g e),i.ln⟩⟩
 ·rw [iX _ _ (by omega)];exact iN (h.lst c' hc') (fun g d=>z g (by rw [h.wl c' hc' g d];simp) (by rw [h.wl c' hc' g d];simp) (fun e3=>by subst e3;have:=h.wl c' hc' g d;rw [h.wb]at this;cases this))
 ·by_cases e:c'=c
  ·subst e;rw [lJ,zh];have:=ownsRow_setCell_other (a:=⟨b,7+2*c',none⟩) v (show V.ownBlock≠some b by rw [q];simpa using F) V;simpa [iM]using this
  ·rw [iX _ _ (by omega),zj _ _ e];exact iN (h.mrk c' hc') (fun g d=>z g (by rw [h.wm c' hc' g d];simp) (by rw [h.wm c' hc' g d];simpa using e) (fun e3=>by subst e3;have:=h.wm c' hc' g d;rw [h.wb]at this;cases this))
 ·rw [iX _ _ (by omega)]at e;have:=h.wl c' hc' g e;rw [p g (by rw [this];simp) (by rw [this];simp),this]
 ·by_cases d:c'=c
  ·subst d;rw [lJ,q]at e;simp only [Option.some.injEq]at e;subst e;exact jD _ _ _
  ·rw [iX _ _ (by omega)]at e;have:=h.wm c' hc' g e;rw [p g (by rw [this];simp) (by rw [this];simpa using d),this]
 ·rw [p b (by rw [h.wb];simp) (by rw [h.wb];simp),h.wb]
 ·obtain⟨k1,k2⟩:=h.kept c' hc' x hx;exact⟨(k1.same k2 u).who t,fun g e=>(k2 g e).imp (t g) (A g)⟩
 ·by_cases d:g=g6
  ·subst d;have l:=iB v g q;have j:=i6 v g q;exact⟨l,by simpa using j⟩
  ·rw [iO _ _ d]at e;have:=h.dom g e;exact⟨this.1,by simp;omega⟩
theorem Hs.grow4(h:Hs B w b who n f K M)(i:Cu4 B w who m c lv len R K)(hc:c=4)(P:len+1<=1000){o:Obj}{g6 c6:Nat}{v:Value}(Q:∃ g' cap',v= .slice (some ⟨g',0,none⟩) 1 cap'/\w.heap[g']?=some (.cells (elC m 3).toArray 65 (0,0))/\who g'= .kept)
  (u:w6.ownsRow B 66 1 (.slice (some ⟨g6,0,none⟩) (len+1) c6) (len+1) (R++[v]))
  (key:(lv.ownBlock=some g6/\(w.alloc o).grownBy w6 (some g6))\/(g6=w.heap.size+1/\(w.alloc o).grownBy w6 none)):
  Hs B w6 b (setW who g6 .cur) n f K M/\Cu4 B w6 (setW who g6 .cur) m c (.slice (some ⟨g6,0,none⟩) (len+1) c6) (len+1) (R++[v]) K:=by
 obtain⟨hsz,T,J,I⟩:=kB key (fun g e=>(h.dom g e).2) (r:= .cur) (by simp) i.wc;have j:∀ g,who g≠ .other->setW who g6 .cur g=who g:=fun g h1=>by
  by_cases e:g=g6
  ·subst e;rw [jD];exact(I (h.dom g h1).2).symm
  ·exact iO _ _ e
 have W:∀ g,setW who g6 .cur g= .cur->g=g6\/who g= .cur:=fun g e=>by
  by_cases a:g=g6
  ·exact Or.inl a
  ·rw [iO _ _ a]at e;exact Or.inr e
 have q:∀ g,who g≠ .other->who g≠ .cur->w6.heap[g]?=w.heap[g]?:=fun g h1 h2=>(T g h1 h2).1
 have hRl:R.length=len:=by have:=i.row.1;omega
 have Y:∀ g,lv.ownBlock=some g->∀ k,k<len->w6.cell? ⟨g,k,none⟩=w.cell? ⟨g,k,none⟩:=fun g e k z=>by
  by_cases a:g6=g
  ·subst a;rcases i.row.2 with ⟨p,_⟩ | ⟨g',cap,cur,hv,_⟩
   ·rw [p]at e;cases e
   ·have F:=i.row;rw [hv]at e;simp only [Value.ownBlock,Option.some.injEq]at e;subst e;rw [hv]at F;rw [u.cellAt k (by omega),F.cellAt k (by omega),List.getElem?_append_left (by omega)]
  ·exact World.cell?_of_block (J g (i.wc g e) a)
 have U:∀ g,who g= .cur->lv.ownBlock≠some g->w6.heap[g]?=w.heap[g]?:=fun g e a=>by
  by_cases p:g6=g
  ·subst p;rcases key with ⟨k1,_⟩ | ⟨k1,_⟩
   ·exact absurd k1 a
   ·have:=(h.dom g6 (by rw [e];simp)).2;omega
  ·exact J g e p
 have S:∀ c' x,c'<5->x∈K c'->KeptC c' w6 (setW who g6 .cur) x/\∀ g,x.1.ownBlock=some g->setW who g6 .cur g= .kept\/setW who g6 .cur g= .cur:=fun c' x hc' hx=>by
  obtain⟨k1,k2⟩:=h.kept c' hc' x hx;refine⟨?_,fun g e=>?_⟩
  ·refine KeptC.who (who:=who) ?_ (fun g e=>by rw [j g (by rw [e];simp)];exact e);rcases k1 with k1 | ⟨g,l,cap,e,hl,hin⟩
   ·exact Or.inl k1
   ·refine Or.inr ⟨g,l,cap,e,hl,?_⟩;have A:x.1.ownBlock=some g:=by rw [e];rfl
    have y:∀ g,who g= .kept->w6.heap[g]?=w.heap[g]?:=fun g e=>q g (by rw [e];simp) (by rw [e];simp)
    rcases k2 g A with hkp | hcr
    ·exact mN hin (y g hkp) y
    ·by_cases L:c'=c
     ·subst L;by_cases E:lv.ownBlock=some g
      ·obtain⟨G,O,H,C,D⟩:=i.ent x hx g A hcr;rw [C]at e;simp only [Value.slice.injEq,true_and]at e;have hl4:l<=len:=by have:=D E;omega
       subst hc;rw [mP]at hin ⊢;intro k z;obtain⟨g',cap',s,t,d⟩:=hin k z;exact⟨g',cap',by rw [Y g E k (by omega)];exact s,by rw [y g' d];exact t,d⟩
      ·exact mN hin (U g hcr E) y
     ·have:=i.oth c' hc' L x hx g A;rw [hcr]at this;cases this
  ·have:=k2 g e;rw [j g (by rcases this with e | e<;>rw [e]<;>simp)];exact this
 refine⟨⟨h.blk.same (q b (by rw [h.wb];simp) (by rw [h.wb];simp)),h.cnt,fun c' hc'=>iN (h.lst c' hc') (fun g e=>q g (by rw [h.wl c' hc' g e];simp) (by rw [h.wl c' hc' g e];simp)),fun c' hc'=>iN (h.mrk c' hc') (fun g e=>q g (by rw [h.wm c' hc' g e];simp) (by rw [h.wm c' hc' g e];simp)),
  fun c' hc' g e=>(by rw [j g (by rw [h.wl c' hc' g e];simp)];exact h.wl c' hc' g e),fun c' hc' g e=>(by rw [j g (by rw [h.wm c' hc' g e];simp)];exact h.wm c' hc' g e),(by rw [j b (by rw [h.wb];simp)];exact h.wb),fun c' hc' x hx=>S c' x hc' hx,fun g e=>?_⟩,
  ⟨u,fun k z=>?_,fun g e=>(by simp only [Value.ownBlock,Option.some.injEq]at e;subst e;exact jD _ _ _),fun x hx g e a=>?_,fun c' hc' hne x hx g e=>?_,P⟩⟩
 ·by_cases a:g=g6
  ·subst a;exact⟨iB u g rfl,i6 u g rfl⟩
  ·rw [iO _ _ a]at e;have:=h.dom g e;exact⟨this.1,by omega⟩
 ·by_cases e:k<len
  ·obtain⟨g',cap',s,t,d⟩:=i.el k e;exact⟨g',cap',by rw [List.getElem?_append_left (by omega)];exact s,by rw [q g' (by rw [d];simp) (by rw [d];simp)];exact t,by rw [j g' (by rw [d];simp)];exact d⟩
  ·obtain⟨g',cap',s,t,d⟩:=Q;have Z:k=R.length:=by omega
   exact⟨g',cap',by rw [Z,List.getElem?_append_right (by omega)];simp [s],by rw [q g' (by rw [d];simp) (by rw [d];simp)];exact t,by rw [j g' (by rw [d];simp)];exact d⟩
 ·have N:who g= .cur:=by
   rcases W g a with p | p
   ·have X:=(h.kept c (by omega) x hx).2 g e;have V:=(h.dom g (by rcases X with e | e<;>rw [e]<;>simp)).2;subst p;exact I V
   ·exact p
  obtain⟨G,O,H,C,D⟩:=i.ent x hx g e N;refine⟨G,O,H,C,fun e6=>?_⟩;simp only [Value.ownBlock,Option.some.injEq]at e6;subst e6;rcases key with ⟨k1,_⟩ | ⟨k1,_⟩
  ·have:=D k1;omega
  ·have:=(h.dom g6 (by rw [N];simp)).2;omega
 ·have:=i.oth c' hc' hne x hx g e;rw [j g (by rw [this];simp)];exact this
theorem Hs.begin4(h:Hs B w b who n f K M)(hc:c=4)(d:∀ c',c'<5->∀ x∈K c',∀ g,x.1.ownBlock=some g->who g= .kept)(o:w.ownsRow B 66 1 lv len R)(p:len<=1000)
  (q:∀ k,k<len->∃ g' cap',R[k]?=some (.slice (some ⟨g',0,none⟩) 1 cap')/\w.heap[g']?=some (.cells (elC m 3).toArray 65 (0,0))/\who g'= .kept)
  (j:∀ g,lv.ownBlock=some g->who g= .other):∃ who',Hs B w b who' n f K M/\Cu4 B w who' m c lv len R K/\(∀ g,lv.ownBlock≠some g->who' g=who g):=by
 rcases o.2 with ⟨e,_⟩ | ⟨g0,cap,cur,hv,hbb,hh,hrest⟩
 ·refine⟨who,h,⟨o,q,fun g a=>(by rw [e]at a;cases a),fun x hx g a e3=>?_,fun c' hc' hne x hx g a=>d c' hc' x hx g a,p⟩,fun _ _=>rfl⟩;rw [d c (by omega) x hx g a]at e3;cases e3
 ·have i:lv.ownBlock=some g0:=by rw [hv];rfl
  have r:∀ c',c'<5->∀ x∈K c',∀ g,x.1.ownBlock=some g->g≠g0:=fun c' hc' x hx g e a=>by
   have:=d c' hc' x hx g e;subst a;rw [j g i]at this;cases this
  refine⟨setW who g0 .cur,h.more (fun g e=>iO _ _ (fun a=>by subst a;exact e (j g i))) (fun g e=>?_),⟨o,fun k d=>(by obtain⟨g',cap',t,s,l⟩:=q k d;exact⟨g',cap',t,s,by rw [iO _ _ (fun a=>by rw [a,j g0 i]at l;cases l)];exact l⟩),fun g a=>(by rw [i]at a;simp only [Option.some.injEq]at a;subst a;exact jD _ _ _),fun x hx g a e3=>?_,fun c' hc' hne x hx g a=>?_,p⟩,fun g e=>iO _ _ (fun a=>e (by rw [a];exact i))⟩
  ·by_cases a:g=g0
   ·subst a;exact⟨hbb,(Array.getElem?_eq_some_iff.1 hh).1⟩
   ·rw [iO _ _ a]at e;exact h.dom g e
  ·rw [iO _ _ (r c (by omega) x hx g a),d c (by omega) x hx g a]at e3;cases e3
  ·rw [iO _ _ (r c' hc' x hx g a)];exact d c' hc' x hx g a
end
structure KpH(B:Nat)(w0 w:World)(b:Nat)(who0 who:Nat->Role)(n m:Int)(f0 f:Nat->Value)(K0 K:Nat->List (Value × Int))(lv:Value)(len:Nat)(R:List Value)(k:Nat)(ex:Nat->Prop):Prop where
 hs:Hs B w b who n f K (jp K)
 cu:Cu4 B w who m 4 lv len R K
 fr:Fr w0 w who0 who ex
 lent:∀ o,o<5->f o=f0 o
 len:(K 4).length=(K0 4).length+k
 oth:∀ c',c'≠4->K c'=K0 c'
structure KpB(B:Nat)(w0 w:World)(b:Nat)(who0 who:Nat->Role)(n m:Int)(f0 f:Nat->Value)(K0 K:Nat->List (Value × Int))(lv:Value)(len:Nat)(R:List Value)(k:Nat)(ex:Nat->Prop):Prop where
 hs:Hs B w b who n f (oD K 4 (K 4++[(lv,m)])) (jp K)
 cu:Cu4 B w who m 4 lv len R (oD K 4 (K 4++[(lv,m)]))
 fr:Fr w0 w who0 who ex
 lent:∀ o,o<5->f o=f0 o
 len:(K 4).length=(K0 4).length+k
 oth:∀ c',c'≠4->K c'=K0 c'
section
variable {B : Nat} {w0 w w6 : World} {b : Nat} {who0 who : Nat -> Role} {n m : Int} {f0 f : Nat -> Value} {K0 K : Nat -> List (Value × Int)} {lv : Value} {len k : Nat} {ex : Nat -> Prop} {R : List Value}
structure WrK(B:Nat)(w0 w:World)(b:Nat)(who0 who:Nat->Role)(n:Int)(f0 f:Nat->Value)(K:Nat->List (Value × Int))(lv:Value)(len:Nat)(R:List Value)(m:Int)(k:Nat):Prop where
 hs:HsK B w b who n f K
 row:w.ownsRow B 66 1 lv len R
 el:∀ j,j<k->∃ g' cap',R[j]?=some (.slice (some ⟨g',0,none⟩) 1 cap')/\w.heap[g']?=some (.cells (elC m 3).toArray 65 (0,0))/\who g'= .kept
 fr:Fr w0 w who0 who (fun g=>lv.ownBlock=some g)
 oth:∀ g,lv.ownBlock=some g->who g= .other
 lent:∀ o,o<5->f o=f0 o
theorem Hs.made{M:Nat->List Int}(h:Hs B w b who n f K M)(o:Obj):Hs B (w.alloc o) b (setW who w.heap.size .kept) n f K M:=by
 have c:∀ g',who g'≠ .other->setW who w.heap.size .kept g'=who g':=fun g' e=>iO _ _ (fun a=>by subst a;have:=(h.dom _ e).2;omega)
 refine(h.grown (ir (iu _ _))).more c (fun g' e=>?_);have hb:=h.dom b (by rw [h.wb];simp);by_cases a:g'=w.heap.size
 ·subst a;exact⟨by omega,by simp⟩
 ·rw [iO _ _ a]at e;have:=h.dom g' e;exact⟨this.1,by simp;omega⟩
theorem HsK.made(h:HsK B w b who n f K)(o:Obj):HsK B (w.alloc o) b (setW who w.heap.size .kept) n f K:=by
 refine⟨h.1.made o,fun c hc x hx g e=>?_⟩;have:=h.2 c hc x hx g e;rw [iO _ _ (fun e2=>by subst e2;have:=(h.1.dom _ (by rw [this];simp)).2;omega)];exact this
theorem Fr.made{ex:Nat->Prop}(h:Fr w0 w who0 who ex)(hd:w0.heap.size<=w.heap.size)(o:Obj):Fr w0 (w.alloc o) who0 (Go.Proofs.YtklenjmfalljgabGreatDoor.setW who w.heap.size .kept) ex:=
 Fr.setW (h.trans (Fr.grown (ir (iu _ _)))) (Or.inl hd)
theorem WrK.step(h:WrK B w0 w b who0 who n f0 f K lv len R m k){g p:Nat}(a:lv= .slice (some ⟨g,0,none⟩) len p)(hk:k<len):
  WrK B w0 ((w.alloc (.cells #[.int .i64 m,.int .i64 0,.int .i64 0,.int .i64 0] 65)).setCell ⟨g,k,none⟩ (.slice (some ⟨w.heap.size,0,none⟩) 1 1)) b who0 (setW who w.heap.size .kept) n f0 f K lv len (R.set k (.slice (some ⟨w.heap.size,0,none⟩) 1 1)) m (k+1):=by
 have i:who g= .other:=h.oth g (by rw [a];rfl);have hgl:g<w.heap.size:=i6 h.row g (by rw [a];rfl);have l:setW who w.heap.size .kept g= .other:=by rw [iO _ _ (by omega)];exact i
 have hRl:R.length=len:=by have:=h.row.1;omega
 refine⟨(h.hs.made _).setOther l,?_,fun j hj=>?_,(h.fr.made h.fr.size _).trans (Fr.set (Or.inr (by rw [a];rfl))),fun c e=>?_,h.lent⟩
 ·have:=jt (iK (o:= .cells #[.int .i64 m,.int .i64 0,.int .i64 0,.int .i64 0] 65) (by have:=h.row;rw [a]at this;exact this)) k (.slice (some ⟨w.heap.size,0,none⟩) 1 1);rw [a];exact this
 ·by_cases e:j<k
  ·obtain⟨c,v,u,s,d⟩:=h.el j e;have r:=(h.hs.1.dom c (by rw [d];simp)).2;have t:c≠g:=fun e2=>by rw [e2,i]at d;cases d
   refine⟨c,v,by rw [List.getElem?_set_ne (by omega)];exact u,?_,by rw [iO _ _ (by omega)];exact d⟩;rw [Below.heap_setCell _ _ _ _ (by simpa using t),Below.heap_alloc _ _ _ r];exact s
  ·have q:j=k:=by omega
   subst q;refine⟨w.heap.size,1,by rw [List.getElem?_set_self (by omega)],?_,jD _ _ _⟩;rw [Below.heap_setCell _ _ _ _ (by simp only;omega)];exact heap_alloc_new w _
 ·rw [a]at e;simp only [Value.ownBlock,Option.some.injEq]at e;subst e;exact l
theorem KpH.push(h:KpH B w0 w b who0 who n m f0 f K0 K lv len R k ex){o:Obj}{g6 c6:Nat}
  (d:w6.ownsRow B (tlC 4) 1 (.slice (some ⟨g6,0,none⟩) ((K 4).length+1) c6) ((K 4).length+1) ((K 4).map (·.1)++[lv]))
  (key:((f (6+2*4)).ownBlock=some g6/\(w.alloc o).grownBy w6 (some g6))\/(g6=w.heap.size+1/\(w.alloc o).grownBy w6 none)):
  HB w6 b f/\∃ who' f',KpB B w0 (w6.setCell ⟨b,6+2*4,none⟩ (.slice (some ⟨g6,0,none⟩) ((K 4).length+1) c6)) b who0 who' n m f0 f' K0 K lv len R k ex/\f' (7+2*4)=f (7+2*4):=by
 obtain⟨hsz,j,hsr,h6r⟩:=kB key (fun g e=>(h.hs.dom g e).2) (r:= .lst 4) (by simp) (h.hs.wl 4 (by omega));have c:HB w6 b f:=h.hs.blk.same (j b (by rw [h.hs.wb];simp) (by rw [h.hs.wb];simp)).1;obtain⟨a,i⟩:=h.hs.push4 h.cu rfl d key;refine⟨c,_,_,⟨a,i,?_,fun o ho=>by rw [iX _ _ (by omega)];exact h.lent o ho,h.len,h.oth⟩,iX _ _ (by omega)⟩;refine(h.fr.trans (Fr.key (r:= .lst 4) (fun g e=>by rw [h.hs.wl 4 (by omega) g e];simp) key)).trans (Fr.set (Or.inl ?_));have:=a.wb;rw [this];simp
theorem KpB.tell(h:KpB B w0 w b who0 who n m f0 f K0 K lv len R k ex){M1:Option Addr}{N M3:Nat}(j:f (7+2*4)= .slice M1 N M3)(p:(K 4).length=N){o:Obj}{g6 c6:Nat}
  (l:w6.ownsRow B 3 1 (.slice (some ⟨g6,0,none⟩) (N+1) c6) (N+1) (iM ((K 4).map (·.2))++[.int .i64 m]))
  (key:((Value.slice M1 N M3).ownBlock=some g6/\(w.alloc o).grownBy w6 (some g6))\/(g6=w.heap.size+1/\(w.alloc o).grownBy w6 none)):
  HB w6 b f/\∃ who' f',KpH B w0 (w6.setCell ⟨b,7+2*4,none⟩ (.slice (some ⟨g6,0,none⟩) (N+1) c6)) b who0 who' n m f0 f' K0 (oD K 4 (K 4++[(lv,m)])) lv len R (k+1) ex:=by
 rw [<-j]at key;obtain⟨hsz,q,hsr,h6r⟩:=kB key (fun g e=>(h.hs.dom g e).2) (r:= .mrk 4) (by simp) (h.hs.wm 4 (by omega));have i:HB w6 b f:=h.hs.blk.same (q b (by rw [h.hs.wb];simp) (by rw [h.hs.wb];simp)).1;have d:(jp K 4).length=N:=by simp [jp,p]
 obtain⟨a,c⟩:=h.hs.tell4 h.cu rfl (w6:=w6) (g6:=g6) (c6:=c6) (o:=o) (by rw [d];exact l) key;rw [d]at a c;refine⟨i,_,_,⟨by rw [ti];exact a,c,?_,fun o ho=>by rw [iX _ _ (by omega)];exact h.lent o ho,by rw [nC,List.length_append,h.len];simp;omega,fun c' hc'=>by rw [nH _ _ hc'];exact h.oth c' hc'⟩⟩;refine(h.fr.trans (Fr.key (r:= .mrk 4) (fun g e=>by rw [h.hs.wm 4 (by omega) g e];simp) key)).trans (Fr.set (Or.inl ?_));have:=a.wb;rw [this];simp
theorem KpH.grow(h:KpH B w0 w b who0 who n m f0 f K0 K lv len R k ex)(c:len+1<=1000){o:Obj}{g6 c6:Nat}
  {v:Value} (d:∃ g' cap',v= .slice (some ⟨g',0,none⟩) 1 cap'/\w.heap[g']?=some (.cells (elC m 3).toArray 65 (0,0))/\who g'= .kept)
  (i:w6.ownsRow B 66 1 (.slice (some ⟨g6,0,none⟩) (len+1) c6) (len+1) (R++[v]))
  (key:(lv.ownBlock=some g6/\(w.alloc o).grownBy w6 (some g6))\/(g6=w.heap.size+1/\(w.alloc o).grownBy w6 none)):
  ∃ who',KpH B w0 w6 b who0 who' n m f0 f K0 K (.slice (some ⟨g6,0,none⟩) (len+1) c6) (len+1) (R++[v]) k ex:=by
 obtain⟨a,j⟩:=h.hs.grow4 h.cu rfl c d i key;exact⟨_,a,j,h.fr.trans (Fr.key (fun g e=>by rw [h.cu.wc g e];simp) key),h.lent,h.len,h.oth⟩
theorem WrK.kp(h:WrK B w0 w b who0 who n f0 f K lv len R m len)(k:len<=1000):∃ who1,KpH B w0 w b who0 who1 n m f0 f K K lv len R 0 (fun g=>lv.ownBlock=some g):=by
 obtain⟨i,e,j,d⟩:=h.hs.1.begin4 (c:=4) rfl h.hs.2 h.row k h.el h.oth;refine⟨i,e,j,⟨h.fr.os,h.fr.tape,h.fr.output,h.fr.size,fun g q1 q2 q3=>?_⟩,h.lent,rfl,fun _ _=>rfl⟩;obtain⟨a,b⟩:=h.fr.oth g q1 q2 q3;exact⟨a,by rw [d g q3];exact b⟩
theorem KpH.made(h:KpH B w0 w b who0 who n m f0 f K0 K lv len R k ex)(o:Obj):KpH B w0 (w.alloc o) b who0 (setW who w.heap.size .kept) n m f0 f K0 K lv len R k ex:=by
 have c:∀ a,who a≠ .other->setW who w.heap.size .kept a=who a:=fun a e=>iO _ _ (fun e2=>by subst e2;have:=(h.hs.dom _ e).2;omega)
 refine⟨h.hs.made o,⟨iK h.cu.row,fun j hj=>?_,fun g e=>?_,fun x hx g e e2=>?_,fun c' hc' hcn x hx g e=>?_,h.cu.ln⟩,h.fr.made h.fr.size o,h.lent,h.len,h.oth⟩
 ·obtain⟨a,l,p,q,d⟩:=h.cu.el j hj;exact⟨a,l,p,by rw [Below.heap_alloc _ _ _ (h.hs.dom a (by rw [d];simp)).2];exact q,by rw [c a (by rw [d];simp)];exact d⟩
 ·have:=h.cu.wc g e;rw [c g (by rw [this];simp)];exact this
 ·refine h.cu.ent x hx g e ?_;by_cases i:g=w.heap.size
  ·subst i;rw [jD]at e2;cases e2
  ·rw [iO _ _ i]at e2;exact e2
 ·have:=h.cu.oth c' hc' hcn x hx g e;rw [c g (by rw [this];simp)];exact this
theorem KpH.done(h:KpH B w0 w b who0 who n m f0 f K0 K lv len R 4 ex):∃ who' f' K',HsK B w b who' n f' K'/\oB 4 w0 w who0 who' f0 f' K0 K' ex:=
 ⟨mH who,f,K,⟨h.hs.settled.1,h.hs.settled.2⟩,⟨h.fr.settled,h.lent,h.len,h.oth⟩⟩
end
end
section
open Go.RowKit
attribute [local go_sem] Go.World.cell?_alloc_some
theorem Ep:((Tryz.prog.info? 66).map fun i=>(i.zero,i.size,i.bytes))=some (some (.slice none 0 0),1,24):=by kernel_rfl
theorem EC:((Tryz.prog.info? 35).map fun i=>(i.zero,i.size,i.bytes))=some (some (.slice none 0 0),1,24):=by kernel_rfl
theorem FF{B:Nat}{w:World}{b n3:Nat}{who:Nat->Role}{n:Int}{f:Nat->Value}{K:Nat->List (Value × Int)}{x1:Option Addr}{x3 len:Nat}{xs:List Value}(h3:w.cell? ⟨n3,0,none⟩=some (.slice x1 len x3))(r:HsK B w b who n f K)(hl:w.ownsRow B 66 1 (.slice x1 len x3) len xs)(D:∀ g,(Value.slice x1 len x3).ownBlock=some g->who g= .other)
  (da:0<=n) (hn1:n<=10000000000000) (hK:(K 4).length<=5000000000000) (ha:len<=900)
  {Q:Exit->Act->World->Prop} {c1 c2 c4 c5 c6 z c8 c9 bM e2 ed bp bt dl aG dm dz bw cJ bf cZ cG dc cA cV fm a6 dH aO eY cm bN em ex bT bU ei ev cX bv dj d5 e5 dC ca e7 bX bd aQ dW dK dQ cR ey aH aM bQ ee dN dI ce dt cP b5 dr bP dd eZ cq cb e4 ew bh dv a3 d2 fk b1 bF bq a7 d9 cy bA cW eF cn eT d8 cj bk cL c3 dh bR ea db aY bW cf eQ co dA aX eu aN aU a2 bg aV fa:Value}
  (HQ:Hid (∀ {z0 z1 X z3 z4 z5 z6 z7 z8 z9 aL ds cE dF du bD d6 dp eb e1 bB cz fe et ff d0 cI eJ bx bS a4 b2 bi es bH en a8 cQ dP ec b6 eL cg aT eK bK bI dV bn cF eR dS aR eG bY cw dk dB dY bZ fi b8 d4 fl dL dO eW cD eB eI d1 dT b0 d3 aZ cT dG eV e6 dD bc a9 eg cK fd dw ez a5 dn b3 be aS ci eh eS eC eP fh aW dx bC cl bm dy ch cB eo dZ cN ba dE bE bb:Value} (w':World),(∃ who' f' K',HsK B w' b who' (n+1) f' K'/\oB 4 w w' who who' f f' K K' (fun g=>(Value.slice x1 len x3).ownBlock=some g))->Q .normal ⟨#[z0,z1,X,z3,z4,z5,z6,z7,z8,z9,aL,ds,cE,dF,du,bD,d6,dp,eb,e1,bB,cz,fe,et,ff,d0,cI,eJ,bx,bS,a4,b2,bi,es,bH,en,a8,cQ,dP,ec,b6,eL,cg,aT,eK,bK,bI,dV,bn,cF,eR,dS,aR,eG,bY,cw,dk,dB,dY,bZ,fi,b8,d4,fl,dL,dO,eW,cD,eB,eI,d1,dT,b0,d3,aZ,cT,dG,eV,e6,dD,bc,a9,eg,cK,fd,dw,ez,a5,dn,b3,be,aS,ci,eh,eS,eC,eP,fh,aW,dx,bC,cl,bm,dy,ch,cB,eo,dZ,cN,ba,dE,bE,bb],[]⟩ w')):
  Code.wp Tryz.prog (oO Tryz.f44 16) Q ⟨#[.pointer (some ⟨b,0,none⟩),c1,c2,.pointer (some ⟨n3,0,none⟩),c4,c5,c6,z,c8,c9,bM,e2,ed,bp,bt,dl,aG,dm,dz,bw,cJ,bf,cZ,cG,dc,cA,cV,fm,a6,dH,aO,eY,cm,bN,em,ex,bT,bU,ei,ev,cX,bv,dj,d5,e5,dC,ca,e7,bX,bd,aQ,dW,dK,dQ,cR,ey,aH,aM,bQ,ee,dN,dI,ce,dt,cP,b5,dr,bP,dd,eZ,cq,cb,e4,ew,bh,dv,a3,d2,fk,b1,bF,bq,a7,d9,cy,bA,cW,eF,cn,eT,d8,cj,bk,cL,c3,dh,bR,ea,db,aY,bW,cf,eQ,co,dA,aX,eu,aN,aU,a2,bg,aV,fa],[]⟩ w:=by
 conv=>arg 2;whnf
 go_upto_region 17 with fail
 clear h3;obtain⟨i0,df,d7,ck,di⟩:=info_parts Ep;obtain⟨i1,el,cU,de,dq⟩:=info_parts EC;obtain⟨i2,e8,dR,eH,bJ⟩:=info_parts kn;have S:=il (sR r.1 da (by omega));have H0:Hid (WrK B w (w.setCell ⟨b,5,none⟩ (.int .i64 (n+1))) b who who (n+1) f (lw f 5 (.int .i64 (n+1))) K (.slice x1 len x3) len xs (-77000000 - (n+1)) 0):=by
  refine⟨⟨r.1.setCnt _,r.2⟩,?_,fun j hj=>by omega,Fr.set (Or.inl (by rw [r.1.wb];simp)),D,fun o D=>iX _ _ (by omega)⟩;have eX:(Value.slice x1 len x3).ownBlock≠some b:=fun e=>by have:=D b e;rw [r.1.wb]at this;cases this
  exact ownsRow_setCell_other (a:=⟨b,5,none⟩) hl eX (.int .i64 (n+1))
 have ax:pt b= .pointer (some ⟨b,0,none⟩):=rfl;rw [ax]at S;clear r hl D ax;generalize hm: -77000000 - (n+1)=m at*;have HMM:=il hm;clear hm;go_wp2_with (go_at_call 55;refine S.out.mono ?_;rintro e w1 ⟨rfl,rfl⟩)
 go_loopw [11] (fun i w'=>∃ (k:Nat) (who':Nat->Role) (R:List Value),k<=len/\i= .int .i64 k/\Hid (WrK B w w' b who who' (n+1) f (lw f 5 (.int .i64 (n+1))) K (.slice x1 len x3) len R m k)) (fun i _=>len - (intOf i).toNat)
 case atStart=>exact⟨0,who,xs,Nat.zero_le _,rfl,H0⟩
 case round=>
  clear H0 S;obtain⟨k,who',R,T,rfl,p⟩:=hrel;obtain⟨q,an⟩:∃ q,q=wr:=⟨_,rfl⟩;rw [<-an]at p ⊢;clear an;by_cases bz:k<len
  ·obtain⟨g,cp,H,_,_⟩:=p.out.row.form (by omega);have G:=p.out.row;rw [H]at G;have br:g<q.heap.size:=i6 G g rfl;have ab:=p.out.step H bz;rw [World.setCell_alloc_past _ _ _ _ br]at ab;have fj:=il ab;clear ab;simp only [Value.slice.injEq,true_and]at H;obtain⟨rfl,rfl⟩:=H;have U:=iK (o:= .cells #[.int .i64 m,.int .i64 0,.int .i64 0,.int .i64 0] 65) G;obtain⟨u0,y0⟩:∃ u,(q.alloc (.cells #[.int .i64 m,.int .i64 0,.int .i64 0,.int .i64 0] 65)).cell? ⟨g,k,none⟩=some u:=lO U (by omega);have z0:(q.alloc (.cells #[.int .i64 m,.int .i64 0,.int .i64 0,.int .i64 0] 65)).frozen? ⟨g,k,none⟩=false:=lL U;have q0:(0:Int)<=(k:Int):=by omega
   have q1:(k:Int)<len:=by omega
   clear G U;go_wp2_with fail
   go_roundw
   case rel=>exact⟨k+1,_,_,by omega,by go_num,fj⟩
   case measure=>simp [intOf];omega
  ·have ek:k=len:=by omega
   have q1:(len:Int)<=(k:Int):=by omega
   have HS:Hid (∃ W,KpH B w q b who W (n+1) m f (lw f 5 (.int .i64 (n+1))) K K (.slice x1 len x3) len R 0 (fun g=>(Value.slice x1 len x3).ownBlock=some g)):=by
    have hi:=p.out;rw [ek]at hi;exact hi.kp (by omega)
   clear p ek;go_wp2_with fail
   go_loopw [9,12] (fun lv' i w'=>∃ (k:Nat) (who':Nat->Role) (f':Nat->Value) (K':Nat->List (Value × Int)) (R:List Value),k<=4/\i= .int .i64 k/\Hid (KpH B w w' b who who' (n+1) m f f' K K' lv' (len+k) R k (fun g=>(Value.slice x1 len x3).ownBlock=some g))) (fun _ i _=>4 - (intOf i).toNat)
   case atStart=>
    obtain⟨W,h1⟩:=HS.out;exact⟨0,W,_,K,R,by omega,rfl,il h1⟩
   case round=>
    clear HS;obtain⟨j,who',f',K',R,hj,rfl,d⟩:=hrel;obtain⟨c,ao⟩:∃ c,c=wr:=⟨_,rfl⟩;rw [<-ao]at d ⊢;clear ao;have x:c.ownsRow B 35 1 (f' 14) (K' 4).length ((K' 4).map (·.1)):=d.out.hs.lst 4 (by omega);have rM:c.ownsRow B 3 1 (f' 15) (K' 4).length (iM ((K' 4).map (·.2))):=by have:=d.out.hs.mrk 4 (by omega);simpa [jp]using this
    have E:c.ownsRow B 66 1 u9 (len+j) R:=d.out.cu.row;have er:Hid ((K' 4).length=(K 4).length+j):=d.out.len;have c6:c.cell? ⟨b,14,none⟩=some (f' 14):=d.out.hs.blk.cell (by omega);have hbase:B<=c.heap.size:=by have:=d.out.hs.blk.lt;have:=(d.out.hs.dom b (by rw [d.out.hs.wb];simp)).1;omega
    obtain⟨l,l2,s,rfl⟩:=iy E;have dJ:=iC E;subst dJ;obtain⟨J,o2,V,P⟩:=iy x;rw [P]at x c6;have cC:=iC x;subst cC;have ct:(K' 4).length<=5000000000003\/¬j<4:=by have:=er.out;omega
    have a0:=il E;have aB:=il x;have O:=il P;have cY:=il rM;clear E x rM P;by_cases hj4:j<4
    ·have ct:(K' 4).length<=5000000000003:=by omega
     have X:(j:Int)<4:=by omega
     have ak:(K' 4).length+1<=maxLen:=by unfold maxLen;omega
     have dU:len+j+1<=maxLen:=by unfold maxLen;omega
     have ad:Hid (∀ {o:Obj} {g6 c6:Nat} {w6:World},w6.ownsRow B 35 1 (.slice (some ⟨g6,0,none⟩) ((K' 4).length+1) c6) ((K' 4).length+1) ((K' 4).map (·.1)++[.slice l (len+j) s])->
       (((Value.slice J (K' 4).length V).ownBlock=some g6/\(c.alloc o).grownBy w6 (some g6))\/(g6=c.heap.size+1/\(c.alloc o).grownBy w6 none))->
       HB w6 b f'/\∃ who'' f'',KpB B w (w6.setCell ⟨b,14,none⟩ (.slice (some ⟨g6,0,none⟩) ((K' 4).length+1) c6)) b who who'' (n+1) m f f'' K K' (.slice l (len+j) s) (len+j) R j (fun g=>(Value.slice x1 len x3).ownBlock=some g)/\f'' 15=f' 15):=by
      intro o g6 c6 w6 eq key;rw [<-O.out]at key;exact d.out.push eq key
     generalize ay:(K' 4).length=N at*;generalize b4:(K' 4).map (·.1)=L1 at*;have ac:=il ay;clear ay b4;go_upto_region 26 with (at_builtin;go_must (refine iH rfl _ _ _ rfl B 35 i1 _ 1 24 Tryz.underlying41 el cU de dq rfl (by omega) (.slice J N V) N L1 rfl (iK aB.out) ⟨c.heap.size,0,none⟩ 1 1 [.slice l (len+j) s] rfl rfl (World.news_of_block (cs:= #[.slice l (len+j) s]) (t:=35) (fr:=(0,0)) (heap_alloc_new c _)) (by simp [Value.oneCell']) (by omega) ak (by omega) (by simp;omega) (c.heap.size+1) (by simp) ?_);intro g8 b7 w8 Z af cS;have aa:=(ad.out Z af).1;have I:w8.cell? ⟨b,14,none⟩=some (.slice J N V):=(by rw [aa.cell (by omega),O.out]);have L:=aa.frozen 14)
     obtain⟨_,who9,f9,h,e9⟩:=ad.out Z af;generalize w8.setCell ⟨b,14,none⟩ (.slice (some ⟨g8,0,none⟩) (N+1) b7)=w9 at*;have ae:=il h;have y:w9.ownsRow B 3 1 (f9 15) N (iM ((K' 4).map (·.2))):=by
      have:=h.hs.mrk 4 (by omega);rw [<-ac.out];simpa [jp]using this
     have z:w9.cell? ⟨b,15,none⟩=some (f9 15):=h.hs.blk.cell (by omega);obtain⟨A,m2,C,Y⟩:=iy y;rw [Y]at y z;have aJ:=(iC y).symm;subst aJ;have hbase9:B<=w9.heap.size:=by have:=h.hs.blk.lt;have:=(h.hs.dom b (by rw [h.hs.wb];simp)).1;omega
     have aw:=il y;have F:=il Y;clear Z af aa I L cS c6 h e9 ad y Y O aB cY;go_upto_region 27 with (at_builtin;go_must (refine iH rfl _ _ _ rfl B 3 i2 _ 1 8 Tryz.underlying39 e8 dR eH bJ rfl (by omega) (.slice A N C) N (iM ((K' 4).map (·.2))) rfl (iK aw.out) ⟨w9.heap.size,0,none⟩ 1 1 [.int .i64 m] rfl rfl (World.news_of_block (cs:= #[.int .i64 m]) (t:=3) (fr:=(0,0)) (heap_alloc_new w9 _)) (by simp [Value.oneCell']) (by omega) ak (by omega) (by simp;omega) (w9.heap.size+1) (by simp) ?_);intro aI cO aC ah ag b9;have M:=(ae.out.tell (M1:=A) (M3:=C) F.out ac.out ah ag).1;have I:aC.cell? ⟨b,15,none⟩=some (.slice A N C):=(by rw [M.cell (by omega),F.out]);have L:=M.frozen 15)
     obtain⟨_,fc,f11,v⟩:=ae.out.tell (M1:=A) (M3:=C) F.out ac.out ah ag;generalize aC.setCell ⟨b,15,none⟩ (.slice (some ⟨aI,0,none⟩) (N+1) cO)=w11 at*;have ap:=il (v.made (.cells #[.int .i64 m,.int .i64 0,.int .i64 0,.int .i64 0] 65));have dX:Hid ((w11.alloc (.cells #[.int .i64 m,.int .i64 0,.int .i64 0,.int .i64 0] 65)).ownsRow B 66 1 (.slice l (len+j) s) (len+j) R):=ap.out.cu.row;have eD:Hid (∃ g' cap',Value.slice (some ⟨w11.heap.size,0,none⟩) 1 1= .slice (some ⟨g',0,none⟩) 1 cap'/\(w11.alloc (.cells #[.int .i64 m,.int .i64 0,.int .i64 0,.int .i64 0] 65)).heap[g']?=some (.cells (elC m 3).toArray 65 (0,0))/\setW fc w11.heap.size .kept g'= .kept):=⟨w11.heap.size,1,rfl,heap_alloc_new w11 _,jD _ _ _⟩;have hbase11:B<=w11.heap.size:=by have:=v.hs.blk.lt;have:=(v.hs.dom b (by rw [v.hs.wb];simp)).1;omega
     have fb:((w11.alloc (.cells #[.int .i64 m,.int .i64 0,.int .i64 0,.int .i64 0] 65)).alloc (.cells #[.slice (some ⟨w11.heap.size,0,none⟩) 1 1] 66)).heap[w11.heap.size+1]?=some (.cells #[.slice (some ⟨w11.heap.size,0,none⟩) 1 1] 66 (0,0)):=by
      have:=heap_alloc_new (w11.alloc (.cells #[.int .i64 m,.int .i64 0,.int .i64 0,.int .i64 0] 65)) (.cells #[.slice (some ⟨w11.heap.size,0,none⟩) 1 1] 66);simpa using this
     clear ah ag M I L b9 z v ae aw F a0;go_wp2_with (at_builtin;go_must (refine iH rfl _ _ _ rfl B 66 i0 _ 1 24 Tryz.underlying35 df d7 ck di rfl (by omega) (.slice l (len+j) s) (len+j) R rfl (iK dX.out) ⟨w11.heap.size+1,0,none⟩ 1 1 [.slice (some ⟨w11.heap.size,0,none⟩) 1 1] rfl rfl (World.news_of_block (cs:= #[.slice (some ⟨w11.heap.size,0,none⟩) 1 1]) (t:=66) (fr:=(0,0)) fb) (by simp [Value.oneCell']) (by omega) dU (by omega) (by simp;omega) ((w11.alloc (.cells #[.int .i64 m,.int .i64 0,.int .i64 0,.int .i64 0] 65)).heap.size+1) (by simp) ?_);intro g12 cap12 w12 aA al eU;have cd:=il (ap.out.grow (by omega) eD.out aA al);clear aA al eU)
     go_roundw
     case rel=>
      obtain⟨cc,eN⟩:=cd.out;exact⟨j+1,cc,_,_,_,by omega,by go_num,il eN⟩
     case measure=>simp [intOf];omega
    ·have X:(4:Int)<=(j:Int):=by omega
     have HE:Hid (∃ who' f' K',HsK B c b who' (n+1) f' K'/\oB 4 w c who who' f f' K K' (fun g=>(Value.slice x1 len x3).ownBlock=some g)):=by
      have ej:j=4:=by omega
      have T:=d.out;rw [ej]at T;exact T.done
     go_wp2_with fail
     exact HQ.out c HE.out
structure ThrD(B:Nat)(w:World)(tv:Value)(T:List (Value × Nat × List Value)):Prop where
 row:w.ownsRow B 66 1 tv T.length (T.map (·.1))
 el:∀ x∈T,w.ownsRow B 65 4 x.1 x.2.1 x.2.2/\x.2.1<=900
 dis:∀ i j (hi:i<T.length) (hj:j<T.length),i<j->∀ g,T[i].1.ownBlock=some g->T[j].1.ownBlock≠some g
theorem uB{w:World}{B d:Nat}{v b:Value}{m q:Nat}{xs f:List Value}(h:w.ownsRow B 66 1 v m xs)(c:w.ownsRow d 65 4 b q f){g:Nat}(e:v.ownBlock=some g)(a:b.ownBlock=some g):False:=by
 rcases h.2 with ⟨rfl,_⟩ | ⟨g1,cap1,cur1,rfl,_,hh,_⟩
 ·cases e
 ·rcases c.2 with ⟨rfl,_⟩ | ⟨g2,cap2,cur2,rfl,_,hh',_⟩
  ·cases a
  ·simp only [Value.ownBlock,Option.some.injEq]at e a;subst e a;rw [hh]at hh';simp only [Option.some.injEq,Obj.cells.injEq]at hh';exact absurd hh'.2.1 (by decide)
structure KpQ(B:Nat)(w0 w:World)(b:Nat)(who0 who:Nat->Role)(n:Int)(f0 f:Nat->Value)(K0 K:Nat->List (Value × Int))(T:List (Value × Nat × List Value))(t:Nat):Prop where
 hs:HsK B w b who (n+t) f K
 fr:Fr w0 w who0 who (fun g=>∃ x∈T.take t,x.1.ownBlock=some g)
 lent:∀ o,o<5->f o=f0 o
 len:(K 3).length=(K0 3).length+4*t
 oth:∀ c,c≠3->K c=K0 c
theorem tH(B:Nat)(w:World)(b:Nat)(who:Nat->Role)(n:Int)(f:Nat->Value)(K:Nat->List (Value × Int))(tv:Value)(T:List (Value × Nat × List Value))(Y:HsK B w b who n f K)(E:ThrD B w tv T)
  (U:∀ g,tv.ownBlock=some g->who g= .other) (ae:∀ x∈T,∀ g,x.1.ownBlock=some g->who g= .other) (hn0:0<=n) (hn1:n<=9000000000000) (hK3:(K 3).length<=4900000000000) (hK4:(K 4).length<=4900000000000) (hl:T.length<=100):
  Calls Tryz.prog 44 #[pt b,.agg #[tv]] w fun e w'=>(∃ v,e= .returned v)/\∃ who' f' K',HsK B w' b who' (n+T.length+1) f' K'/\Fr w w' who who' (fun g=>tv.ownBlock=some g\/∃ x∈T,x.1.ownBlock=some g)/\(∀ o,o<5->f' o=f o)/\(K' 3).length=(K 3).length+4*T.length/\(K' 4).length=(K 4).length+4/\∀ c,c≠3->c≠4->K' c=K c:=by
 obtain⟨q,t2,s,rfl⟩:=iy E.row;have aE:=iC E.row;subst aE;have X:=il Y;have y:=il E;have Z:=il U;have ac:=il ae;have ar:pt b= .pointer (some ⟨b,0,none⟩):=rfl;have qT:(T.length:Int)<=100:=by omega
 rw [ar];clear Y E U ae;go_enter Tryz.func44,Tryz.ntmps44
 go_upto_region 1 with fail
 obtain⟨k,D⟩:∃ k,k=w.alloc (.cells #[.slice q T.length s] 37):=⟨_,rfl⟩;have Q:Hid (k.heap[w.heap.size]?=some (.cells #[.slice q T.length s] 37 (0,0))):=by unfold Hid;rw [D];exact heap_alloc_new w _
 have F:Hid (w.grownBy k none):=by unfold Hid;rw [D];exact ir (iu _ _)
 rw [<-D];clear D;have af:Hid (who w.heap.size= .other):=by
  unfold Hid;by_cases e:who w.heap.size= .other
  ·exact e
  ·exact absurd (X.out.1.dom _ e).2 (by omega)
 have j:Hid (ThrD B k (.slice q T.length s) T):=⟨iE y.out.row F.out (fun _ e=>by cases e),fun x d=>⟨iE (y.out.el x d).1 F.out (fun _ e=>by cases e),(y.out.el x d).2⟩,y.out.dis⟩;have R:Hid (KpQ B k k b who who n f f K K T 0):=⟨by simpa using X.out.grown F.out,Fr.refl _ _ _,fun _ _=>rfl,by simp,fun _ _=>rfl⟩;have a9:Hid (∀ (w':World) (who':Nat->Role) (f':Nat->Value) (K':Nat->List (Value × Int)) (t:Nat),t<=T.length->KpQ B k w' b who who' n f f' K K' T t->w'.cell? ⟨w.heap.size,0,none⟩=some (.slice q T.length s)/\(w'.ownsRow B 66 1 (.slice q T.length s) T.length (T.map (·.1))/\∀ g,(Value.slice q T.length s).ownBlock=some g->who' g= .other)/\∀ (N:t<T.length),w'.ownsRow B 65 4 T[t].1 T[t].2.1 T[t].2.2/\∀ g,T[t].1.ownBlock=some g->who' g= .other):=by
  intro w' who' f' K' t N m;have r:w.heap.size<k.heap.size:=(Array.getElem?_eq_some_iff.1 Q.out).1;have P:∀ x∈T.take t,x∈T:=fun x d=>List.mem_of_mem_take d
  have a3:=m.fr.oth w.heap.size r af.out (fun⟨x,d,e⟩=>by
   have:=i6 (y.out.el x (P x d)).1 _ e;omega)
  refine⟨?_,⟨?_,?_⟩,fun htl=>⟨?_,?_⟩⟩
  ·rw [World.cell?_of_block a3.1];simp [World.cell?,Q.out]
  ·exact iN j.out.row (fun g e=>(m.fr.oth g (i6 j.out.row g e) (Z.out g e) (fun⟨x,d,p⟩=>uB j.out.row (j.out.el x (P x d)).1 e p)).1)
  ·exact fun g e=>(m.fr.oth g (i6 j.out.row g e) (Z.out g e) (fun⟨x,d,p⟩=>uB j.out.row (j.out.el x (P x d)).1 e p)).2
  ·have d:=j.out.el T[t] (List.getElem_mem htl);refine iN d.1 (fun g e=>(m.fr.oth g (i6 d.1 g e) (ac.out _ (List.getElem_mem htl) g e) (fun⟨x,hx',p⟩=>?_)).1);obtain⟨i,G,rfl⟩:=List.getElem_of_mem hx';simp only [List.length_take]at G;rw [List.getElem_take]at p;exact j.out.dis i t (by omega) htl (by omega) g p e
  ·intro g e;have d:=j.out.el T[t] (List.getElem_mem htl);refine(m.fr.oth g (i6 d.1 g e) (ac.out _ (List.getElem_mem htl) g e) (fun⟨x,hx',p⟩=>?_)).2;obtain⟨i,G,rfl⟩:=List.getElem_of_mem hx';simp only [List.length_take]at G;rw [List.getElem_take]at p;exact j.out.dis i t (by omega) htl (by omega) g p e
 go_wp2_with fail
 go_loopw [4] (fun tv' w'=>∃ t:Nat,t<=T.length/\tv'= .int .i64 t/\Hid (∃ who' f' K',KpQ B k w' b who who' n f f' K K' T t)) (fun tv' _=>T.length - (intOf tv').toNat)
 case atStart=>exact⟨0,Nat.zero_le _,rfl,⟨_,_,_,R.out⟩⟩
 case round=>
  clear R;obtain⟨t,N,rfl,W⟩:=hrel;obtain⟨who',f',K',m⟩:=W.out;clear W;obtain⟨C,ad⟩:∃ C,C=wr:=⟨_,rfl⟩;rw [<-ad]at m ⊢;clear ad;have h:=il m;obtain⟨c3,⟨O,aJ⟩,aT⟩:=a9.out C who' f' K' t N m;clear m;by_cases r:t<T.length
  ·have q1:(t:Int)<T.length:=by omega
   obtain⟨tg,rfl⟩:∃ g,q=some ⟨g,0,none⟩:=by
    rcases O.2 with ⟨_,e⟩ | ⟨g,cap,cur,hv,_⟩
    ·omega
    ·simp only [Value.slice.injEq]at hv;exact⟨g,hv.1⟩
   obtain⟨A,H⟩:=aT r;have ab:=(j.out.el T[t] (List.getElem_mem r)).2;have S:C.cell? ⟨tg,t,none⟩=some T[t].1:=by rw [O.cellAt _ (by omega)];simp [r]
   have V:Hid (T.take (t+1)=T.take t++[T[t]]):=List.take_succ_eq_append_getElem r;generalize T[t]=x at*;obtain⟨xv,xn,xs⟩:=x;simp only at A H ab S;obtain⟨x1,x2,x3,rfl⟩:=iy A;have aH:=iC A;subst aH;go_upto_if 17 with fail
   refine wp_cond_true rfl ?_;refine wp_skip ?_;refine ‹∀ a w,Code.wp Tryz.prog _ _ a w->_› _ _ ?_;have HXO:=il H;refine Ex c3 r (by omega) S h.out.hs A H (by omega) (by omega) (by have:=h.out.len;omega) ab ?_;intro z5 z6 z7 z8 aI a8 aD a7 bf aS bg aA bc aZ aB aN ak aV an aR aF aM am be aq aL aW a2 a1 aj a0 aK aG ax aw ba a4 av ai aX aP a5 ah al ay aQ bh aY aC bj ao ap a6 z u;have bi:Hid (∃ who' f' K',KpQ B k z b who who' n f f' K K' T (t+1)):=by
    obtain⟨L,M,J,I,l⟩:=u;refine⟨L,M,J,?_,?_,fun o ho'=>(l.lent o ho').trans (h.out.lent o ho'),?_,fun c hc=>(l.oth c hc).trans (h.out.oth c hc)⟩
    ·have e:n+((t+1:Nat):Int)=n+(t:Int)+1:=by omega
     rw [e];exact I
    ·exact(h.out.fr.mono (fun g ⟨x,d,e⟩=>⟨x,(by rw [V.out];exact List.mem_append.2 (Or.inl d)),e⟩)).trans (l.fr.mono (fun g e=>⟨(.slice x1 x2 x3,x2,xs),(by rw [V.out];exact List.mem_append.2 (Or.inr (List.mem_singleton.2 rfl))),e⟩))
    ·have e1:=l.len;have p:=h.out.len;omega
   clear u;go_wp2_with fail
   go_roundw
   case rel=>exact⟨t+1,by omega,by go_num,bi⟩
   case measure=>simp [intOf]<;>omega
  ·have q1:(T.length:Int)<=(t:Int):=by omega
   have et:t=T.length:=by omega
   subst et;go_upto_if 17 with fail
   refine wp_cond_false rfl ?_;refine wp_exit ?_;refine ‹∀ a w,Code.wp Tryz.prog _ _ a w->_› _ _ ?_;refine FF c3 h.out.hs O aJ (by omega) (by omega) (by have:=h.out.oth 4 (by omega);rw [this];omega) (by omega) ?_;intro z0 z1 z2 z3 z4 z5 z6 z7 z8 z9 z10 z11 z12 z13 z14 z15 z16 z17 aI a8 aD a7 bf aS bg aA bc aZ aB aN ak aV an aR aF aM am be aq aL aW a2 a1 aj a0 aK aG ax aw ba a4 av ai aX aP a5 ah al ay aQ bh aY aC bj ao ap a6 z67 z68 z69 z70 z71 z72 z73 z74 z75 z76 z77 z78 z79 z80 z81 z82 z83 z84 z85 z86 z87 z88 z89 z90 z91 z92 z93 z94 z95 z96 z97 z98 z99 z100 z101 z102 z103 z104 z105 z106 z107 z108 z109 z110 z111 z112 z u;have HF:Hid (∃ who' f' K',HsK B z b who' (n+T.length+1) f' K'/\Fr w z who who' (fun g=>(Value.slice q T.length s).ownBlock=some g\/∃ x∈T,x.1.ownBlock=some g)/\(∀ o,o<5->f' o=f o)/\(K' 3).length=(K 3).length+4*T.length/\(K' 4).length=(K 4).length+4/\∀ c,c≠3->c≠4->K' c=K c):=by
    obtain⟨L,M,J,I,l⟩:=u;refine⟨L,M,J,I,?_,fun o ho'=>(l.lent o ho').trans (h.out.lent o ho'),?_,?_,fun c hc3 hc4=>(l.oth c hc4).trans (h.out.oth c hc3)⟩
    ·refine(((Fr.grown F.out).trans (h.out.fr.mono (fun g ⟨x,d,e⟩=>?_))).trans (l.fr.mono (fun g e=>Or.inl e)));exact Or.inr ⟨x,List.mem_of_mem_take d,e⟩
    ·rw [l.oth 3 (by omega)];exact h.out.len
    ·rw [l.len,h.out.oth 4 (by omega)]
   clear u;go_end0
   exact⟨⟨_,rfl⟩,HF.out⟩
end
end Go.Proofs.YtklenjmfalljgabGreatDoor
