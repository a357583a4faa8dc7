/- The texts Hgs Hgr Hgu. -/
import Derived.Test.YtklenjmfalljgabGreatDoorM00
import Derived.Test.YtklenjmfalljgabGreatDoorM08
import Derived.Test.YtklenjmfalljgabGreatDoorM10
import Derived.Test.YtklenjmfalljgabGreatDoorM11
namespace Go.Proofs.YtklenjmfalljgabGreatDoor
set_option maxRecDepth 100000
set_option maxHeartbeats 8000000
section
open Go.RowKit
theorem pw{w w':World}(h:w.drew.grownBy w' none):w.grownBy w' none:=⟨h.os,h.tape,h.output,h.size,h.block⟩
def stpL(p:List (List Ins))(s:List Int):List (Int × Int):=if checkRunN p s=0 then (runS p s).steps else []
def rgsN(p:List (List Ins))(s:List Int):Nat:=if checkRunN p s=0 then p.length else 0
theorem nF{p:List (List Ins)}{s:List Int}(h:checkRunN p s=0):vProg p=true/\s.length<=500:=by
 unfold checkRunN at h;by_cases a:vProg p=true
 ·by_cases b:s.length<=500
  ·exact⟨a,b⟩
  ·simp [a,b]at h
 ·simp [a]at h
theorem A9(p:List (List Ins))(s:List Int):(stpL p s).length<=500:=by
 unfold stpL;by_cases h:checkRunN p s=0
 ·rw [if_pos h];obtain⟨m,h1,_,a,_⟩:=lf p s 0 St.zero [];have h5:=(nF h).2;unfold runS;simp at a;omega
 ·rw [if_neg h];simp
theorem AQ(p:List (List Ins))(s:List Int):rgsN p s<=4:=by
 unfold rgsN;by_cases h:checkRunN p s=0
 ·rw [if_pos h];exact(iW (nF h).1).2
 ·rw [if_neg h];omega
theorem ResV.rows{p:List (List Ins)}{s:List Int}{B:Nat}{w:World}{k t a l n o r c:Int}{x1 i:Option Addr}{m x3 q j:Nat}
  (h:ResV p s B w (.agg #[.int .i64 k,.int .i64 t,.int .i64 a,.slice x1 m x3,.int .i64 l,.int .i64 n,.int .i64 o,.int .i64 r,.slice i q j]) c):
  m=(stpL p s).length/\q=rgsN p s/\w.ownsRow B 76 2 (.slice x1 m x3) m (flatS (stpL p s))/\w.ownsRow B 28 4 (.slice i q j) q (regsF (rgsN p s) (runS p s).st):=by
 obtain⟨k',t',a',u0,u1,u2,u3,z1,z3,r1,r3,m',q',e,hc,h⟩:=h;simp only [Value.agg.injEq,Array.mk.injEq,List.cons.injEq,Value.int.injEq,Value.slice.injEq,true_and,and_true]at e;obtain⟨rfl,rfl,rfl,⟨rfl,rfl,rfl⟩,rfl,rfl,rfl,rfl,rfl,rfl,rfl⟩:=e;rcases h with ⟨h0,_,_,_,_,_,_,_,hm,hq,h1,h2⟩ | ⟨h0,_,_,_,_,_,_,_,hm,hq,e1,e3,f1,f3⟩
 ·have f:checkRunN p s=0:=by rw [<-hc,h0]
  have d:stpL p s=(runS p s).steps:=by unfold stpL;rw [if_pos f]
  have b:rgsN p s=p.length:=by unfold rgsN;rw [if_pos f]
  refine⟨by rw [d,hm],by rw [b,hq],?_,?_⟩
  ·rw [d];rw [<-hm]at h1;exact h1
  ·rw [b];rw [hq]at h2 ⊢;exact h2
 ·have f:checkRunN p s≠0:=by rw [<-hc];exact h0
  have d:stpL p s=[]:=by unfold stpL;rw [if_neg f]
  have b:rgsN p s=0:=by unfold rgsN;rw [if_neg f]
  subst hm hq e1 e3 f1 f3;exact⟨by rw [d];rfl,by rw [b],by rw [d];exact⟨rfl,Or.inl ⟨rfl,rfl⟩⟩,by rw [b];exact⟨rfl,Or.inl ⟨rfl,rfl⟩⟩⟩
theorem pX:∀ (l:List (Int × Int)) (j:Nat) (hj:j<l.length),(flatS l)[j*2]?=some (.int .i64 l[j].1)/\(flatS l)[j*2+1]?=some (.int .i64 l[j].2)
 | [],j,hj=>by simp at hj
 | x::l,0,hj=>by simp [flatS]
 | x::l,j+1,hj=>by
  have h:=pX l j (by simpa using hj);have e:flatS (x::l)=[.int .i64 x.1,.int .i64 x.2]++flatS l:=by simp [flatS]
  have e2:∀ q,(flatS (x::l))[(j+1)*2+q]?=(flatS l)[j*2+q]?:=fun q=>by
   rw [e,List.getElem?_append_right (by simp;omega)];congr 1
   simp;omega
  refine⟨?_,?_⟩
  ·have:=e2 0;simp only [Nat.add_zero]at this;rw [this];simpa using h.1
  ·rw [e2 1];simpa using h.2
theorem o8(s:St):∀ (n t:Nat),t<n->(regsF n s)[t*4]?=some (.int .i64 (s.regs t 0))/\(regsF n s)[t*4+1]?=some (.int .i64 (s.regs t 1))/\(regsF n s)[t*4+2]?=some (.int .i64 (s.regs t 2))/\(regsF n s)[t*4+3]?=some (.int .i64 (s.regs t 3))
 | 0,t,h=>by omega
 | n+1,t,h=>by
  have e:regsF (n+1) s=regsF n s++[.int .i64 (s.regs n 0),.int .i64 (s.regs n 1),.int .i64 (s.regs n 2),.int .i64 (s.regs n 3)]:=by
   unfold regsF;rw [List.range_succ,List.flatMap_append];simp
  have a:=jg n s;rw [e];by_cases i:t<n
  ·obtain⟨b,c,d,f⟩:=o8 s n t i;refine⟨?_,?_,?_,?_⟩
   ·rw [List.getElem?_append_left (by omega)];exact b
   ·rw [List.getElem?_append_left (by omega)];exact c
   ·rw [List.getElem?_append_left (by omega)];exact d
   ·rw [List.getElem?_append_left (by omega)];exact f
  ·have:t=n:=by omega
   subst this;refine⟨?_,?_,?_,?_⟩
   ·rw [List.getElem?_append_right (by omega),a,Nat.sub_self];rfl
   ·rw [List.getElem?_append_right (by omega),a,Nat.add_sub_cancel_left];rfl
   ·rw [List.getElem?_append_right (by omega),a,Nat.add_sub_cancel_left];rfl
   ·rw [List.getElem?_append_right (by omega),a,Nat.add_sub_cancel_left];rfl
theorem lV{w:World}{B:Nat}{e:TypeId}{z:Nat}{a:Option Addr}{m c n:Nat}{xs:List Value}(h:w.ownsRow B e z (.slice a m c) n xs)(hn:0<n):∃ g,a=some ⟨g,0,none⟩:=by
 rcases h.2 with ⟨_,e⟩ | ⟨g,cap,cur,hv,_⟩
 ·omega
 ·simp only [Value.slice.injEq]at hv;exact⟨g,hv.1⟩
def SamS(w:World)(x1 z1:Option Addr)(m:Nat):Prop:=∀ i,i<m->∃ g g' A D,x1=some ⟨g,0,none⟩/\z1=some ⟨g',0,none⟩/\w.cell? ⟨g,i*2,none⟩=some (.int .i64 A)/\w.cell? ⟨g,i*2+1,none⟩=some (.int .i64 D)/\w.cell? ⟨g',i*2,none⟩=some (.int .i64 A)/\w.cell? ⟨g',i*2+1,none⟩=some (.int .i64 D)
def SamR(w:World)(y1 r1:Option Addr)(q:Nat):Prop:=∀ i,i<q->∃ g g' A D E F,y1=some ⟨g,0,none⟩/\r1=some ⟨g',0,none⟩/\w.cell? ⟨g,i*4,none⟩=some (.int .i64 A)/\w.cell? ⟨g,i*4+1,none⟩=some (.int .i64 D)/\w.cell? ⟨g,i*4+2,none⟩=some (.int .i64 E)/\w.cell? ⟨g,i*4+3,none⟩=some (.int .i64 F)/\
 w.cell? ⟨g',i*4,none⟩=some (.int .i64 A)/\w.cell? ⟨g',i*4+1,none⟩=some (.int .i64 D)/\w.cell? ⟨g',i*4+2,none⟩=some (.int .i64 E)/\w.cell? ⟨g',i*4+3,none⟩=some (.int .i64 F)
theorem AW{w:World}{B e:Nat}{x1 z1:Option Addr}{m c f:Nat}{L:List (Int × Int)}(hm:m=L.length)(h:w.ownsRow B 76 2 (.slice x1 m c) m (flatS L))(a:w.ownsRow e 76 2 (.slice z1 m f) m (flatS L)):SamS w x1 z1 m:=by
 intro i hi;obtain⟨g,rfl⟩:=lV h (by omega);obtain⟨j,rfl⟩:=lV a (by omega);obtain⟨b,d⟩:=pX L i (by omega);exact⟨g,j,_,_,rfl,rfl,by rw [h.cellAt _ (by omega)];exact b,by rw [h.cellAt _ (by omega)];exact d,by rw [a.cellAt _ (by omega)];exact b,by rw [a.cellAt _ (by omega)];exact d⟩
theorem AV{w:World}{B m:Nat}{l k:Option Addr}{q c n:Nat}{b:St}(h:w.ownsRow B 28 4 (.slice l q c) q (regsF q b))(a:w.ownsRow m 28 4 (.slice k q n) q (regsF q b)):SamR w l k q:=by
 intro i p;obtain⟨g,rfl⟩:=lV h (by omega);obtain⟨o,rfl⟩:=lV a (by omega);obtain⟨d,e,f,j⟩:=o8 b q i p;exact⟨g,o,_,_,_,_,rfl,rfl,by rw [h.cellAt _ (by omega)];exact d,by rw [h.cellAt _ (by omega)];exact e,by rw [h.cellAt _ (by omega)];exact f,by rw [h.cellAt _ (by omega)];exact j,by rw [a.cellAt _ (by omega)];exact d,by rw [a.cellAt _ (by omega)];exact e,by rw [a.cellAt _ (by omega)];exact f,by rw [a.cellAt _ (by omega)];exact j⟩
theorem SamS.pres{w w':World}{x1 z1:Option Addr}{m:Nat}(h:SamS w x1 z1 m)(hp:Pres w w'):SamS w' x1 z1 m:=fun i hi=>by
 obtain⟨g,g',A,D,e1,e2,c1,c2,c3,c4⟩:=h i hi;exact⟨g,g',A,D,e1,e2,hp _ _ c1,hp _ _ c2,hp _ _ c3,hp _ _ c4⟩
theorem SamR.pres{w w':World}{x1 z1:Option Addr}{m:Nat}(h:SamR w x1 z1 m)(hp:Pres w w'):SamR w' x1 z1 m:=fun i hi=>by
 obtain⟨g,g',A,D,E,F,e1,e2,c1,c2,c3,c4,c5,c6,c7,c8⟩:=h i hi;exact⟨g,g',A,D,E,F,e1,e2,hp _ _ c1,hp _ _ c2,hp _ _ c3,hp _ _ c4,hp _ _ c5,hp _ _ c6,hp _ _ c7,hp _ _ c8⟩
theorem xf{w:World}{B c:Nat}{v b:Value}{m q:Nat}{xs f:List Value}(h:w.ownsRow B 76 2 v m xs)(d:w.ownsRow c 28 4 b q f){g:Nat}(e:v.ownBlock=some g)(a:b.ownBlock=some g):False:=by
 rcases h.2 with ⟨rfl,_⟩ | ⟨g1,cap1,cur1,rfl,_,hh,_⟩
 ·cases e
 ·rcases d.2 with ⟨rfl,_⟩ | ⟨g2,cap2,cur2,rfl,_,hh',_⟩
  ·cases a
  ·simp only [Value.ownBlock,Option.some.injEq]at e a;subst e a;rw [hh]at hh';simp only [Option.some.injEq,Obj.cells.injEq]at hh';exact absurd hh'.2.1 (by decide)
end
section
open Go.RowKit
attribute [local go_sem] Go.World.cell?_alloc_some nZ
theorem AP{B:Nat}{W w:World}{b s ab:Nat}{who:Nat->Role}{n:Int}{f:Nat->Value}{K:Nat->List (Value × Int)}{x1 d z1 r1:Option Addr}{m q x3 l z3 r3:Nat}{L G:List Value}
  (P:Hid (Hz B w b who n f K)) (HW:Hid (W.grownBy w none)) (ak:W.heap.size<=B) (HX:Hid (w.ownsRow B 76 2 (.slice x1 m x3) m L)) (HY:Hid (w.ownsRow B 28 4 (.slice d q l) q G))
  (aC:Hid (∀ g,(Value.slice x1 m x3).ownBlock=some g->who g= .other)) (aD:Hid (∀ g,(Value.slice d q l).ownBlock=some g->who g= .other)) (aJ:Hid (SamS w x1 z1 m)) (aI:Hid (SamR w d r1 q))
  (af:Hid (w.cell? ⟨s,3,none⟩=some (.slice x1 m x3))) (av:Hid (w.cell? ⟨s,8,none⟩=some (.slice d q l))) (ar:Hid (w.cell? ⟨ab,3,none⟩=some (.slice z1 m z3))) (au:Hid (w.cell? ⟨ab,8,none⟩=some (.slice r1 q r3)))
  (aA:Hid (who s= .other)) (aB:Hid ((Value.slice x1 m x3).ownBlock≠some s)) (hm:m<=500) (hq:q<=4) (dk:0<=n) (hn1:n<=9000000000000) (J:Hid (∀ c,c<5->(K c).length<=4900000000000))
  {Q:Exit->Act->World->Prop} {c1 c2 c3 c4 c5 c6 c7 c9 aS bd bA bC bD bE bF bG bI bJ bK bL bM bN bO bP bQ bR bT bU bV bW bX bY bZ b0 b1 b2 b4 b5 b6 b7 b8 b9 ca cb cc cd cf cg ch ci cj ck cl cm cn co cp cq cr cs ct cu cv cw cx cy cA cB cC cD cE cF cG cH cI cJ cK cL cM cN cO cP cQ cR cS cT cV cW cX cY cZ c8 da db dc dd aT aU aV aW aX aY aZ a0 a1 a2 a3 a4 a5 a6 a7 a8 a9 ba bb bc be bf bg bh bi bj bk bl bm bn bo bp bq br bt bu bv bw bx bz bB:Value}
  (HQ:Hid (∀ {z0 z1 z2 z3 z4 z5 z7 z8 z9 dq dB dM dX d8 ea eb ec ed ee eg eh ei ej ek el em en eo ep eq er es et eu ev ew ex ey ez eB eC eD eE eF eG eH eI eJ eK eM eN eO eP eQ eR eS eT eU eV eW eX eY eZ e0 e9 fa fb fc fd ff fg fh fi fj fk fl fm fn fo fq fs ft fu fv fw fx fy fz fA fC fD fE fF fG fH fI fJ fK fL dr ds dt du dv dw dx dy dz dA dC dD dE dF dG dH dI dJ dK dL dN dO dP dQ dR dS dT dU dV dW dY dZ d0 d1 d2 d3 d4 d5 d6 d7 d9:Value} (w':World),(∃ who' f' K',Hz B w' b who' (n+2) f' K'/\W.grownBy w' none/\(∀ c,c<5->(K' c).length<=(K c).length+4)/\Fr w w' who who' (fun g=>(Value.slice x1 m x3).ownBlock=some g\/(Value.slice d q l).ownBlock=some g))->Q .ret ⟨#[z0,z1,z2,z3,z4,z5,.bool true,z7,z8,z9,dq,dB,dM,dX,d8,ea,eb,ec,ed,ee,eg,eh,ei,ej,ek,el,em,en,eo,ep,eq,er,es,et,eu,ev,ew,ex,ey,ez,eB,eC,eD,eE,eF,eG,eH,eI,eJ,eK,eM,eN,eO,eP,eQ,eR,eS,eT,eU,eV,eW,eX,eY,eZ,e0,e9,fa,fb,fc,fd,ff,fg,fh,fi,fj,fk,fl,fm,fn,fo,fq,fs,ft,fu,fv,fw,fx,fy,fz,fA,fC,fD,fE,fF,fG,fH,fI,fJ,fK,fL,dr,ds,dt,du,dv,dw,dx,dy,dz,dA,dC,dD,dE,dF,dG,dH,dI,dJ,dK,dL,dN,dO,dP,dQ,dR,dS,dT,dU,dV,dW,dY,dZ,d0,d1,d2,d3,d4,d5,d6,d7,d9],[]⟩ w')):
  Code.wp Tryz.prog (tailOf Tryz.f6 6) Q ⟨#[.pointer (some ⟨b,0,none⟩),c1,c2,c3,c4,c5,c6,c7,.pointer (some ⟨s,0,none⟩),c9,aS,.pointer (some ⟨ab,0,none⟩),bd,.bool true,bA,bC,bD,bE,bF,bG,bI,bJ,bK,bL,bM,bN,bO,bP,bQ,bR,bT,bU,bV,bW,bX,bY,bZ,b0,b1,b2,b4,b5,b6,b7,b8,b9,ca,cb,cc,cd,cf,cg,ch,ci,cj,ck,cl,cm,cn,co,cp,cq,cr,cs,ct,cu,cv,cw,cx,cy,cA,cB,cC,cD,cE,cF,cG,cH,cI,cJ,cK,cL,cM,cN,cO,cP,cQ,cR,cS,cT,cV,cW,cX,cY,cZ,c8,da,db,dc,dd,aT,aU,aV,aW,aX,aY,aZ,a0,a1,a2,a3,a4,a5,a6,a7,a8,a9,ba,bb,bc,be,bf,bg,bh,bi,bj,bk,bl,bm,bn,bo,bp,bq,br,bt,bu,bv,bw,bx,bz,bB],[]⟩ w:=by
 conv=>arg 2;whnf
 have qm:(m:Int)<=500:=by omega
 have qq:(q:Int)<=4:=by omega
 go_wp2_with fail
 go_loopw [13,14] (fun ov iv w'=>∃ i:Nat,i<=m/\ov= .bool true/\iv= .int .i64 i/\Hid (Like w' w)) (fun _ iv _=>m - (intOf iv).toNat)
 case atStart=>exact⟨0,Nat.zero_le _,rfl,rfl,ij (iT _)⟩
 case round=>
  obtain⟨i,hi,rfl,rfl,p⟩:=hrel;obtain⟨w1,an⟩:∃ w1,w1=wr:=⟨_,rfl⟩;rw [<-an]at p ⊢;clear an;have a:Hid (w.grownBy w1 none):=iH p.out;have k3:=ip a.out _ _ af.out;by_cases dj:i<m
  ·have t0:(0:Int)<=(i:Int):=by omega
   have t1:(i:Int)<m:=by omega
   obtain⟨g,g',A,D,rfl,rfl,e1,T,e3,e4⟩:=aJ.out.pres (ip a.out) i dj;have k4:=ip a.out _ _ ar.out;go_wp2_with fail
   go_quiet (fail)
   go_wp2_with fail
   go_roundw
   case rel=>exact⟨i+1,by omega,by simp,by go_num,ij (jb p.out _)⟩
   case measure=>simp [intOf];omega
  ·have t1:(m:Int)<=(i:Int):=by omega
   go_wp2_with fail
   go_loopw [13,15] (fun ov iv w'=>∃ i:Nat,i<=q/\ov= .bool true/\iv= .int .i64 i/\Hid (Like w' w)) (fun _ iv _=>q - (intOf iv).toNat)
   case atStart=>exact⟨0,Nat.zero_le _,rfl,rfl,p⟩
   case round=>
    clear k3 a p;obtain⟨j,hj,rfl,rfl,p⟩:=hrel;obtain⟨o,ao⟩:∃ o,o=wr:=⟨_,rfl⟩;rw [<-ao]at p ⊢;clear ao;have a:Hid (w.grownBy o none):=iH p.out;have x:=ip a.out _ _ av.out;by_cases di:j<q
    ·have t2:(0:Int)<=(j:Int):=by omega
     have t3:(j:Int)<q:=by omega
     obtain⟨g,g',A,D,E,F,rfl,rfl,e1,T,e3,e4,e5,e6,e7,e8⟩:=aI.out.pres (ip a.out) j di;have k9:=ip a.out _ _ au.out;go_wp2_with fail
     go_quiet (fail)
     go_wp2_with fail
     go_roundw
     case rel=>exact⟨j+1,by omega,by simp,by go_num,ij (jb p.out _)⟩
     case measure=>simp [intOf];omega
    ·have t3:(q:Int)<=(j:Int):=by omega
     have k3:=ip a.out _ _ af.out;have Y:pt b= .pointer (some ⟨b,0,none⟩):=rfl;have O:=ij (sA B o b who n f K (.slice x1 m x3) m L (P.out.1.grown a.out) (iC HX.out a.out (fun _ e=>by cases e)) aC.out dk (by omega) (by have:=J.out 1 (by omega);omega) (by omega));rw [Y]at O;have v:Hid (o.ownsRow B 28 4 (.slice d q l) q G):=iC HY.out a.out (fun _ e=>by cases e);have ah:Hid (o.ownsRow B 76 2 (.slice x1 m x3) m L):=iC HX.out a.out (fun _ e=>by cases e);have aL:Hid (W.grownBy o none):=il HW.out a.out;have C:=ij x;go_wp2_with fail
     refine O.out.mono ?_;clear O k3 x;rintro e u ⟨⟨rv,rfl⟩,z,f3,R,V,r⟩;have am:s<o.heap.size:=World.block_lt_of_cell? o _ C.out;have aj:=r.fr.oth s am aA.out (fun e=>aB.out e);have x:u.cell? ⟨s,8,none⟩=some (.slice d q l):=by rw [World.cell?_of_block aj.1];exact C.out
     have Z:∀ g,(Value.slice d q l).ownBlock=some g->u.heap[g]?=o.heap[g]?/\z g= .other:=fun g e=>r.fr.oth g (iP v.out g e) (aD.out g e) (fun T=>xf ah.out v.out T e)
     have aQ:Hid (u.ownsRow B 28 4 (.slice d q l) q G):=iI v.out (fun g e=>(Z g e).1);have aE:Hid (∀ g,(Value.slice d q l).ownBlock=some g->z g= .other):=fun g e=>(Z g e).2
     have aO:Hid (∀ g,(Value.slice x1 m x3).ownBlock=some g->W.heap.size<=g):=fun g e=>by have:=iA ah.out g e;omega
     have aR:Hid (∀ g,(Value.slice d q l).ownBlock=some g->W.heap.size<=g):=fun g e=>by have:=iA v.out g e;omega
     have aM:Hid (W.grownBy u none):=r.fr.base aL.out ak (fun g e=>(P.out.1.1.dom g e).1) aO.out;have aG:Hid (Fr w u who z (fun g=>(Value.slice x1 m x3).ownBlock=some g\/(Value.slice d q l).ownBlock=some g)):=(Fr.grown a.out).trans (r.fr.mono fun _ e=>Or.inl e);have aw:Hid (∀ k,k<5->f3 k= .slice none 0 0):=fun k hk=>by rw [r.lent k hk];exact P.out.2 k hk
     have M:Hid (∀ c,c<5->(R c).length<=(K c).length+4/\(c≠1->(R c).length<=(K c).length)):=fun c hc=>by
      by_cases e:c=1
      ·subst e;have:=r.len;exact⟨by omega,fun h=>absurd rfl h⟩
      ·rw [r.oth c e];exact⟨by omega,fun _=>by omega⟩
     have N:=ij (tZ B u b z (n+1) f3 R (.slice d q l) q G V aQ.out aE.out (by omega) (by omega) (by have:=M.out 2 (by omega);have:=J.out 2 (by omega);omega) (by omega));rw [Y]at N;have ay:=ij V;clear V r Z aj am C;go_wp2_with fail
     refine N.out.mono ?_;clear N x;rintro e y ⟨⟨rv',rfl⟩,ad,U,S,X,t⟩;have aN:Hid (W.grownBy y none):=t.fr.base aM.out ak (fun g e=>(ay.out.1.dom g e).1) aR.out;have aH:Hid (Fr w y who ad (fun g=>(Value.slice x1 m x3).ownBlock=some g\/(Value.slice d q l).ownBlock=some g)):=aG.out.trans (t.fr.mono fun _ e=>Or.inr e);have ax:Hid (∀ k,k<5->U k= .slice none 0 0):=fun k hk=>by rw [t.lent k hk];exact aw.out k hk
     have ag:Hid (∀ c,c<5->(S c).length<=(K c).length+4):=fun c hc=>by
      by_cases e:c=2
      ·subst e;have:=t.len;have:=(M.out 2 (by omega)).2 (by omega);omega
      ·rw [t.oth c e];exact(M.out c hc).1
     have I:=ij (mK B y b ad (n+1+1) U S X (fun c hc=>by have:=ag.out c hc;have:=J.out c hc;omega));rw [Y]at I;have az:=ij X;clear X t;go_wp2_with fail
     refine I.out.mono ?_;clear I;rintro e w5 ⟨rfl,al⟩;have H:Hid (y.grownBy w5 none):=iH al;clear al;go_wp2_with fail
     exact HQ.out w5 ⟨ad,U,S,⟨by have:=az.out.grown H.out;rw [show n+1+1=n+2 by omega]at this;exact this,ax.out⟩,il aN.out H.out,ag.out,aH.out.stepG H.out⟩
theorem ut(W:World)(B:Nat)(w:World)(b:Nat)(who:Nat->Role)(n:Int)(f:Nat->Value)(K:Nat->List (Value × Int))(pv sv:Value)(p:List (List Ins))(s:List Int)
  (h:Hz B w b who n f K) (hW:W.grownBy w none) (V:W.heap.size<=B) (hS:ShpAt W) (hP:ProgAt W pv p) (hI:IntsAt W.heap.size W sv s) (hpl:p.length<=2932031007300) (bh:∀ c∈p,c.length<=4398046510976) (cU:s.length<=17592186043904) (cR:0<=n) (cS:n<=9000000000000) (hK:∀ c,c<5->(K c).length<=4900000000000):
  Calls Tryz.prog 6 #[pt b,pv,sv] w (HzF W B b (n+2) K w who):=by
 have HH:=ij h;have HW:=ij hW;have HS:=ij hS;have HP:=ij hP;have HI:=ij hI;have aX:=ij bh;have HK:=ij hK;obtain⟨R,S,rfl⟩:=hP.form;obtain⟨so,sc,rfl⟩:=hI.form;have aK:pt b= .pointer (some ⟨b,0,none⟩):=rfl;have ac:=ij (kz W B (w.alloc (.cells #[.slice R p.length S] 37)) b who n f K [] [] [] (.agg #[.slice R p.length S]) p (h.lx.grown (iq (ir _ _))) (iq hW) V hP (by omega) bh (by simp;omega) (by simp));clear h hW hS hP hI bh hK;rw [aK]at ac ⊢;go_enter Tryz.func6,Tryz.ntmps6
 go_wp2_with fail
 refine ac.out.mono ?_;clear ac;rintro e w1 ⟨g,LC1,bm,f1,rfl,aL,bf,aH,l⟩;have ch:who w.heap.size= .other:=by
  by_cases e:who w.heap.size= .other
  ·exact e
  ·exact absurd (HH.out.1.1.dom _ e).2 (by omega)
 obtain⟨X,Z⟩:=aH.oth w.heap.size (by simp) ch (fun e=>e);have bM:Hid (W.grownBy w1 none):=aH.base (iq HW.out) V (fun g e=>(HH.out.1.1.dom g e).1) (fun _ e=>e.elim);have ct:Hid (Fr w w1 who bm (fun g=>w.heap.size<=g)):=(Fr.grown (iq (ir _ _))).step0 aH;have c1:w1.cell? ⟨w.heap.size,0,none⟩=some (.slice R p.length S):=by
  simp only [World.cell?,X,heap_alloc_new];rfl
 have cc:LC1.length=p.length:=by rw [<-bf];simp
 simp only [List.nil_append]at aL;have ar:ProgAt w1 (.agg #[.slice (some ⟨g,0,none⟩) p.length (p.length+2)]) p:=ky (LC0:=[]) (by simpa using aL.le) l bf _;have br:=ij (uJ p _ w1 (HS.out.pres (ip bM.out)) ar);have bT:=ij aL;have bQ:=ij Z;have aD:=ij cc;have bo:=ij c1;clear aL bf aH l X ch Z cc ar c1;go_wp2_with fail
 refine br.out.mono ?_;clear br;rintro e w2 ⟨rfl,av⟩;have bN:Hid (W.grownBy w2 none):=il bM.out av;have cu:Hid (Fr w w2 who bm (fun g=>w.heap.size<=g)):=ct.out.stepG av;have a1:=ij (bT.out.grown av);have c2:=ip av _ _ bo.out;have ce:w.heap.size<w2.heap.size:=World.block_lt_of_cell? w2 _ c2;have ac:=ij (kz W B w2 b bm n f1 K [] LC1 [(g,p.length)] (.agg #[.slice R p.length S]) p a1.out bN.out V HP.out (by omega) aX.out (by rw [aD.out];omega) (by simp));have bp:=ij c2;obtain⟨cn,bd⟩:∃ cn,cn=checkN p:=⟨_,rfl⟩;rw [<-bd];have bt:=ij bd;clear av bT bo bd;rw [aK]at ac;go_wp2_with fail
 refine ac.out.mono ?_;clear ac c2;rintro e w3 ⟨g3,a4,cm,f3,rfl,az,bg,aI,o⟩;have a0:Hid (W.grownBy w3 none):=aI.base bN.out V (fun g e=>(a1.out.hs.1.dom g e).1) (fun _ e=>e.elim);have cv:Hid (Fr w w3 who cm (fun g=>w.heap.size<=g)):=cu.out.step0 aI;obtain⟨X,Z⟩:=aI.oth w.heap.size ce bQ.out (fun e=>e);have aR:Hid (w3.cell? ⟨w.heap.size,0,none⟩=some (.slice R p.length S)):=by
  unfold Hid;rw [World.cell?_of_block X];exact bp.out
 have cf:w.heap.size<w3.heap.size:=World.block_lt_of_cell? w3 _ aR.out;have cd:a4.length=p.length:=by rw [<-bg];simp
 simp only [List.singleton_append]at az;have aZ:=ij (jP B w3 b cm n f3 K [] (LC1++a4) [(g,p.length),(g3,p.length)] 0 (.slice so s.length sc) s az ((HI.out.pres (ip a0.out)).mono a0.out.size) (kg az.hs V HI.out) cU (by simp));have bU:=ij az;have cB:=ij bg;have bD:=ij cd;have bR:=ij Z;clear az bg aI o X Z cd a1 bp bQ;rw [aK]at aZ;go_wp2_with fail
 refine aZ.out.mono ?_;clear aZ;rintro e Q ⟨gs,T,f4,rfl,aj,aJ⟩;simp only [List.nil_append]at aj;have bO:Hid (W.grownBy Q none):=aJ.base a0.out V (fun g e=>(bU.out.hs.1.dom g e).1) (fun _ e=>e.elim);have bv:Hid (Fr w Q who T (fun g=>w.heap.size<=g)):=cv.out.step0 aJ;obtain⟨X,Z⟩:=aJ.oth w.heap.size cf bR.out (fun e=>e);have bS:=ij Z;have bq:Hid (Q.cell? ⟨w.heap.size,0,none⟩=some (.slice R p.length S)):=by
  unfold Hid;rw [World.cell?_of_block X];exact aR.out
 have ca:Q.heap[g3]?=some (.cells (lentRows a4) 66 (0,0)):=by
  have:=(aj.le.lr 1 (by simp)).1;simp only [List.getElem_cons_succ,List.getElem_cons_zero,List.take_succ_cons,List.take_zero,List.map_cons,List.map_nil,List.sum_cons,List.sum_nil,Nat.add_zero]at this;rw [List.drop_append_of_le_length (by rw [aD.out];omega),List.drop_eq_nil_of_le (by rw [aD.out];omega),List.nil_append,List.take_of_length_le (by rw [bD.out];omega)]at this;exact this
 have ar:ProgAt Q (.agg #[.slice (some ⟨g3,0,none⟩) p.length (p.length+2)]) p:=ky (LC0:=LC1) aj.le ca cB.out _;have b0:IntsAt Q.heap.size Q (.slice (some ⟨gs,0,none⟩) s.length (s.length+2)) s:=jQ (aj.le.li (gs,s,.slice so s.length sc) (by simp)).1;have bH:=ij (sV p s _ _ Q (HS.out.pres (ip bO.out)) ar b0);have aq:=ij aj;clear aj aJ X Z ca ar b0 bU aR bR ce cf;go_wp2_with fail
 refine bH.out.mono ?_;clear bH;intro e N hR;obtain⟨b8,rv,c,he,hV⟩:=hR.form;clear hR;subst he;have HR:=ij hV;obtain⟨k,t,a,P,v1,v2,v3,x1,x3,y1,y3,m,q,cT,hx⟩:=hV;clear hx;subst cT;have an:=ij b8;clear b8;go_wp2_with fail
 have ai:N.grownBy (N.alloc (.cells #[.int .i64 k,.int .i64 t,.int .i64 a,.slice x1 m x3,.int .i64 P,.int .i64 v1,.int .i64 v2,.int .i64 v3,.slice y1 q y3] 31)) none:=iq (ir _ _);have d:=heap_alloc_new N (.cells #[.int .i64 k,.int .i64 t,.int .i64 a,.slice x1 m x3,.int .i64 P,.int .i64 v1,.int .i64 v2,.int .i64 v3,.slice y1 q y3] 31);generalize N.alloc (.cells #[.int .i64 k,.int .i64 t,.int .i64 a,.slice x1 m x3,.int .i64 P,.int .i64 v1,.int .i64 v2,.int .i64 v3,.slice y1 q y3] 31)=w6 at ai d ⊢;have af:=ij ai;have bn:=ij d;have bC:Hid (N.heap.size<w6.heap.size):=(Array.getElem?_eq_some_iff.1 d).1;have bP:Hid (W.grownBy w6 none):=il bO.out (il an.out ai);have cw:Hid (Fr w w6 who T (fun g=>w.heap.size<=g)):=bv.out.stepG (il an.out ai);have aQ:=ij (m9 B w6 b T n f4 K _ _ _ (aq.out.grown (il an.out ai)) (by simp) (by rw [List.length_append,aD.out,bD.out];omega) (by simp));rw [aK]at aQ;clear ai d;refine aQ.out.mono ?_;clear aQ;rintro e w7 ⟨rfl,f7,ci,ad⟩;have ap:Hid (W.grownBy w7 none):=ad.base bP.out V (fun g e=>(aq.out.hs.1.dom g e).1) (fun _ e=>e.elim);have cx:Hid (Fr w w7 who T (fun g=>w.heap.size<=g)):=cw.out.step0 ad;have Y:∀ g,Q.heap.size<=g->T g= .other:=fun g h1=>by
  by_cases e:T g= .other
  ·exact e
  ·exact absurd (aq.out.hs.1.dom g e).2 (by omega)
 have HOT:=ij Y;have bu:Hid (B<=Q.heap.size):=by
  have:=aq.out.low;unfold Hid;omega
 have a9:=an.out.size;have aO:Hid (w7.heap[N.heap.size]?=some (.cells #[.int .i64 k,.int .i64 t,.int .i64 a,.slice x1 m x3,.int .i64 P,.int .i64 v1,.int .i64 v2,.int .i64 v3,.slice y1 q y3] 31 (0,0))):=by
  unfold Hid;rw [(ad.oth N.heap.size bC.out (Y _ a9) (fun e=>e)).1];exact bn.out
 have aS:Hid (w7.cell? ⟨w.heap.size,0,none⟩=some (.slice R p.length S)):=by
  have b6:=ip (il an.out af.out) _ _ bq.out;unfold Hid;rw [World.cell?_of_block (ad.oth w.heap.size (World.block_lt_of_cell? w6 _ b6) bS.out (fun e=>e)).1];exact b6
 obtain⟨hm,hq,ak,aA⟩:=HR.out.rows;have bV:Hid (w7.ownsRow Q.heap.size 76 2 (.slice x1 m x3) m (flatS (stpL p s))):=iI (iC ak af.out (fun _ e=>by cases e)) (fun g e=>(ad.oth g (Nat.lt_of_lt_of_le (iP ak g e) af.out.size) (Y g (iA ak g e)) (fun e=>e)).1);have bW:Hid (w7.ownsRow Q.heap.size 28 4 (.slice y1 q y3) q (regsF (rgsN p s) (runS p s).st)):=iI (iC aA af.out (fun _ e=>by cases e)) (fun g e=>(ad.oth g (Nat.lt_of_lt_of_le (iP aA g e) af.out.size) (Y g (iA aA g e)) (fun e=>e)).1);have cC:Hid ((Value.slice x1 m x3).ownBlock≠some N.heap.size):=fun e=>by have:=iP ak _ e;omega
 have cG:Hid (∀ g,(Value.slice x1 m x3).ownBlock=some g->T g= .other):=fun g e=>Y g (iA ak g e)
 have cH:Hid (∀ g,(Value.slice y1 q y3).ownBlock=some g->T g= .other):=fun g e=>Y g (iA aA g e)
 have aV:Hid (m=(stpL p s).length/\q=rgsN p s):=⟨hm,hq⟩;have a3:=ij ci;have bG:=ij (sT p s _ _ w7 (HP.out.pres (ip ap.out)) ((HI.out.pres (ip ap.out)).mono ap.out.size) (by omega) aX.out);have c7:=aS.out;have cD:Hid (T N.heap.size= .other):=Y _ a9;clear ci ad Y hm hq ak aA aq bq bn bP bC af bS a9;go_wp2_with fail
 refine bG.out.mono ?_;clear bG c7;intro e O hR;obtain⟨b9,rv,c',he,hV⟩:=hR.form;clear hR;subst he;have bF:=ij hV;obtain⟨cQ,k2,t2,a2,u0,u1,u2,u3,e1,e2,e3,e4,m2,q2,z1,z3,r1,r3,hA,hB⟩:=HR.out.same hV;clear hV;simp only [Value.agg.injEq,Array.mk.injEq,List.cons.injEq,Value.int.injEq,Value.slice.injEq,true_and,and_true]at hA;obtain⟨rfl,rfl,rfl,⟨rfl,rfl,rfl⟩,rfl,rfl,rfl,rfl,rfl,rfl,rfl⟩:=hA;subst hB cQ;have bw:=ij b9;clear b9 HR;go_upto_region 5 with fail
 have aw:O.grownBy (O.alloc (.cells #[.int .i64 k,.int .i64 t,.int .i64 a,.slice z1 m z3,.int .i64 P,.int .i64 v1,.int .i64 v2,.int .i64 v3,.slice r1 q r3] 31)) none:=iq (ir _ _);have bc:=heap_alloc_new O (.cells #[.int .i64 k,.int .i64 t,.int .i64 a,.slice z1 m z3,.int .i64 P,.int .i64 v1,.int .i64 v2,.int .i64 v3,.slice r1 q r3] 31);generalize O.alloc (.cells #[.int .i64 k,.int .i64 t,.int .i64 a,.slice z1 m z3,.int .i64 P,.int .i64 v1,.int .i64 v2,.int .i64 v3,.slice r1 q r3] 31)=w9 at aw bc ⊢;have U:Hid (w7.grownBy w9 none):=il bw.out aw;have aP:=ij bc;have aN:Hid (w9.heap[N.heap.size]?=some (.cells #[.int .i64 k,.int .i64 t,.int .i64 a,.slice x1 m x3,.int .i64 P,.int .i64 v1,.int .i64 v2,.int .i64 v3,.slice y1 q y3] 31 (0,0))):=by
  unfold Hid;rw [U.out.block _ (Array.getElem?_eq_some_iff.1 aO.out).1 (by simp)];exact aO.out
 obtain⟨hm,hq,cj,cg⟩:=bF.out.rows;have aE:Hid (w9.ownsRow Q.heap.size 76 2 (.slice x1 m x3) m (flatS (stpL p s))):=iC bV.out U.out (fun _ e=>by cases e);have aF:Hid (w9.ownsRow Q.heap.size 28 4 (.slice y1 q y3) q (regsF (rgsN p s) (runS p s).st)):=iC bW.out U.out (fun _ e=>by cases e);have bK:Hid (SamS w9 x1 z1 m):=AW hm aE.out (iC cj aw (fun _ e=>by cases e));have bJ:Hid (SamR w9 y1 r1 q):=by
  have h1:=aF.out;have h2:=iC cg aw (fun _ e=>by cases e);rw [<-hq]at h1 h2;exact AV h1 h2
 clear aw bc hm hq cj cg aO bV bW bw bF;have bL:Hid (∀ u,w9.grownBy u none->u.cell? ⟨w.heap.size,0,none⟩=some (.slice R p.length S)/\(u.cell? ⟨N.heap.size,0,none⟩=some (.int .i64 k)/\u.cell? ⟨N.heap.size,1,none⟩=some (.int .i64 t)/\u.cell? ⟨N.heap.size,2,none⟩=some (.int .i64 a)/\u.cell? ⟨N.heap.size,3,none⟩=some (.slice x1 m x3)/\u.cell? ⟨N.heap.size,4,none⟩=some (.int .i64 P)/\u.cell? ⟨N.heap.size,5,none⟩=some (.int .i64 v1)/\u.cell? ⟨N.heap.size,6,none⟩=some (.int .i64 v2)/\u.cell? ⟨N.heap.size,7,none⟩=some (.int .i64 v3)/\u.cell? ⟨N.heap.size,8,none⟩=some (.slice y1 q y3))/\(u.cell? ⟨O.heap.size,0,none⟩=some (.int .i64 k)/\u.cell? ⟨O.heap.size,1,none⟩=some (.int .i64 t)/\u.cell? ⟨O.heap.size,2,none⟩=some (.int .i64 a)/\u.cell? ⟨O.heap.size,3,none⟩=some (.slice z1 m z3)/\u.cell? ⟨O.heap.size,4,none⟩=some (.int .i64 P)/\u.cell? ⟨O.heap.size,5,none⟩=some (.int .i64 v1)/\u.cell? ⟨O.heap.size,6,none⟩=some (.int .i64 v2)/\u.cell? ⟨O.heap.size,7,none⟩=some (.int .i64 v3)/\u.cell? ⟨O.heap.size,8,none⟩=some (.slice r1 q r3))):=fun u hu=>by
  have ka:u.heap[N.heap.size]?=some (.cells #[.int .i64 k,.int .i64 t,.int .i64 a,.slice x1 m x3,.int .i64 P,.int .i64 v1,.int .i64 v2,.int .i64 v3,.slice y1 q y3] 31 (0,0)):=by rw [hu.block _ (Array.getElem?_eq_some_iff.1 aN.out).1 (by simp)];exact aN.out
  have kb:u.heap[O.heap.size]?=some (.cells #[.int .i64 k,.int .i64 t,.int .i64 a,.slice z1 m z3,.int .i64 P,.int .i64 v1,.int .i64 v2,.int .i64 v3,.slice r1 q r3] 31 (0,0)):=by rw [hu.block _ (Array.getElem?_eq_some_iff.1 aP.out).1 (by simp)];exact aP.out
  obtain⟨p0,p1,p2,p3,p4,p5,p6,p7,p8,_⟩:=jl ka;obtain⟨q0,q1,q2,q3,q4,q5,q6,q7,q8,_⟩:=jl kb;exact⟨ip (il U.out hu) _ _ aS.out,⟨p0,p1,p2,p3,p4,p5,p6,p7,p8⟩,⟨q0,q1,q2,q3,q4,q5,q6,q7,q8⟩⟩
 have cE:Hid (∀ u,w9.grownBy u none->Calls Tryz.prog 24 #[.agg #[.slice R p.length S]] u fun e w'=>e= .returned (.int .i64 cn)/\u.grownBy w' none):=fun u hu=>by
  rw [bt.out];exact kd p _ u (HP.out.pres (ip (il ap.out (il U.out hu)))) (by omega) aX.out
 have cs:Hid (∀ u,w9.grownBy u none->Hz B u b T n f7 K/\W.grownBy u none/\u.ownsRow B 76 2 (.slice x1 m x3) m (flatS (stpL p s))/\u.ownsRow B 28 4 (.slice y1 q y3) q (regsF (rgsN p s) (runS p s).st)/\SamS u x1 z1 m/\SamR u y1 r1 q):=fun u hu=>
  ⟨⟨a3.out.1.grown (il U.out hu),a3.out.2⟩,il ap.out (il U.out hu),iK (iC aE.out hu (fun _ e=>by cases e)) bu.out,iK (iC aF.out hu (fun _ e=>by cases e)) bu.out,bK.out.pres (ip hu),bJ.out.pres (ip hu)⟩
 have bE:Hid (m<=500/\q<=4):=⟨by rw [aV.out.1];exact A9 p s,by rw [aV.out.2];exact AQ p s⟩;have cy:Hid (∀ g,((Value.slice x1 m x3).ownBlock=some g\/(Value.slice y1 q y3).ownBlock=some g)->w.heap.size<=g):=fun g e=>by
  have h4:=bv.out.size;rcases e with e | e
  ·have:=iA aE.out g e;omega
  ·have:=iA aF.out g e;omega
 have cP:=bL.out w9.drew (iy (ir _ _));clear aE aF bK bJ aN aP a3 aS bt aV;refine iz (fun u=>u.cell? ⟨w.heap.size,0,none⟩=some (.slice R p.length S)/\(u.cell? ⟨N.heap.size,0,none⟩=some (.int .i64 k)/\u.cell? ⟨N.heap.size,1,none⟩=some (.int .i64 t)/\u.cell? ⟨N.heap.size,2,none⟩=some (.int .i64 a)/\u.cell? ⟨N.heap.size,3,none⟩=some (.slice x1 m x3)/\u.cell? ⟨N.heap.size,4,none⟩=some (.int .i64 P)/\u.cell? ⟨N.heap.size,5,none⟩=some (.int .i64 v1)/\u.cell? ⟨N.heap.size,6,none⟩=some (.int .i64 v2)/\u.cell? ⟨N.heap.size,7,none⟩=some (.int .i64 v3)/\u.cell? ⟨N.heap.size,8,none⟩=some (.slice y1 q y3))/\(u.cell? ⟨O.heap.size,0,none⟩=some (.int .i64 k)/\u.cell? ⟨O.heap.size,1,none⟩=some (.int .i64 t)/\u.cell? ⟨O.heap.size,2,none⟩=some (.int .i64 a)/\u.cell? ⟨O.heap.size,3,none⟩=some (.slice z1 m z3)/\u.cell? ⟨O.heap.size,4,none⟩=some (.int .i64 P)/\u.cell? ⟨O.heap.size,5,none⟩=some (.int .i64 v1)/\u.cell? ⟨O.heap.size,6,none⟩=some (.int .i64 v2)/\u.cell? ⟨O.heap.size,7,none⟩=some (.int .i64 v3)/\u.cell? ⟨O.heap.size,8,none⟩=some (.slice r1 q r3))) 46 (by kernel_rfl) (by kernel_rfl) cP ?_;intro ag;refine ie 0 ?v1 rfl (by kernel_rfl) (fun _ _ _ h=>h) (by kernel_rfl) ?y1 ag ?_
 case y1=>(rintro u ⟨M,⟨r,v,x,y,z,A,C,D,E⟩,⟨F,l,G,o,H,I,d,J,L⟩⟩;go_simp;try rfl)
 simp only [Act.put,List.setIfInBounds_toArray];refine ie 1 ?v2 rfl (by kernel_rfl) (fun _ _ _ h=>h) (by kernel_rfl) ?y2 ag ?_
 case y2=>(rintro u ⟨M,⟨r,v,x,y,z,A,C,D,E⟩,⟨F,l,G,o,H,I,d,J,L⟩⟩;go_simp;try rfl)
 simp only [Act.put];refine ie 2 ?v3 rfl (by kernel_rfl) (fun _ _ _ h=>h) (by kernel_rfl) ?y3 ag ?_
 case y3=>(rintro u ⟨M,⟨r,v,x,y,z,A,C,D,E⟩,⟨F,l,G,o,H,I,d,J,L⟩⟩;go_simp;try rfl)
 simp only [Act.put];refine ie 4 ?v4 rfl (by kernel_rfl) (fun _ _ _ h=>h) (by kernel_rfl) ?y4 ag ?_
 case y4=>(rintro u ⟨M,⟨r,v,x,y,z,A,C,D,E⟩,⟨F,l,G,o,H,I,d,J,L⟩⟩;go_simp;try rfl)
 simp only [Act.put];refine iu (i:=3) rfl (by kernel_rfl) (by kernel_rfl) (by kernel_rfl) ?_;intro K3 b3;have bA:=ij b3;clear b3;go_simp;refine(nu _ _).mono ?_;rintro e wA ⟨rfl,cV⟩;obtain rfl:=cV.symm;refine bA.out _ _ ag ?_;clear bA;try simp only [Act.put,List.setIfInBounds_toArray]
 refine iu (i:=5) rfl (by kernel_rfl) (by kernel_rfl) (by kernel_rfl) ?_;intro K5 b4;have bB:=ij b4;clear b4;go_simp;refine(cE.out _ (iy (ir _ _))).mono ?_;rintro e bl ⟨rfl,b7⟩;have aT:Hid (w9.grownBy bl none):=pw b7;have j:=bL.out bl aT.out;clear b7;refine bB.out _ _ j ?_;clear bB;try simp only [Act.put,List.setIfInBounds_toArray]
 refine ie 6 ?v5 rfl (by kernel_rfl) (fun _ _ _ h=>h) (by kernel_rfl) ?y5 j ?_
 case y5=>(rintro u ⟨M,⟨r,v,x,y,z,A,C,D,E⟩,⟨F,l,G,o,H,I,d,J,L⟩⟩;go_simp;try rfl)
 simp only [Act.put,List.setIfInBounds_toArray];refine ie 7 ?v6 rfl (by kernel_rfl) (fun _ _ _ h=>h) (by kernel_rfl) ?y6 j ?_
 case y6=>(rintro u ⟨M,⟨r,v,x,y,z,A,C,D,E⟩,⟨F,l,G,o,H,I,d,J,L⟩⟩;go_simp;try rfl)
 simp only [Act.put];refine ie 8 ?v7 rfl (by kernel_rfl) (fun _ _ _ h=>h) (by kernel_rfl) ?y7 j ?_
 case y7=>(rintro u ⟨M,⟨r,v,x,y,z,A,C,D,E⟩,⟨F,l,G,o,H,I,d,J,L⟩⟩;go_simp;try rfl)
 simp only [Act.put];refine ie 9 ?v8 rfl (by kernel_rfl) (fun _ _ _ h=>h) (by kernel_rfl) ?y8 j ?_
 case y8=>(rintro u ⟨M,⟨r,v,x,y,z,A,C,D,E⟩,⟨F,l,G,o,H,I,d,J,L⟩⟩;go_simp;try rfl)
 simp only [Act.put];refine ie 11 ?v9 rfl (by kernel_rfl) (fun _ _ _ h=>h) (by kernel_rfl) ?y9 j ?_
 case y9=>(rintro u ⟨M,⟨r,v,x,y,z,A,C,D,E⟩,⟨F,l,G,o,H,I,d,J,L⟩⟩;go_simp;try rfl)
 simp only [Act.put];refine iu (i:=10) rfl (by kernel_rfl) (by kernel_rfl) (by kernel_rfl) ?_;intro K10 b2;have bz:=ij b2;clear b2;go_simp;refine(nu _ _).mono ?_;rintro e wB ⟨rfl,cW⟩;obtain rfl:=cW.symm;refine bz.out _ _ j ?_;clear bz;try simp only [Act.put,List.setIfInBounds_toArray]
 refine ie 12 ?v10 rfl (by kernel_rfl) (fun _ _ _ h=>h) (by kernel_rfl) ?y10 j ?_
 case y10=>(rintro u ⟨M,⟨r,v,x,y,z,A,C,D,E⟩,⟨F,l,G,o,H,I,d,J,L⟩⟩;go_simp;try rfl)
 simp only [Act.put,List.setIfInBounds_toArray];refine ie 13 ?v11 rfl (by kernel_rfl) (fun _ _ _ h=>h) (by kernel_rfl) ?y11 j ?_
 case y11=>(rintro u ⟨M,⟨r,v,x,y,z,A,C,D,E⟩,⟨F,l,G,o,H,I,d,J,L⟩⟩;go_simp;try rfl)
 simp only [Act.put];refine ie 14 ?v12 rfl (by kernel_rfl) (fun _ _ _ h=>h) (by kernel_rfl) ?y12 j ?_
 case y12=>(rintro u ⟨M,⟨r,v,x,y,z,A,C,D,E⟩,⟨F,l,G,o,H,I,d,J,L⟩⟩;go_simp;try rfl)
 simp only [Act.put];refine ie 15 ?v13 rfl (by kernel_rfl) (fun _ _ _ h=>h) (by kernel_rfl) ?y13 j ?_
 case y13=>(rintro u ⟨M,⟨r,v,x,y,z,A,C,D,E⟩,⟨F,l,G,o,H,I,d,J,L⟩⟩;go_simp;try rfl)
 simp only [Act.put];refine ie 16 ?v14 rfl (by kernel_rfl) (fun _ _ _ h=>h) (by kernel_rfl) ?y14 j ?_
 case y14=>(rintro u ⟨M,⟨r,v,x,y,z,A,C,D,E⟩,⟨F,l,G,o,H,I,d,J,L⟩⟩;go_simp;try rfl)
 simp only [Act.put];refine ie 17 ?v15 rfl (by kernel_rfl) (fun _ _ _ h=>h) (by kernel_rfl) ?y15 j ?_
 case y15=>(rintro u ⟨M,⟨r,v,x,y,z,A,C,D,E⟩,⟨F,l,G,o,H,I,d,J,L⟩⟩;go_simp;try rfl)
 simp only [Act.put];refine ie 18 ?v16 rfl (by kernel_rfl) (fun _ _ _ h=>h) (by kernel_rfl) ?y16 j ?_
 case y16=>(rintro u ⟨M,⟨r,v,x,y,z,A,C,D,E⟩,⟨F,l,G,o,H,I,d,J,L⟩⟩;go_simp;try rfl)
 simp only [Act.put];refine ie 19 ?v17 rfl (by kernel_rfl) (fun _ _ _ h=>h) (by kernel_rfl) ?y17 j ?_
 case y17=>(rintro u ⟨M,⟨r,v,x,y,z,A,C,D,E⟩,⟨F,l,G,o,H,I,d,J,L⟩⟩;go_simp;try rfl)
 simp only [Act.put];refine ie 20 ?v18 rfl (by kernel_rfl) (fun _ _ _ h=>h) (by kernel_rfl) ?y18 j ?_
 case y18=>(rintro u ⟨M,⟨r,v,x,y,z,A,C,D,E⟩,⟨F,l,G,o,H,I,d,J,L⟩⟩;go_simp;try rfl)
 simp only [Act.put];refine ie 21 ?v19 rfl (by kernel_rfl) (fun _ _ _ h=>h) (by kernel_rfl) ?y19 j ?_
 case y19=>(rintro u ⟨M,⟨r,v,x,y,z,A,C,D,E⟩,⟨F,l,G,o,H,I,d,J,L⟩⟩;go_simp;try rfl)
 simp only [Act.put];refine ie 22 ?v20 rfl (by kernel_rfl) (fun _ _ _ h=>h) (by kernel_rfl) ?y20 j ?_
 case y20=>(rintro u ⟨M,⟨r,v,x,y,z,A,C,D,E⟩,⟨F,l,G,o,H,I,d,J,L⟩⟩;go_simp;try rfl)
 simp only [Act.put];refine ie 23 ?v21 rfl (by kernel_rfl) (fun _ _ _ h=>h) (by kernel_rfl) ?y21 j ?_
 case y21=>(rintro u ⟨M,⟨r,v,x,y,z,A,C,D,E⟩,⟨F,l,G,o,H,I,d,J,L⟩⟩;go_simp;try rfl)
 simp only [Act.put];refine ie 24 ?v22 rfl (by kernel_rfl) (fun _ _ _ h=>h) (by kernel_rfl) ?y22 j ?_
 case y22=>(rintro u ⟨M,⟨r,v,x,y,z,A,C,D,E⟩,⟨F,l,G,o,H,I,d,J,L⟩⟩;go_simp;try rfl)
 simp only [Act.put];refine ie 25 ?v23 rfl (by kernel_rfl) (fun _ _ _ h=>h) (by kernel_rfl) ?y23 j ?_
 case y23=>(rintro u ⟨M,⟨r,v,x,y,z,A,C,D,E⟩,⟨F,l,G,o,H,I,d,J,L⟩⟩;go_simp;try rfl)
 simp only [Act.put];refine ie 26 ?v24 rfl (by kernel_rfl) (fun _ _ _ h=>h) (by kernel_rfl) ?y24 j ?_
 case y24=>(rintro u ⟨M,⟨r,v,x,y,z,A,C,D,E⟩,⟨F,l,G,o,H,I,d,J,L⟩⟩;go_simp;try rfl)
 simp only [Act.put];refine ie 27 ?v25 rfl (by kernel_rfl) (fun _ _ _ h=>h) (by kernel_rfl) ?y25 j ?_
 case y25=>(rintro u ⟨M,⟨r,v,x,y,z,A,C,D,E⟩,⟨F,l,G,o,H,I,d,J,L⟩⟩;go_simp;try rfl)
 simp only [Act.put];refine ie 28 ?v26 rfl (by kernel_rfl) (fun _ _ _ h=>h) (by kernel_rfl) ?y26 j ?_
 case y26=>(rintro u ⟨M,⟨r,v,x,y,z,A,C,D,E⟩,⟨F,l,G,o,H,I,d,J,L⟩⟩;go_simp;try rfl)
 simp only [Act.put];refine ie 29 ?v27 rfl (by kernel_rfl) (fun _ _ _ h=>h) (by kernel_rfl) ?y27 j ?_
 case y27=>(rintro u ⟨M,⟨r,v,x,y,z,A,C,D,E⟩,⟨F,l,G,o,H,I,d,J,L⟩⟩;go_simp;try rfl)
 simp only [Act.put];refine ie 30 ?v28 rfl (by kernel_rfl) (fun _ _ _ h=>h) (by kernel_rfl) ?y28 j ?_
 case y28=>(rintro u ⟨M,⟨r,v,x,y,z,A,C,D,E⟩,⟨F,l,G,o,H,I,d,J,L⟩⟩;go_simp;try rfl)
 simp only [Act.put];refine ie 31 ?v29 rfl (by kernel_rfl) (fun _ _ _ h=>h) (by kernel_rfl) ?y29 j ?_
 case y29=>(rintro u ⟨M,⟨r,v,x,y,z,A,C,D,E⟩,⟨F,l,G,o,H,I,d,J,L⟩⟩;go_simp;try rfl)
 simp only [Act.put];refine ie 32 ?v30 rfl (by kernel_rfl) (fun _ _ _ h=>h) (by kernel_rfl) ?y30 j ?_
 case y30=>(rintro u ⟨M,⟨r,v,x,y,z,A,C,D,E⟩,⟨F,l,G,o,H,I,d,J,L⟩⟩;go_simp;try rfl)
 simp only [Act.put];refine ie 33 ?v31 rfl (by kernel_rfl) (fun _ _ _ h=>h) (by kernel_rfl) ?y31 j ?_
 case y31=>(rintro u ⟨M,⟨r,v,x,y,z,A,C,D,E⟩,⟨F,l,G,o,H,I,d,J,L⟩⟩;go_simp;try rfl)
 simp only [Act.put];refine ie 34 ?v32 rfl (by kernel_rfl) (fun _ _ _ h=>h) (by kernel_rfl) ?y32 j ?_
 case y32=>(rintro u ⟨M,⟨r,v,x,y,z,A,C,D,E⟩,⟨F,l,G,o,H,I,d,J,L⟩⟩;go_simp;try rfl)
 simp only [Act.put];refine ie 35 ?v33 rfl (by kernel_rfl) (fun _ _ _ h=>h) (by kernel_rfl) ?y33 j ?_
 case y33=>(rintro u ⟨M,⟨r,v,x,y,z,A,C,D,E⟩,⟨F,l,G,o,H,I,d,J,L⟩⟩;go_simp;try rfl)
 simp only [Act.put];refine ie 36 ?v34 rfl (by kernel_rfl) (fun _ _ _ h=>h) (by kernel_rfl) ?y34 j ?_
 case y34=>(rintro u ⟨M,⟨r,v,x,y,z,A,C,D,E⟩,⟨F,l,G,o,H,I,d,J,L⟩⟩;go_simp;try rfl)
 simp only [Act.put];refine ie 37 ?v35 rfl (by kernel_rfl) (fun _ _ _ h=>h) (by kernel_rfl) ?y35 j ?_
 case y35=>(rintro u ⟨M,⟨r,v,x,y,z,A,C,D,E⟩,⟨F,l,G,o,H,I,d,J,L⟩⟩;go_simp;try rfl)
 simp only [Act.put];refine ie 38 ?v36 rfl (by kernel_rfl) (fun _ _ _ h=>h) (by kernel_rfl) ?y36 j ?_
 case y36=>(rintro u ⟨M,⟨r,v,x,y,z,A,C,D,E⟩,⟨F,l,G,o,H,I,d,J,L⟩⟩;go_simp;try rfl)
 simp only [Act.put];refine ie 39 ?v37 rfl (by kernel_rfl) (fun _ _ _ h=>h) (by kernel_rfl) ?y37 j ?_
 case y37=>(rintro u ⟨M,⟨r,v,x,y,z,A,C,D,E⟩,⟨F,l,G,o,H,I,d,J,L⟩⟩;go_simp;try rfl)
 simp only [Act.put];refine ie 40 ?v38 rfl (by kernel_rfl) (fun _ _ _ h=>h) (by kernel_rfl) ?y38 j ?_
 case y38=>(rintro u ⟨M,⟨r,v,x,y,z,A,C,D,E⟩,⟨F,l,G,o,H,I,d,J,L⟩⟩;go_simp;try rfl)
 simp only [Act.put];refine ie 41 ?v39 rfl (by kernel_rfl) (fun _ _ _ h=>h) (by kernel_rfl) ?y39 j ?_
 case y39=>(rintro u ⟨M,⟨r,v,x,y,z,A,C,D,E⟩,⟨F,l,G,o,H,I,d,J,L⟩⟩;go_simp;try rfl)
 simp only [Act.put];refine ie 42 ?v40 rfl (by kernel_rfl) (fun _ _ _ h=>h) (by kernel_rfl) ?y40 j ?_
 case y40=>(rintro u ⟨M,⟨r,v,x,y,z,A,C,D,E⟩,⟨F,l,G,o,H,I,d,J,L⟩⟩;go_simp;try rfl)
 simp only [Act.put];refine ie 43 ?v41 rfl (by kernel_rfl) (fun _ _ _ h=>h) (by kernel_rfl) ?y41 j ?_
 case y41=>(rintro u ⟨M,⟨r,v,x,y,z,A,C,D,E⟩,⟨F,l,G,o,H,I,d,J,L⟩⟩;go_simp;try rfl)
 simp only [Act.put];refine ie 44 ?v42 rfl (by kernel_rfl) (fun _ _ _ h=>h) (by kernel_rfl) ?y42 j ?_
 case y42=>(rintro u ⟨M,⟨r,v,x,y,z,A,C,D,E⟩,⟨F,l,G,o,H,I,d,J,L⟩⟩;go_simp;try rfl)
 simp only [Act.put];refine ie 45 ?v43 rfl (by kernel_rfl) (fun _ _ _ h=>h) (by kernel_rfl) ?y43 j ?_
 case y43=>(rintro u ⟨M,⟨r,v,x,y,z,A,C,D,E⟩,⟨F,l,G,o,H,I,d,J,L⟩⟩;go_simp;try rfl)
 simp only [Act.put];refine iF rfl (by kernel_rfl) (by kernel_rfl) (by kernel_rfl) ?_;go_simp;clear ag;refine ‹∀ a w,Code.wp Tryz.prog _ _ a w->_› _ _ ?_;obtain⟨z0,z2,dj,z4,z5,z6⟩:=cs.out bl aT.out;refine AP z0 z2 V dj z4 cG cH z5 z6 j.2.1.2.2.2.1 j.2.1.2.2.2.2.2.2.2.2 j.2.2.2.2.2.1 j.2.2.2.2.2.2.2.2.2.2 cD cC bE.out.1 bE.out.2 cR cS HK ?_;intro z0 z1 z2 z3 z4 z5 z7 z8 z9 z10 z11 z12 z13 z14 z15 z16 z17 z18 z19 z20 z21 z22 z23 z24 z25 z26 z27 z28 z29 z30 z31 z32 z33 z34 z35 z36 z37 z38 z39 z40 z41 z42 z43 z44 z45 z46 z47 z48 z49 z50 z51 z52 z53 z54 z55 z56 z57 z58 z59 z60 z61 z62 z63 z64 z65 z66 z67 z68 z69 z70 z71 z72 z73 z74 z75 z76 z77 z78 z79 z80 z81 z82 z83 z84 z85 z86 z87 z88 z89 z90 z91 z92 z93 z94 z95 z96 z97 z98 z99 z100 z101 z102 z103 z104 z105 z106 z107 z108 z109 z110 z111 z112 z113 z114 z115 z116 z117 z118 z119 z120 z121 z122 z123 z124 z125 z126 z127 z128 z129 z130 z131 z132 z133 z134 z135 z136 z137 z138 z139 z140 w' hh;have cz:=ij hh;clear hh;go_ret;obtain⟨di,f',K',q1,q2,q3,q4⟩:=cz.out;exact⟨rfl,di,f',K',q1,q2,q3,(cx.out.stepG (il U.out aT.out)).trans (q4.mono cy.out)⟩
end
end Go.Proofs.YtklenjmfalljgabGreatDoor
