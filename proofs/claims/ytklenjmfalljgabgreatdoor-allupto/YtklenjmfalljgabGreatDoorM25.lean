/- The texts Rgc Rgg Rgi Rgj. -/
import Derived.Test.YtklenjmfalljgabGreatDoorM05
import Derived.Test.YtklenjmfalljgabGreatDoorM09
import Derived.Test.YtklenjmfalljgabGreatDoorM11
import Derived.Test.YtklenjmfalljgabGreatDoorM20
import Derived.Test.YtklenjmfalljgabGreatDoorM23
import Derived.Test.YtklenjmfalljgabGreatDoorM24
namespace Go.Proofs.YtklenjmfalljgabGreatDoor
set_option maxRecDepth 100000
set_option maxHeartbeats 8000000
section
open Go.RowKit
structure GuS(W w:World)(b n5 n2 L:Nat)(s:ByteArray)(l:List Nat)(bad:Bool)(tv sv:Value)(v:Int × Int × Int)(p:List (List Ins))(sch:List Int):Prop where
 rd:RdG w b s l bad
 art:w.heap[n5]?=some (.cells #[tv,sv,.int .i64 v.1,.int .i64 v.2.1,.int .i64 v.2.2] 56 (0,0))
 res:w.heap[n2]?=some (.cells #[.slice none 0 0,.slice none 0 0,.int .i64 0,.int .i64 0,.int .i64 0] 56 (0,0))
 thr:ThrAt L w.heap.size w tv p
 row:w.ownsRow L 3 1 sv sch.length (ints sch)
 base:W.grownBy w none
 ord:W.heap.size<=n2/\n2<b/\b<n5/\L=n5+1
theorem ThrAt.same{L B:Nat}{w w':World}{tv:Value}{p:List (List Ins)}(h:ThrAt L B w tv p)(d:∀ k cs t,w.heap[k]?=some (.cells cs t (0,0))->t≠3->L<=k->w'.heap[k]?=w.heap[k]?):ThrAt L B w' tv p:=by
 obtain⟨rows,c,i,l,m⟩:=h;refine⟨rows,iI c (fun g e=>?_),i,fun j hj=>?_,m⟩
 ·rcases c.2 with ⟨a,_⟩ | ⟨g',cap,cur,hv,hlo,hh,_⟩
  ·rw [a]at e;cases e
  ·rw [hv]at e;simp only [Value.ownBlock,Option.some.injEq]at e;subst e;exact d _ _ _ hh (by decide) hlo
 ·obtain⟨rv,a,b,f⟩:=l j hj;refine⟨rv,a,iI b (fun g e=>?_),f⟩;rcases b.2 with ⟨e4,_⟩ | ⟨g',cap,cur,hv,hlo,hh,_⟩
  ·rw [e4]at e;cases e
  ·rw [hv]at e;simp only [Value.ownBlock,Option.some.injEq]at e;subst e;exact d _ _ _ hh (by decide) hlo
section
variable {W w w' w6 : World} {b n5 n2 L : Nat} {s : ByteArray} {l l' : List Nat} {bad bad' : Bool} {tv sv : Value} {v : Int × Int × Int} {p : List (List Ins)} {sch : List Int}
theorem GuS.lt(h:GuS W w b n5 n2 L s l bad tv sv v p sch):b<w.heap.size/\n5<w.heap.size/\n2<w.heap.size:=by
 obtain⟨k,a,_⟩:=h.rd;exact⟨(Array.getElem?_eq_some_iff.1 a).1,(Array.getElem?_eq_some_iff.1 h.art).1,(Array.getElem?_eq_some_iff.1 h.res).1⟩
theorem GuS.acell(h:GuS W w b n5 n2 L s l bad tv sv v p sch):w.cell? ⟨n5,0,none⟩=some tv/\w.cell? ⟨n5,1,none⟩=some sv/\w.cell? ⟨n5,2,none⟩=some (.int .i64 v.1)/\w.cell? ⟨n5,3,none⟩=some (.int .i64 v.2.1)/\w.cell? ⟨n5,4,none⟩=some (.int .i64 v.2.2)/\∀ o,w.frozen? ⟨n5,o,none⟩=false:=by
 simp [World.cell?,World.frozen?,h.art]
theorem GuS.rcell(h:GuS W w b n5 n2 L s l bad tv sv v p sch):∀ o,w.frozen? ⟨n2,o,none⟩=false:=by
 simp [World.frozen?,h.res]
theorem GuS.call(h:GuS W w b n5 n2 L s l bad tv sv v p sch)(c:RdG w' b s l' bad')(a:w.grownBy w' (some b)):GuS W w' b n5 n2 L s l' bad' tv sv v p sch:=by
 obtain⟨o1,o2,o3,o4⟩:=h.ord;refine⟨c,?_,?_,?_,?_,?_,h.ord⟩
 ·rw [a.block n5 h.lt.2.1 (by simp only [ne_eq,Option.some.injEq];omega)];exact h.art
 ·rw [a.block n2 h.lt.2.2 (by simp only [ne_eq,Option.some.injEq];omega)];exact h.res
 ·exact(h.thr.step a (fun q e=>by simp only [Option.some.injEq]at e;omega)).mono a.size
 ·exact jq h.row a (fun k e e2=>by simp only [Option.some.injEq]at e;have:=iA h.row k e2;omega)
 ·exact⟨a.os.trans h.base.os,a.tape.trans h.base.tape,a.output.trans h.base.output,Nat.le_trans h.base.size a.size,fun k hk _=>by
   rw [a.block k (Nat.lt_of_lt_of_le hk h.base.size) (fun e=>by simp only [Option.some.injEq]at e;omega)];exact h.base.block k hk (by simp)⟩
theorem GuS.like(h:GuS W w b n5 n2 L s l bad tv sv v p sch)(hl:Like w' w):GuS W w' b n5 n2 L s l bad tv sv v p sch:=
 h.call (h.rd.step (by rw [hl.1])) (iH hl)
theorem GuS.setA(h:GuS W w b n5 n2 L s l bad tv sv v p sch)(j:Nat)(x:Int)(a:Int × Int × Int)(d:(j=2/\a=(x,v.2.1,v.2.2))\/(j=3/\a=(v.1,x,v.2.2))\/(j=4/\a=(v.1,v.2.1,x))):GuS W (w.setCell ⟨n5,j,none⟩ (.int .i64 x)) b n5 n2 L s l bad tv sv a p sch:=by
 obtain⟨o1,o2,o3,o4⟩:=h.ord;have c:=ja w n5 j (.int .i64 x);refine⟨h.rd.step (Below.heap_setCell _ _ _ _ (by simp only;omega)),?_,?_,?_,?_,?_,h.ord⟩
 ·rw [heap_setCell_same w n5 j _ _ _ h.art];rcases d with ⟨rfl,rfl⟩ | ⟨rfl,rfl⟩ | ⟨rfl,rfl⟩<;>rfl
 ·rw [Below.heap_setCell _ _ _ _ (by simp only;omega)];exact h.res
 ·exact(h.thr.step c (fun q e=>by simp only [Option.some.injEq]at e;omega)).mono c.size
 ·exact jq h.row c (fun k e e2=>by simp only [Option.some.injEq]at e;have:=iA h.row k e2;omega)
 ·exact iD h.base (by omega)
theorem GuS.push(h:GuS W w b n5 n2 L s l bad tv sv v p sch){t:Int}{o:Obj}{g6 c6 N:Nat}(u:N=sch.length)
  (j:w6.ownsRow L 3 1 (.slice (some ⟨g6,0,none⟩) (N+1) c6) (N+1) (ints sch++[.int .i64 t]))
  (key:(sv.ownBlock=some g6/\(w.alloc o).grownBy w6 (some g6))\/(g6=w.heap.size+1/\(w.alloc o).grownBy w6 none)):
  (w6.cell? ⟨n5,1,none⟩=some sv/\w6.frozen? ⟨n5,1,none⟩=false)/\GuS W (w6.setCell ⟨n5,1,none⟩ (.slice (some ⟨g6,0,none⟩) (N+1) c6)) b n5 n2 L s l bad tv (.slice (some ⟨g6,0,none⟩) (N+1) c6) v p (sch++[t]):=by
 subst u;obtain⟨o1,o2,o3,o4⟩:=h.ord;have hL6:L<=g6:=iA j g6 rfl;have m:w.heap.size<=w6.heap.size:=by
  rcases key with ⟨_,hg⟩ | ⟨_,hg⟩<;>(have:=hg.size;simp at this;omega)
 have c:∀ k,k<w.heap.size->k≠g6->w6.heap[k]?=w.heap[k]?:=fun k hk hne=>by
  rcases key with ⟨_,hg⟩ | ⟨_,hg⟩
  ·rw [hg.block k (by simp;omega) (by simpa using hne),Below.heap_alloc _ _ _ hk]
  ·rw [hg.block k (by simp;omega) (by simp),Below.heap_alloc _ _ _ hk]
 have f:w6.heap[n5]?=some (.cells #[tv,sv,.int .i64 v.1,.int .i64 v.2.1,.int .i64 v.2.2] 56 (0,0)):=by rw [c n5 h.lt.2.1 (by omega)];exact h.art
 have x:W.grownBy w6 none:=by
  rcases key with ⟨_,hg⟩ | ⟨_,hg⟩
  ·exact⟨hg.os.trans h.base.os,hg.tape.trans h.base.tape,hg.output.trans h.base.output,Nat.le_trans h.base.size m,fun k hk _=>by
    rw [c k (Nat.lt_of_lt_of_le hk h.base.size) (by omega)];exact h.base.block k hk (by simp)⟩
  ·exact il h.base (il (iq (ir _ _)) hg)
 have y:ThrAt L w6.heap.size w6 tv p:=by
  refine(h.thr.same (fun k cs ty hk hty hlo=>c k (Array.getElem?_eq_some_iff.1 hk).1 (fun e=>?_))).mono m;subst e;rcases key with ⟨e,hg⟩ | ⟨e,hg⟩
  ·rcases h.row.2 with ⟨e4,_⟩ | ⟨g',cap,cur,hv,_,hh,_⟩
   ·rw [e4]at e;cases e
   ·rw [hv]at e;simp only [Value.ownBlock,Option.some.injEq]at e;subst e;rw [hh]at hk;simp only [Option.some.injEq,Obj.cells.injEq]at hk;exact hty hk.2.1.symm
  ·have:=(Array.getElem?_eq_some_iff.1 hk).1;omega
 have i:=ja w6 n5 1 (.slice (some ⟨g6,0,none⟩) (sch.length+1) c6);refine⟨⟨by simp [World.cell?,f],by simp [World.frozen?,f]⟩,⟨?_,?_,?_,?_,?_,?_,h.ord⟩⟩
 ·refine(h.rd.step (c b h.lt.1 (by omega))).step (Below.heap_setCell _ _ _ _ (by simp only;omega))
 ·rw [heap_setCell_same w6 n5 1 _ _ _ f];rfl
 ·rw [Below.heap_setCell _ _ _ _ (by simp only;omega),c n2 h.lt.2.2 (by omega)];exact h.res
 ·exact(y.step i (fun q e=>by simp only [Option.some.injEq]at e;omega)).mono i.size
 ·have r:=jq j i (fun k e d=>by simp only [Option.some.injEq]at e;simp only [Value.ownBlock,Option.some.injEq]at d;omega);have n:(sch++[t]).length=sch.length+1:=by simp
  have d:ints (sch++[t])=ints sch++[.int .i64 t]:=by simp [ints]
  rw [n,d];exact r
 ·exact iD x (by omega)
end
end
section
open Go.RowKit
attribute [local go_sem] Go.World.cell?_alloc_some
def schG(l:List Nat)(bad:Bool):List Int × (Int × Int × Int) × Bool:=
 let k:=numG 500 l
 let s:=runsG k.1 [] k.2.1 (bad || k.2.2)
 let a:=numG 5 s.2.1
 let b:=numG 3 a.2.1
 let c:=numG 500 b.2.1
 (s.1,(a.1,b.1,c.1),!(s.2.2 || a.2.2 || b.2.2 || c.2.2))
theorem tN(n:Nat)(t:Int)(s:List Int)(h:¬s.length<=500):fillG n t s=s:=by
 cases n with
 | zero=>rfl
 | succ n=>rw [fillG,if_neg h]
theorem wX(k:Nat)(s:List Int)(l:List Nat):runsG k s l true=(s,l,true):=by cases k<;>rfl
theorem Bs{W w:World}{b j f L:Nat}{s:ByteArray}{l:List Nat}{bad:Bool}{tv sv:Value}{p:List (List Ins)}{S:List Int}(HS:Hid (GuS W w b j f L s l bad tv sv (0,0,0) p S))(hs:s.size<=9223372036854775000)
  {Q:Exit->Act->World->Prop} {c0 c1 c3 c6 c7 c8 c9 aC aN aY bc bg bh bi bj bk bl bm bn bo bp bq br bt bu bv bw bA bB bC bD bE bF bG bH bI bJ bK bL bM bN bO bP bQ bR bS bT bU bV bW bX bY bZ b0 b1 b2 b3 b4 b5 b6 b7 b8 b9 ca cb cc cd cf cg ch ci cj ck cl cm cn co cq cr cs ct cu cv cw cx cy cz cB cC cD cE cF cG cH cI cJ cK aD aE aF aG aH aI aJ aK aL aM aO aP aQ aR aS aT aU aV aW aX aZ a3 a4 a5 a6 a7 a8 a9 ba bb bd be bf:Value} (D:Hid (∀ c a d v w,Q (.panic c) (Act.put a (some d) v) w->Q (.panic c) a w))
  (X:Hid (∀ {z0 z1 z4 z5 z6 z7 z8 z9 c5 dk dw dH dL dM dN dO dP dQ dS dT dU dV dW dX dY dZ d0 d1 d3 d4 d5 d6 d7 d8 d9 ea eb ec ed ee ef eg eh ei ej ek el em eo ep eq er es et eu ev ew ex ez eA eB eC eD eE eF eG eH eI eK eL eM eN eO eP eQ eR eS eT eV eW eX eY eZ e5 e6 e7 e8 e9 fb fc fd fe ff fg fh fi fj fk da db dc dd de df dg dh di dj dl dm dn dp dq dr ds dt du dv dx dy dz dA dB dC dD dE dF dG dI dJ dK:Value} (w':World) (az:Value),w'.heap[f]?=some (.cells #[tv,az,.int .i64 ((numG 5 l).1:Nat),.int .i64 ((numG 3 (numG 5 l).2.1).1:Nat),.int .i64 ((numG 500 (numG 3 (numG 5 l).2.1).2.1).1:Nat)] 56 (0,0))->ThrAt L w'.heap.size w' tv p->w'.ownsRow L 3 1 az S.length (ints S)->W.grownBy w' none->Q .ret ⟨#[z0,z1,.pointer (some ⟨f,0,none⟩),.bool (!(bad || (numG 5 l).2.2 || (numG 3 (numG 5 l).2.1).2.2 || (numG 500 (numG 3 (numG 5 l).2.1).2.1).2.2)),z4,z5,z6,z7,z8,z9,c5,dk,dw,dH,dL,dM,dN,dO,dP,dQ,dS,dT,dU,dV,dW,dX,dY,dZ,d0,d1,d3,d4,d5,d6,d7,d8,d9,ea,eb,ec,ed,ee,ef,eg,eh,ei,ej,ek,el,em,eo,ep,eq,er,es,et,eu,ev,ew,ex,ez,eA,eB,eC,eD,eE,eF,eG,eH,eI,eK,eL,eM,eN,eO,eP,eQ,eR,eS,eT,eV,eW,eX,eY,eZ,e5,e6,e7,e8,e9,fb,fc,fd,fe,ff,fg,fh,fi,fj,fk,da,db,dc,dd,de,df,dg,dh,di,dj,dl,dm,dn,dp,dq,dr,ds,dt,du,dv,dx,dy,dz,dA,dB,dC,dD,dE,dF,dG,dI,dJ,dK],[]⟩ w')):
  Code.wp Tryz.prog (tailOf Tryz.f71 28) Q ⟨#[c0,c1,.pointer (some ⟨f,0,none⟩),c3,.pointer (some ⟨b,0,none⟩),.pointer (some ⟨j,0,none⟩),c6,c7,c8,c9,aC,aN,aY,bc,bg,bh,bi,bj,bk,bl,bm,bn,bo,bp,bq,br,bt,bu,bv,bw,bA,bB,bC,bD,bE,bF,bG,bH,bI,bJ,bK,bL,bM,bN,bO,bP,bQ,bR,bS,bT,bU,bV,bW,bX,bY,bZ,b0,b1,b2,b3,b4,b5,b6,b7,b8,b9,ca,cb,cc,cd,cf,cg,ch,ci,cj,ck,cl,cm,cn,co,cq,cr,cs,ct,cu,cv,cw,cx,cy,cz,cB,cC,cD,cE,cF,cG,cH,cI,cJ,cK,aD,aE,aF,aG,aH,aI,aJ,aK,aL,aM,aO,aP,aQ,aR,aS,aT,aU,aV,aW,aX,aZ,a3,a4,a5,a6,a7,a8,a9,ba,bb,bd,be,bf],[]⟩ w:=by
 conv=>arg 2;whnf
 have ad:∀ q,pt q= .pointer (some ⟨q,0,none⟩):=fun _=>rfl
 have T:=ij (kH w b s l bad 5 (by omega) HS.out.rd hs);rw [ad]at T;have cU:=jm 5 l;generalize numG 5 l=x at*;obtain⟨m,l1,Z⟩:=x;simp only at T X cU;have hka1:(m:Int)<=5:=by omega
 go_upto_region 29 with (go_at_call 98;refine T.out.mono ?_;clear T;rintro e v1 ⟨rfl,z,t⟩;have hc:=HS.out.call z t;have P:=hc.acell.2.2.1;have R:=hc.acell.2.2.2.2.2 2;have aj:=ij hc;clear z t hc)
 have B:=aj.out.setA 2 (m:Int) ((m:Int),0,0) (Or.inl ⟨rfl,rfl⟩);generalize v1.setCell ⟨j,2,none⟩ (.int .i64 (m:Int))=w1 at*;have ao:=ij B;clear B P R aj;have U:=ij (kH w1 b s l1 (bad || Z) 3 (by omega) ao.out.rd hs);rw [ad]at U;have cV:=jm 3 l1;generalize numG 3 l1=x at*;obtain⟨n,l2,ar⟩:=x;simp only at U X cV;have hka2:(n:Int)<=3:=by omega
 go_upto_region 30 with (go_at_call 98;refine U.out.mono ?_;clear U;rintro e v2 ⟨rfl,z,t⟩;have hc:=ao.out.call z t;have P:=hc.acell.2.2.2.1;have R:=hc.acell.2.2.2.2.2 3;have ak:=ij hc;clear z t hc)
 have B:=ak.out.setA 3 (n:Int) ((m:Int),(n:Int),0) (Or.inr (Or.inl ⟨rfl,rfl⟩));generalize v2.setCell ⟨j,3,none⟩ (.int .i64 (n:Int))=w2 at*;have ap:=ij B;clear B P R ak;have V:=ij (kH w2 b s l2 (bad || Z || ar) 500 (by omega) ap.out.rd hs);rw [ad]at V;have cW:=jm 500 l2;generalize numG 500 l2=x at*;obtain⟨r,l3,bz⟩:=x;simp only at V X cW;have hka3:(r:Int)<=500:=by omega
 go_upto_region 31 with (go_at_call 98;refine V.out.mono ?_;clear V;rintro e v3 ⟨rfl,z,t⟩;have hc:=ap.out.call z t;have P:=hc.acell.2.2.2.2.1;have R:=hc.acell.2.2.2.2.2 4;have al:=ij hc;clear z t hc)
 have B:=al.out.setA 4 (r:Int) ((m:Int),(n:Int),(r:Int)) (Or.inr (Or.inr ⟨rfl,rfl⟩));generalize v3.setCell ⟨j,4,none⟩ (.int .i64 (r:Int))=w3 at*;have F:=ij B;clear B P R al;obtain⟨x1,x2,x3,hx⟩:=iw F.out.thr.choose_spec.1;obtain⟨y1,y2,y3,hy⟩:=iw F.out.row;subst hx hy;generalize cM:(bad || Z || ar || bz)=BB at*;clear cM;have aq:Hid (∀ u:World,(∀ k,k≠f->u.heap[k]?=w3.heap[k]?)->u.cell? ⟨j,0,none⟩=some (.slice x1 x2 x3)/\u.cell? ⟨j,1,none⟩=some (.slice y1 y2 y3)/\u.cell? ⟨j,2,none⟩=some (.int .i64 (m:Int))/\u.cell? ⟨j,3,none⟩=some (.int .i64 (n:Int))/\u.cell? ⟨j,4,none⟩=some (.int .i64 (r:Int))/\u.cell? ⟨b,2,none⟩=some (.bool BB)):=fun u hu=>by
  have h:=F.out;obtain⟨o1,o2,o3,o4⟩:=h.ord;obtain⟨e0,e1,G,e3,e4,_⟩:=h.acell;have H:u.heap[j]?=w3.heap[j]?:=hu j (by omega);have hb:u.heap[b]?=w3.heap[b]?:=hu b (by omega);exact⟨by rw [World.cell?_of_block H];exact e0,by rw [World.cell?_of_block H];exact e1,by rw [World.cell?_of_block H];exact G,by rw [World.cell?_of_block H];exact e3,by rw [World.cell?_of_block H];exact e4,by rw [World.cell?_of_block hb];exact h.rd.bad⟩
 have av:=aq.out w3.drew (fun k _=>rfl);refine iz (fun u=>u.cell? ⟨j,0,none⟩=some (.slice x1 x2 x3)/\u.cell? ⟨j,1,none⟩=some (.slice y1 y2 y3)/\u.cell? ⟨j,2,none⟩=some (.int .i64 (m:Int))/\u.cell? ⟨j,3,none⟩=some (.int .i64 (n:Int))/\u.cell? ⟨j,4,none⟩=some (.int .i64 (r:Int))/\u.cell? ⟨b,2,none⟩=some (.bool BB)) 7 (by kernel_rfl) (by kernel_rfl) av ?_;intro C;refine ie 0 ?v0 rfl (by kernel_rfl) (fun c _ _ h=>D.out c _ _ _ _ h) (by kernel_rfl) ?y0 C ?_
 case y0=>(rintro u ⟨I,J,K,M,N,O⟩;go_simp;try rfl)
 simp only [Act.put,List.setIfInBounds_toArray];refine ie 1 ?v1 rfl (by kernel_rfl) (fun c _ _ h=>D.out c _ _ _ _ h) (by kernel_rfl) ?y1 C ?_
 case y1=>(rintro u ⟨I,J,K,M,N,O⟩;go_simp;try rfl)
 simp only [Act.put];refine ie 2 ?v2 rfl (by kernel_rfl) (fun c _ _ h=>D.out c _ _ _ _ h) (by kernel_rfl) ?y2 C ?_
 case y2=>(rintro u ⟨I,J,K,M,N,O⟩;go_simp;try rfl)
 simp only [Act.put];refine ie 3 ?v3 rfl (by kernel_rfl) (fun c _ _ h=>D.out c _ _ _ _ h) (by kernel_rfl) ?y3 C ?_
 case y3=>(rintro u ⟨I,J,K,M,N,O⟩;go_simp;try rfl)
 simp only [Act.put];refine ie 4 ?v4 rfl (by kernel_rfl) (fun c _ _ h=>D.out c _ _ _ _ h) (by kernel_rfl) ?y4 C ?_
 case y4=>(rintro u ⟨I,J,K,M,N,O⟩;go_simp;try rfl)
 simp only [Act.put];refine ie 5 ?v5 rfl (by kernel_rfl) (fun c _ _ h=>D.out c _ _ _ _ h) (by kernel_rfl) ?y5 C ?_
 case y5=>(rintro u ⟨I,J,K,M,N,O⟩;go_simp;try rfl)
 simp only [Act.put];refine iu (i:=6) rfl (by kernel_rfl) (by kernel_rfl) (by kernel_rfl) ?_;intro K6 au;have am:=ij au;clear au;have A:w3.heap[f]?=some (.cells #[.slice none 0 0,.slice none 0 0,.int .i64 0,.int .i64 0,.int .i64 0] 56 (0,0)):=F.out.res;have r0:w3.cell? ⟨f,0,none⟩=some (.slice none 0 0):=by simp only [World.cell?,A];rfl
 have r1:w3.cell? ⟨f,1,none⟩=some (.slice none 0 0):=by simp only [World.cell?,A];rfl
 have r2:w3.cell? ⟨f,2,none⟩=some (.int .i64 0):=by simp only [World.cell?,A];rfl
 have r3:w3.cell? ⟨f,3,none⟩=some (.int .i64 0):=by simp only [World.cell?,A];rfl
 have r4:w3.cell? ⟨f,4,none⟩=some (.int .i64 0):=by simp only [World.cell?,A];rfl
 have E:∀ o,w3.frozen? ⟨f,o,none⟩=false:=fun o=>by simp [World.frozen?,A]
 have z0:=E 0;have z1:=E 1;have z2:=E 2;have z3:=E 3;have z4:=E 4;have aB:=ij A;clear A E;go_simp;have aw:(((((w3.setCell ⟨f,0,none⟩ (.slice x1 x2 x3)).setCell ⟨f,1,none⟩ (.slice y1 y2 y3)).setCell ⟨f,2,none⟩ (.int .i64 (m:Int))).setCell ⟨f,3,none⟩ (.int .i64 (n:Int))).setCell ⟨f,4,none⟩ (.int .i64 (r:Int))).heap[f]?=some (.cells #[.slice x1 x2 x3,.slice y1 y2 y3,.int .i64 (m:Int),.int .i64 (n:Int),.int .i64 (r:Int)] 56 (0,0)):=by
  have e1:=heap_setCell_same w3 f 0 _ _ (.slice x1 x2 x3) aB.out;have G:=heap_setCell_same _ f 1 _ _ (.slice y1 y2 y3) e1;have e3:=heap_setCell_same _ f 2 _ _ (.int .i64 (m:Int)) G;have e4:=heap_setCell_same _ f 3 _ _ (.int .i64 (n:Int)) e3;exact heap_setCell_same _ f 4 _ _ (.int .i64 (r:Int)) e4
 have ax:w3.grownBy (((((w3.setCell ⟨f,0,none⟩ (.slice x1 x2 x3)).setCell ⟨f,1,none⟩ (.slice y1 y2 y3)).setCell ⟨f,2,none⟩ (.int .i64 (m:Int))).setCell ⟨f,3,none⟩ (.int .i64 (n:Int))).setCell ⟨f,4,none⟩ (.int .i64 (r:Int))) (some f):=il (il (il (il (ja _ _ _ _) (ja _ _ _ _)) (ja _ _ _ _)) (ja _ _ _ _)) (ja _ _ _ _);have ay:∀ k,k≠f->(((((w3.setCell ⟨f,0,none⟩ (.slice x1 x2 x3)).setCell ⟨f,1,none⟩ (.slice y1 y2 y3)).setCell ⟨f,2,none⟩ (.int .i64 (m:Int))).setCell ⟨f,3,none⟩ (.int .i64 (n:Int))).setCell ⟨f,4,none⟩ (.int .i64 (r:Int))).heap[k]?=w3.heap[k]?:=fun k hk=>by
  rw [Below.heap_setCell _ _ _ _ (by simpa using hk),Below.heap_setCell _ _ _ _ (by simpa using hk),Below.heap_setCell _ _ _ _ (by simpa using hk),Below.heap_setCell _ _ _ _ (by simpa using hk),Below.heap_setCell _ _ _ _ (by simpa using hk)]
 generalize ((((w3.setCell ⟨f,0,none⟩ (.slice x1 x2 x3)).setCell ⟨f,1,none⟩ (.slice y1 y2 y3)).setCell ⟨f,2,none⟩ (.int .i64 (m:Int))).setCell ⟨f,3,none⟩ (.int .i64 (n:Int))).setCell ⟨f,4,none⟩ (.int .i64 (r:Int))=w9 at*;refine am.out _ _ (aq.out w9.drew ay) ?_;clear am r0 r1 r2 r3 r4 z0 z1 z2 z3 z4;try simp only [Act.put,List.setIfInBounds_toArray]
 refine iF rfl (by kernel_rfl) (by kernel_rfl) (by kernel_rfl) ?_;go_simp;have Y:Hid (ThrAt L w9.drew.heap.size w9.drew (.slice x1 x2 x3) p/\w9.drew.ownsRow L 3 1 (.slice y1 y2 y3) S.length (ints S)/\W.grownBy w9.drew none):=by
  have h:=F.out;obtain⟨o1,o2,o3,o4⟩:=h.ord;have y:w3.grownBy w9.drew (some f):=iy ax;refine⟨(h.thr.step y (fun q e=>by simp only [Option.some.injEq]at e;omega)).mono y.size,jq h.row y (fun k e G=>by simp only [Option.some.injEq]at e;have:=iA h.row k G;omega),?_⟩;exact⟨y.os.trans h.base.os,y.tape.trans h.base.tape,y.output.trans h.base.output,Nat.le_trans h.base.size y.size,fun k hk _=>by
   rw [y.block k (Nat.lt_of_lt_of_le hk h.base.size) (fun e=>by simp only [Option.some.injEq]at e;omega)];exact h.base.block k hk (by simp)⟩
 have aA:=ij aw;clear aw ax ay C av;go_wp2_with fail
 exact X.out w9.drew _ aA.out Y.out.1 Y.out.2.1 Y.out.2.2
theorem yd{W w:World}{b H A L:Nat}{s:ByteArray}{l:List Nat}{bad:Bool}{tv:Value}{p:List (List Ins)}(HS:Hid (GuS W w b H A L s l bad tv (.slice none 0 0) (0,0,0) p []))(G:s.size<=9223372036854775000)
  {Q:Exit->Act->World->Prop} {c0 c1 c3 c6 c7 c8 c9 aC aN aY ba be bf bg bh bi bj bk bl bm bn bo bp bq br bt bu bw bx bz bA bB bC bD bE bF bG bH bI bJ bK bL bM bN bO bP bQ bR bS bT bU bV bW bX bY bZ b3 b4 b5 b6 b7 b8 b9 ca cb cc cd cf cg ch ci cj ck cl cm cn co cq cr ct cu cv cw cx cy cz cA cC cD cE cF cG cH cI cJ cK cL aD aE aF aG aH aI aJ aK aL aM aO aP aQ aR aS aT aU aV aW aX aZ a0 a2 a3 a4 a5 a6 a7 a8 a9 bb bc bd:Value} (ac:Hid (∀ c a d v w,Q (.panic c) (Act.put a (some d) v) w->Q (.panic c) a w))
  (T:Hid (∀ {z0 z1 z4 z5 z6 z7 z8 z9 dd dp dA dL dP dQ dR dS dT dU dV dW dX dY dZ d0 d1 d2 d3 d4 d5 d6 d7 d8 d9 ea eb ec ed ee eg eh ei ej ek el em en eo ep er es et eu ev ew ex ey ez eA eC eD eE eF eG eH eI eJ eK eL eN eO eP eQ eR eS eT eU eV eW eY eZ e0 e1 e2 e3 e4 e5 e6 e7 e9 fa fb fc fd fe ff fg fh fi de df dg dh di dj dk dl dm dn dq dr ds dt du dv dw dx dy dz dB dC dD dE dF dG dH dI dJ dK dM dN dO:Value} (w':World) (sv:Value),w'.heap[A]?=some (.cells #[tv,sv,.int .i64 (schG l bad).2.1.1,.int .i64 (schG l bad).2.1.2.1,.int .i64 (schG l bad).2.1.2.2] 56 (0,0))->ThrAt L w'.heap.size w' tv p->w'.ownsRow L 3 1 sv (schG l bad).1.length (ints (schG l bad).1)->W.grownBy w' none->Q .ret ⟨#[z0,z1,.pointer (some ⟨A,0,none⟩),.bool (schG l bad).2.2,z4,z5,z6,z7,z8,z9,dd,dp,dA,dL,dP,dQ,dR,dS,dT,dU,dV,dW,dX,dY,dZ,d0,d1,d2,d3,d4,d5,d6,d7,d8,d9,ea,eb,ec,ed,ee,eg,eh,ei,ej,ek,el,em,en,eo,ep,er,es,et,eu,ev,ew,ex,ey,ez,eA,eC,eD,eE,eF,eG,eH,eI,eJ,eK,eL,eN,eO,eP,eQ,eR,eS,eT,eU,eV,eW,eY,eZ,e0,e1,e2,e3,e4,e5,e6,e7,e9,fa,fb,fc,fd,fe,ff,fg,fh,fi,de,df,dg,dh,di,dj,dk,dl,dm,dn,dq,dr,ds,dt,du,dv,dw,dx,dy,dz,dB,dC,dD,dE,dF,dG,dH,dI,dJ,dK,dM,dN,dO],[]⟩ w')):
  Code.wp Tryz.prog (tailOf Tryz.f71 20) Q ⟨#[c0,c1,.pointer (some ⟨A,0,none⟩),c3,.pointer (some ⟨b,0,none⟩),.pointer (some ⟨H,0,none⟩),c6,c7,c8,c9,aC,aN,aY,ba,be,bf,bg,bh,bi,bj,bk,bl,bm,bn,bo,bp,bq,br,bt,bu,bw,bx,bz,bA,bB,bC,bD,bE,bF,bG,bH,bI,bJ,bK,bL,bM,bN,bO,bP,bQ,bR,bS,bT,bU,bV,bW,bX,bY,bZ,b3,b4,b5,b6,b7,b8,b9,ca,cb,cc,cd,cf,cg,ch,ci,cj,ck,cl,cm,cn,co,cq,cr,ct,cu,cv,cw,cx,cy,cz,cA,cC,cD,cE,cF,cG,cH,cI,cJ,cK,cL,aD,aE,aF,aG,aH,aI,aJ,aK,aL,aM,aO,aP,aQ,aR,aS,aT,aU,aV,aW,aX,aZ,a0,a2,a3,a4,a5,a6,a7,a8,a9,bb,bc,bd],[]⟩ w:=by
 conv=>arg 2;whnf
 obtain⟨i0,cP,cW,cX,cY⟩:=info_parts ji;have X:∀ q,pt q= .pointer (some ⟨q,0,none⟩):=fun _=>rfl
 have I:=ij (kH w b s l bad 500 (by omega) HS.out.rd G);rw [X]at I;have am:=jm 500 l;have C:Hid (schG l bad=(let s:=runsG (numG 500 l).1 [] (numG 500 l).2.1 (bad || (numG 500 l).2.2);let a:=numG 5 s.2.1;let b:=numG 3 a.2.1;let c:=numG 500 b.2.1;((s.1,((a.1:Int),(b.1:Int),(c.1:Int)),!(s.2.2 || a.2.2 || b.2.2 || c.2.2)):List Int × (Int × Int × Int) × Bool))):=rfl;generalize schG l bad=SG at*;generalize numG 500 l=x at*;obtain⟨k0,l0,b0⟩:=x;simp only at am I C;generalize hR:runsG k0 [] l0 (bad || b0)=R at*;have HR:=ij hR;clear hR;have qk0:(k0:Int)<=500:=by omega
 go_wp2_with (go_at_call 98;refine I.out.mono ?_;clear I;rintro e w1 ⟨rfl,y,u⟩;have Y:=ij (HS.out.call y u);clear y u)
 go_loopw [11] (fun kv w'=>∃ (k:Nat) (sv:Value) (i:List Int) (h:List Nat) (r:Bool),k<=500/\kv= .int .i64 k/\Hid (i.length<=501)/\Hid (GuS W w' b H A L s h r tv sv (0,0,0) p i/\runsG k i h r=R)) (fun kv _=>(intOf kv).toNat)
 case atStart=>exact⟨k0,_,[],l0,bad || b0,am,rfl,ij (by simp),⟨Y.out,HR.out⟩⟩
 case round=>
  clear Y HR;obtain⟨k,sv,i,h,r,hk,rfl,aA,z⟩:=hrel;obtain⟨P,ao⟩:∃ P,P=wr:=⟨_,rfl⟩;rw [<-ao]at z ⊢;clear ao;have kb:=z.out.1.rd.bad;by_cases F:0<k/\r=false
  ·obtain⟨al,rfl⟩:=F;obtain⟨k,rfl⟩:∃ j,k=j+1:=⟨k - 1,by omega⟩;have t0:(0:Int)<((k+1:Nat):Int):=by omega
   have D:=ij (kH P b s h false 63 (by omega) z.out.1.rd G);rw [X]at D;have cU:=jm 63 h;have V:=jm 500 (numG 63 h).2.1;have U:Hid (runsG (k+1) i h false=runsG k (fillG (numG 500 (numG 63 h).2.1).1 (numG 63 h).1 i) (numG 500 (numG 63 h).2.1).2.1 ((numG 63 h).2.2 || (numG 500 (numG 63 h).2.1).2.2)):=rfl;generalize numG 63 h=x at*;obtain⟨t,l1,E⟩:=x;simp only at cU V D U;simp only [Bool.false_or]at D;have qt:(t:Int)<=63:=by omega
   go_upto_region 24 with (go_at_call 98;refine D.out.mono ?_;clear D;rintro e w3 ⟨rfl,y,u⟩;have S:=ij (z.out.1.call y u);clear y u)
   have J:=ij (kH w3 b s l1 E 500 (by omega) S.out.rd G);rw [X]at J;clear kb;generalize numG 500 l1=x at*;obtain⟨n,N,K⟩:=x;simp only at V J U;have qn:(n:Int)<=500:=by omega
   go_wp2_with (go_at_call 98;refine J.out.mono ?_;clear J;rintro e w4 ⟨rfl,y,u⟩;have Z:=ij (S.out.call y u);clear y u)
   go_loopw [13] (fun nv w'=>∃ (m:Nat) (aw:Value) (f:List Int),m<=500/\nv= .int .i64 m/\Hid (f.length<=501)/\Hid (GuS W w' b H A L s N (E || K) tv aw (0,0,0) p f/\fillG m t f=fillG n t i)) (fun nv _=>(intOf nv).toNat)
   case atStart=>exact⟨n,sv,i,V,rfl,aA,⟨Z.out,rfl⟩⟩
   case round=>
    clear Z S;obtain⟨m,aw,f,hm,rfl,ag,o⟩:=hrel;obtain⟨B,ap⟩:∃ B,B=wr:=⟨_,rfl⟩;rw [<-ap]at o ⊢;clear ap;obtain⟨_,a1,_,_,_,_⟩:=o.out.1.acell;have M:=o.out.1.row;obtain⟨y1,y2,y3,rfl⟩:=iw M;have cV:=iB M;subst cV;have az:=ij M;clear M;by_cases F:0<m/\f.length<=500
    ·obtain⟨cS,cQ⟩:=F;obtain⟨m,rfl⟩:∃ j,m=j+1:=⟨m - 1,by omega⟩;have O:(0:Int)<((m+1:Nat):Int):=by omega
     have t2:(f.length:Int)<=500:=by omega
     have ax:Hid (fillG m t (f++[(t:Int)])=fillG n t i):=by
      have:=o.out.2;rw [fillG,if_pos cQ]at this;exact this
     have ay:Hid ((f++[(t:Int)]).length<=501):=by unfold Hid;simp;omega
     have hbase:L<=B.heap.size:=by have:=o.out.1.ord;have:=o.out.1.lt;omega
     have cN:f.length+1<=maxLen:=by unfold maxLen;omega
     go_wp2_with (at_builtin;go_must (refine iE rfl _ _ _ rfl L 3 i0 _ 1 8 Tryz.underlying39 cP cW cX cY rfl (by omega) (.slice y1 f.length y3) f.length (ints f) rfl (iG az.out) ⟨B.heap.size,0,none⟩ 1 1 [.int .i64 (t:Int)] rfl rfl (World.news_of_block (cs:= #[.int .i64 (t:Int)]) (t:=3) (fr:=(0,0)) (heap_alloc_new B _)) (by simp [Value.oneCell']) (by omega) cN (by omega) (by simp;omega) (B.heap.size+1) (by simp) ?_);intro g8 cap8 w8 an ar cR;obtain⟨⟨p6,p7⟩,aq⟩:=o.out.1.push (t:=(t:Int)) rfl an ar;have aB:=ij aq;clear aq an ar cR)
     go_roundw
     case rel=>exact⟨m,_,f++[(t:Int)],by omega,by go_num,ay,⟨aB.out,ax.out⟩⟩
     case measure=>simp [intOf]<;>omega
    ·have aa:Hid (runsG k f N (E || K)=R):=by
      have h1:=z.out.2;have h2:=o.out.2;rw [U.out]at h1;have h3:fillG m (t:Int) f=f:=by
       by_cases e:f.length<=500
       ·have:m=0:=by omega
        rw [this];rfl
       ·exact tN _ _ _ e
      rw [h3]at h2;rw [h2];exact h1
     by_cases cS:0<m
     ·have O:(0:Int)<(m:Int):=by omega
      have t2:(500:Int)<(f.length:Int):=by omega
      go_wp2_with fail
      go_roundw
      case rel=>exact⟨k,_,f,N,E || K,by omega,by go_num,ag,⟨o.out.1,aa.out⟩⟩
      case measure=>simp [intOf]<;>omega
     ·have O:(m:Int)<=0:=by omega
      go_wp2_with fail
      go_roundw
      case rel=>exact⟨k,_,f,N,E || K,by omega,by go_num,ag,⟨o.out.1,aa.out⟩⟩
      case measure=>simp [intOf]<;>omega
  ·have ae:Hid (R=(i,h,r)):=by
    unfold Hid;rw [<-z.out.2];by_cases e:k=0
    ·rw [e];rfl
    ·have:r=true:=by
      cases r with
      | true=>rfl
      | false=>exact absurd ⟨by omega,rfl⟩ F
     rw [this];exact wX _ _ _
   rw [ae.out]at C;simp only at C;have ab:Hid (GuS W P b H A L s h r tv sv (0,0,0) p i):=z.out.1;have cT:=C.out;clear C;subst cT;simp only at T;clear ae;by_cases al:0<k
   ·have cO:r=true:=by
     cases r with
     | true=>rfl
     | false=>exact absurd ⟨al,rfl⟩ F
    subst cO;have O:(0:Int)<(k:Int):=by omega
    go_upto_if 92 with fail
    refine wp_cond_false rfl ?_;refine wp_exit ?_;refine ‹∀ a w,Code.wp Tryz.prog _ _ a w->_› _ _ ?_;exact Bs ab G ac T
   ·have O:(k:Int)<=0:=by omega
    go_upto_if 92 with fail
    refine wp_cond_false rfl ?_;refine wp_exit ?_;refine ‹∀ a w,Code.wp Tryz.prog _ _ a w->_› _ _ ?_;exact Bs ab G ac T
end
section
open Go.RowKit
theorem ThrAt.upto{L B:Nat}{w w':World}{tv:Value}{p:List (List Ins)}(h:ThrAt L B w tv p)(f:∀ k,L<=k->k<B->w'.heap[k]?=w.heap[k]?):ThrAt L B w' tv p:=by
 obtain⟨rows,c,d,l,m⟩:=h;refine⟨rows,iI c (fun g e=>f g (iA c g e) (d g e)),d,fun j hj=>?_,m⟩;obtain⟨rv,i,a,b⟩:=l j hj;exact⟨rv,i,iI a (fun g e=>f g (iA a g e) (b g e)),b⟩
structure GuB(W w:World)(b n5 n2 L B:Nat)(s:ByteArray)(l:List Nat)(bad:Bool)(tv:Value)(p:List (List Ins))(lv:Value)(c:List Ins):Prop where
 rd:RdG w b s l bad
 art:w.heap[n5]?=some (.cells #[tv,.slice none 0 0,.int .i64 0,.int .i64 0,.int .i64 0] 56 (0,0))
 res:w.heap[n2]?=some (.cells #[.slice none 0 0,.slice none 0 0,.int .i64 0,.int .i64 0,.int .i64 0] 56 (0,0))
 thr:ThrAt L B w tv p
 row:w.ownsRow B 65 4 lv c.length (insCells c)
 base:W.grownBy w none
 ord:W.heap.size<=n2/\n2<b/\b<n5/\L=n5+1/\L<=B/\B<=w.heap.size
section
variable {W w w' w6 : World} {b n5 n2 L B : Nat} {s : ByteArray} {l l' : List Nat} {bad bad' : Bool} {tv lv : Value} {p : List (List Ins)} {c : List Ins}
theorem GuB.step(h:GuB W w b n5 n2 L B s l bad tv p lv c)(m:RdG w' b s l' bad'){q:Nat}(a:w.grownBy w' (some q))(d:q=b\/(B<=q/\lv.ownBlock≠some q)):GuB W w' b n5 n2 L B s l' bad' tv p lv c:=by
 obtain⟨n,o,r,t,u,v⟩:=h.ord;have j:=(Array.getElem?_eq_some_iff.1 h.art).1;have i:=(Array.getElem?_eq_some_iff.1 h.res).1;have hlo:W.heap.size<=q:=by rcases d with e | e<;>omega
 refine⟨m,?_,?_,?_,?_,?_,n,o,r,t,u,Nat.le_trans v a.size⟩
 ·rw [a.block n5 j (by simp only [ne_eq,Option.some.injEq];rcases d with e | e<;>omega)];exact h.art
 ·rw [a.block n2 i (by simp only [ne_eq,Option.some.injEq];rcases d with e | e<;>omega)];exact h.res
 ·exact h.thr.upto (fun k h1 h2=>a.block k (by omega) (by simp only [ne_eq,Option.some.injEq];rcases d with e | e<;>omega))
 ·refine iI h.row (fun g e=>a.block g (iP h.row g e) ?_);simp only [ne_eq,Option.some.injEq];have:=iA h.row g e;rcases d with e1 | e1
  ·omega
  ·intro f;exact e1.2 (by rw [<-f];exact e)
 ·exact⟨a.os.trans h.base.os,a.tape.trans h.base.tape,a.output.trans h.base.output,Nat.le_trans h.base.size a.size,fun k hk _=>by
   rw [a.block k (Nat.lt_of_lt_of_le hk h.base.size) (fun e=>by simp only [Option.some.injEq]at e;omega)];exact h.base.block k hk (by simp)⟩
theorem GuB.call(h:GuB W w b n5 n2 L B s l bad tv p lv c)(hr:RdG w' b s l' bad')(hg:w.grownBy w' (some b)):GuB W w' b n5 n2 L B s l' bad' tv p lv c:=h.step hr hg (Or.inl rfl)
theorem GuB.made(h:GuB W w b n5 n2 L B s l bad tv p lv c)(o:Obj):GuB W (w.alloc o) b n5 n2 L B s l bad tv p lv c:=by
 obtain⟨k,e,_⟩:=h.rd;have a:=(Array.getElem?_eq_some_iff.1 e).1;exact h.call (h.rd.step (Below.heap_alloc _ _ _ a)) (iq (ir _ _))
theorem GuB.put(h:GuB W w b n5 n2 L B s l bad tv p lv c){a:Nat}(d:B<=a)(e:lv.ownBlock≠some a)(j:Nat)(x:Value):GuB W (w.setCell ⟨a,j,none⟩ x) b n5 n2 L B s l bad tv p lv c:=by
 obtain⟨o1,o2,o3,o4,o5,o6⟩:=h.ord;exact h.step (h.rd.step (Below.heap_setCell _ _ _ _ (by simp only;omega))) (ja w a j x) (Or.inr ⟨d,e⟩)
theorem GuS.begin(h:GuS W w b n5 n2 L s l bad tv (.slice none 0 0) (0,0,0) p []):GuB W (w.alloc (.cells #[] 65)) b n5 n2 L w.heap.size s l bad tv p (.slice (some ⟨w.heap.size,0,none⟩) 0 0) []:=by
 obtain⟨e,f,i,j⟩:=h.ord;obtain⟨a,c,d⟩:=h.lt;refine⟨h.rd.step (Below.heap_alloc _ _ _ a),?_,?_,h.thr.upto (fun k _ hk=>Below.heap_alloc _ _ _ hk),⟨rfl,Or.inr ⟨w.heap.size,0,#[],rfl,Nat.le_refl _,heap_alloc_new w _,Nat.le_refl _,by unfold maxLen;omega,rfl,rfl⟩⟩,iq h.base,e,f,i,j,by omega,by simp⟩
 ·rw [Below.heap_alloc _ _ _ c];exact h.art
 ·rw [Below.heap_alloc _ _ _ d];exact h.res
theorem GuB.push(h:GuB W w b n5 n2 L B s l bad tv p lv c){i:Ins}{o:Obj}{g6 c6 N:Nat}(m:N=c.length)
  (e:w6.ownsRow B 65 4 (.slice (some ⟨g6,0,none⟩) (N+1) c6) (N+1) (insCells c++[.int .i64 i.op,.int .i64 i.a,.int .i64 i.b,.int .i64 i.n]))
  (key:(lv.ownBlock=some g6/\(w.alloc o).grownBy w6 (some g6))\/(g6=w.heap.size+1/\(w.alloc o).grownBy w6 none)):
  GuB W w6 b n5 n2 L B s l bad tv p (.slice (some ⟨g6,0,none⟩) (N+1) c6) (c++[i]):=by
 subst m;obtain⟨v,x,y,z,A,o6⟩:=h.ord;have t:=(Array.getElem?_eq_some_iff.1 h.art).1;have r:=(Array.getElem?_eq_some_iff.1 h.res).1;have hB6:B<=g6:=iA e g6 rfl;have hgl:(w.alloc o).os=w.os/\(w.alloc o).tape=w.tape/\(w.alloc o).output=w.output:=⟨rfl,rfl,rfl⟩;have u:w.heap.size<=w6.heap.size:=by
  rcases key with ⟨_,hg⟩ | ⟨_,hg⟩<;>(have:=hg.size;simp at this;omega)
 have d:∀ k,k<w.heap.size->k<B->w6.heap[k]?=w.heap[k]?:=fun k hk hne=>by
  rcases key with ⟨_,hg⟩ | ⟨_,hg⟩
  ·rw [hg.block k (by simp;omega) (by simp;omega),Below.heap_alloc _ _ _ hk]
  ·rw [hg.block k (by simp;omega) (by simp),Below.heap_alloc _ _ _ hk]
 have q:W.grownBy w6 none:=by
  rcases key with ⟨_,hg⟩ | ⟨_,hg⟩<;>
  exact⟨hg.os.trans h.base.os,hg.tape.trans h.base.tape,hg.output.trans h.base.output,Nat.le_trans h.base.size u,fun k hk _=>by
    rw [d k (Nat.lt_of_lt_of_le hk h.base.size) (by omega)];exact h.base.block k hk (by simp)⟩
 refine⟨h.rd.step (d b (by omega) (by omega)),by rw [d n5 t (by omega)];exact h.art,by rw [d n2 r (by omega)];exact h.res,h.thr.upto (fun k _ hk=>d k (by omega) hk),?_,q,v,x,y,z,A,by omega⟩;have f:(c++[i]).length=c.length+1:=by simp
 have j:insCells (c++[i])=insCells c++[.int .i64 i.op,.int .i64 i.a,.int .i64 i.b,.int .i64 i.n]:=by rw [ma];rfl
 rw [f,j];exact e
theorem GuB.pushT(h:GuB W w b n5 n2 L B s l bad tv p lv c){o:Obj}{rows:List Value}{g6 c6 N:Nat}(n:N=p.length)(x:w.ownsRow L 66 1 tv N rows)
  (i:w6.ownsRow L 66 1 (.slice (some ⟨g6,0,none⟩) (N+1) c6) (N+1) (rows++[lv]))
  (key:(tv.ownBlock=some g6/\(w.alloc o).grownBy w6 (some g6))\/(g6=w.heap.size+1/\(w.alloc o).grownBy w6 none)):
  (w6.cell? ⟨n5,0,none⟩=some tv/\w6.frozen? ⟨n5,0,none⟩=false)/\GuS W (w6.setCell ⟨n5,0,none⟩ (.slice (some ⟨g6,0,none⟩) (N+1) c6)) b n5 n2 L s l bad (.slice (some ⟨g6,0,none⟩) (N+1) c6) (.slice none 0 0) (0,0,0) (p++[c]) []:=by
 subst n;obtain⟨z,A,C,D,E,F⟩:=h.ord;have v:=(Array.getElem?_eq_some_iff.1 h.art).1;have u:=(Array.getElem?_eq_some_iff.1 h.res).1;have hL6:L<=g6:=iA i g6 rfl;have m:w.heap.size<=w6.heap.size:=by
  rcases key with ⟨_,hg⟩ | ⟨_,hg⟩<;>(have:=hg.size;simp at this;omega)
 have d:∀ k,k<w.heap.size->k<L->w6.heap[k]?=w.heap[k]?:=fun k hk hne=>by
  rcases key with ⟨_,hg⟩ | ⟨_,hg⟩
  ·rw [hg.block k (by simp;omega) (by simp;omega),Below.heap_alloc _ _ _ hk]
  ·rw [hg.block k (by simp;omega) (by simp),Below.heap_alloc _ _ _ hk]
 have r:W.grownBy w6 none:=by
  rcases key with ⟨_,hg⟩ | ⟨_,hg⟩<;>
  exact⟨hg.os.trans h.base.os,hg.tape.trans h.base.tape,hg.output.trans h.base.output,Nat.le_trans h.base.size m,fun k hk _=>by
    rw [d k (Nat.lt_of_lt_of_le hk h.base.size) (by omega)];exact h.base.block k hk (by simp)⟩
 have t:(w.alloc o).grownBy w6 tv.ownBlock:=by
  rcases key with ⟨e,hg⟩ | ⟨_,hg⟩
  ·rw [e];exact hg
  ·exact⟨hg.os,hg.tape,hg.output,hg.size,fun k hk _=>hg.block k hk (by simp)⟩
 have y:ThrAt L w6.heap.size w6 (.slice (some ⟨g6,0,none⟩) (p.length+1) c6) (p++[c]):=
  ThrAt.snoc h.thr F (fun q e=>iA h.row q e) x ⟨iK h.row E,fun q e=>iP h.row q e⟩ (iq (ir _ _)) t i m (fun q e=>iP i q e)
 have f:w6.heap[n5]?=some (.cells #[tv,.slice none 0 0,.int .i64 0,.int .i64 0,.int .i64 0] 56 (0,0)):=by rw [d n5 v (by omega)];exact h.art
 have j:=ja w6 n5 0 (.slice (some ⟨g6,0,none⟩) (p.length+1) c6);refine⟨⟨by simp [World.cell?,f],by simp [World.frozen?,f]⟩,⟨?_,?_,?_,?_,⟨rfl,Or.inl ⟨rfl,rfl⟩⟩,iD r (by omega),z,A,C,D⟩⟩
 ·exact(h.rd.step (d b (by omega) (by omega))).step (Below.heap_setCell _ _ _ _ (by simp only;omega))
 ·rw [heap_setCell_same w6 n5 0 _ _ _ f];rfl
 ·rw [Below.heap_setCell _ _ _ _ (by simp only;omega),d n2 u (by omega)];exact h.res
 ·exact(y.step j (fun q e=>by simp only [Option.some.injEq]at e;omega)).mono j.size
end
end
section
open Go.RowKit
attribute [local go_sem] Go.World.cell?_alloc_some
theorem Am:((Tryz.prog.info? 66).map fun i=>(i.zero,i.size,i.bytes))=some (some (.slice none 0 0),1,24):=by kernel_rfl
theorem wI(k:Nat)(p:List (List Ins))(l:List Nat):progG k p l true=(p,l,true):=by cases k<;>rfl
theorem vC(k:Nat)(c:List Ins)(l:List Nat):codeG k c l true=(c,l,true):=by cases k<;>rfl
theorem kh{w:World}{g:Nat}{x0 x1 x2 x3:Value}{t:TypeId}(h:w.heap[g]?=some (.cells #[x0,x1,x2,x3] t (0,0))):w.cell? ⟨g,0,none⟩=some x0/\w.cell? ⟨g,1,none⟩=some x1/\w.cell? ⟨g,2,none⟩=some x2/\w.cell? ⟨g,3,none⟩=some x3/\∀ o,w.frozen? ⟨g,o,none⟩=false:=by
 simp [World.cell?,World.frozen?,h]
theorem Ag(s:ByteArray)(w:World)(O:s.size<=9223372036854775000):
  Calls Tryz.prog 71 #[.string s] w fun e w'=>∃ tv sv,e= .returned (.tuple #[.agg #[tv,sv,.int .i64 (guessG (byt s)).1.ver.1,.int .i64 (guessG (byt s)).1.ver.2.1,.int .i64 (guessG (byt s)).1.ver.2.2],.bool (guessG (byt s)).2])/\w.grownBy w' none/\ThrAt w.heap.size w'.heap.size w' tv (guessG (byt s)).1.prog/\w'.ownsRow w.heap.size 3 1 sv (guessG (byt s)).1.sch.length (ints (guessG (byt s)).1.sch):=by
 obtain⟨i0,bS,b4,b5,b6⟩:=info_parts su;obtain⟨i1,bT,b0,b3,aC⟩:=info_parts Am;have ac:∀ q,pt q= .pointer (some ⟨q,0,none⟩):=fun _=>rfl
 have W:Hid (guessG (byt s)=(⟨(progG (numG 4 ((byt s).drop 3)).1 [] (numG 4 ((byt s).drop 3)).2.1 (numG 4 ((byt s).drop 3)).2.2).1,(schG (progG (numG 4 ((byt s).drop 3)).1 [] (numG 4 ((byt s).drop 3)).2.1 (numG 4 ((byt s).drop 3)).2.2).2.1 (progG (numG 4 ((byt s).drop 3)).1 [] (numG 4 ((byt s).drop 3)).2.1 (numG 4 ((byt s).drop 3)).2.2).2.2).1,(schG (progG (numG 4 ((byt s).drop 3)).1 [] (numG 4 ((byt s).drop 3)).2.1 (numG 4 ((byt s).drop 3)).2.2).2.1 (progG (numG 4 ((byt s).drop 3)).1 [] (numG 4 ((byt s).drop 3)).2.1 (numG 4 ((byt s).drop 3)).2.2).2.2).2.1⟩,(schG (progG (numG 4 ((byt s).drop 3)).1 [] (numG 4 ((byt s).drop 3)).2.1 (numG 4 ((byt s).drop 3)).2.2).2.1 (progG (numG 4 ((byt s).drop 3)).1 [] (numG 4 ((byt s).drop 3)).2.1 (numG 4 ((byt s).drop 3)).2.2).2.2).2.2)):=rfl;generalize guessG (byt s)=GG at*;obtain⟨l0,aX⟩:∃ l,l=(byt s).drop 3:=⟨_,rfl⟩;rw [<-aX]at W;go_enter Tryz.func71,Tryz.ntmps71
 go_upto_region 3 with fail
 obtain⟨w1,aZ⟩:∃ w1,w1=((w.alloc (.cells #[.slice none 0 0,.slice none 0 0,.int .i64 0,.int .i64 0,.int .i64 0] 56)).alloc (.cells #[.string s,.int .i64 3,.bool false] 180)).alloc (.cells #[.slice none 0 0,.slice none 0 0,.int .i64 0,.int .i64 0,.int .i64 0] 56):=⟨_,rfl⟩;rw [<-aZ];have HS:Hid (GuS w w1 (w.heap.size+1) (w.heap.size+1+1) w.heap.size (w.heap.size+1+1+1) s l0 false (.slice none 0 0) (.slice none 0 0) (0,0,0) [] []):=by
  unfold Hid;rw [aZ];have e0:=heap_alloc_new w (.cells #[.slice none 0 0,.slice none 0 0,.int .i64 0,.int .i64 0,.int .i64 0] 56);have Z:=heap_alloc_new (w.alloc (.cells #[.slice none 0 0,.slice none 0 0,.int .i64 0,.int .i64 0,.int .i64 0] 56)) (.cells #[.string s,.int .i64 3,.bool false] 180);have e2:=heap_alloc_new ((w.alloc (.cells #[.slice none 0 0,.slice none 0 0,.int .i64 0,.int .i64 0,.int .i64 0] 56)).alloc (.cells #[.string s,.int .i64 3,.bool false] 180)) (.cells #[.slice none 0 0,.slice none 0 0,.int .i64 0,.int .i64 0,.int .i64 0] 56);simp only [World.size_alloc]at Z e2;refine⟨⟨3,?_,aX,by omega⟩,e2,?_,⟨[],⟨rfl,Or.inl ⟨rfl,rfl⟩⟩,fun h e=>(by cases e),fun j hj=>absurd hj (Nat.not_lt_zero j),Apt.nil⟩,⟨rfl,Or.inl ⟨rfl,rfl⟩⟩,iq (iq (iq (ir _ _))),by omega,by omega,by omega,by omega⟩
  ·rw [Below.heap_alloc _ _ _ (by simp)];exact Z
  ·rw [Below.heap_alloc _ _ _ (by simp;omega),Below.heap_alloc _ _ _ (by simp)];exact e0
 clear aZ aX;have bA:Hid (w.heap.size<=w.heap.size+1+1+1):=by unfold Hid;omega
 generalize hb:w.heap.size+1=b at*;generalize ck:b+1=n5 at*;generalize hL:n5+1=L at*;generalize bW:w.heap.size=n2 at*;have R:=ij bW;clear hb ck hL bW;have HK:=ij (kH w1 b s l0 false 4 (by omega) HS.out.rd O);rw [ac]at HK;have aW:=jm 4 l0;generalize numG 4 l0=x at*;obtain⟨k0,l1,b1⟩:=x;simp only [Bool.false_or]at aW HK W;generalize hP:progG k0 [] l1 b1=PP at*;have HP:=ij hP;clear hP;have qk0:(k0:Int)<=4:=by omega
 go_wp2_with (go_at_call 98;refine HK.out.mono ?_;clear HK;rintro e w2 ⟨rfl,C,u⟩;have H1:=ij (HS.out.call C u);clear C u)
 go_loopw [6] (fun kv w'=>∃ (k:Nat) (tv:Value) (p:List (List Ins)) (d:List Nat) (f:Bool),k<=4/\kv= .int .i64 k/\Hid (p.length+k<=4)/\Hid (GuS w w' b n5 n2 L s d f tv (.slice none 0 0) (0,0,0) p []/\progG k p d f=PP)) (fun kv _=>(intOf kv).toNat)
 case atStart=>exact⟨k0,_,[],l1,b1,aW,rfl,ij (by simpa using aW),⟨H1.out,HP.out⟩⟩
 case round=>
  clear H1 HP HS;obtain⟨k,tv,p,d,f,hk,rfl,bC,X⟩:=hrel;obtain⟨w3,bX⟩:∃ w3,w3=wr:=⟨_,rfl⟩;rw [<-bX]at X ⊢;clear bX;have kb:=X.out.1.rd.bad;by_cases aU:0<k/\f=false
  ·obtain⟨bU,rfl⟩:=aU;obtain⟨k,rfl⟩:∃ j,k=j+1:=⟨k - 1,by omega⟩;have t0:(0:Int)<((k+1:Nat):Int):=by omega
   have am:=ij X.out.1.begin;have bH:Hid (progG (k+1) p d false=progG k (p++[(codeG (numG 16 d).1 [] (numG 16 d).2.1 (numG 16 d).2.2).1]) (codeG (numG 16 d).1 [] (numG 16 d).2.1 (numG 16 d).2.2).2.1 (codeG (numG 16 d).1 [] (numG 16 d).2.1 (numG 16 d).2.2).2.2):=rfl;go_upto_region 7 with fail
   obtain⟨w4,bY⟩:∃ w4,w4=w3.alloc (.cells #[] 65):=⟨_,rfl⟩;rw [<-bY]at am ⊢;clear bY kb;generalize hB:w3.heap.size=B at*;clear hB;have HN:=ij (kH w4 b s d false 16 (by omega) am.out.rd O);rw [ac]at HN;have aY:=jm 16 d;generalize numG 16 d=x at*;obtain⟨n,l2,b2⟩:=x;simp only [Bool.false_or]at aY HN bH;generalize hC:codeG n [] l2 b2=CC at*;have HC:=ij hC;clear hC;have qn:(n:Int)<=16:=by omega
   go_wp2_with (go_at_call 98;refine HN.out.mono ?_;clear HN;rintro e w5 ⟨rfl,C,u⟩;have H5:=ij (am.out.call C u);clear C u)
   go_loopw [7,8] (fun lv mv w'=>∃ (m:Nat) (c:List Ins) (r:List Nat) (M:Bool),m<=16/\mv= .int .i64 m/\Hid (c.length+m<=16)/\Hid (GuB w w' b n5 n2 L B s r M tv p lv c/\codeG m c r M=CC)) (fun _ mv _=>(intOf mv).toNat)
   case atStart=>exact⟨n,[],l2,b2,aY,rfl,ij (by simpa using aY),⟨H5.out,HC.out⟩⟩
   case round=>
    clear H5 HC am;obtain⟨m,c,r,M,hm,rfl,an,E⟩:=hrel;obtain⟨w6,bZ⟩:∃ w6,w6=wr:=⟨_,rfl⟩;rw [<-bZ]at E ⊢;clear bZ;have kb:=E.out.1.rd.bad;have ah:=E.out.1.row;obtain⟨P,y2,Q,rfl⟩:=iw ah;have aC:=iB ah;subst aC;by_cases aV:0<m/\M=false
    ·obtain⟨bV,rfl⟩:=aV;obtain⟨m,rfl⟩:∃ j,m=j+1:=⟨m - 1,by omega⟩;have t1:(0:Int)<((m+1:Nat):Int):=by omega
     have bF:Hid (codeG (m+1) c r false=codeG m (c++[(insG r).1]) (insG r).2.1 (insG r).2.2):=rfl;have Y:Hid (insG r=(⟨((numG 11 r).1:Nat),((numG 3 (numG 11 r).2.1).1:Nat),((numG 3 (numG 3 (numG 11 r).2.1).2.1).1:Nat),zag (bigG 10 1 0 (numG 3 (numG 3 (numG 11 r).2.1).2.1).2.1).1⟩,(bigG 10 1 0 (numG 3 (numG 3 (numG 11 r).2.1).2.1).2.1).2.1,(numG 11 r).2.2 || (numG 3 (numG 11 r).2.1).2.2 || (numG 3 (numG 3 (numG 11 r).2.1).2.1).2.2 || (bigG 10 1 0 (numG 3 (numG 3 (numG 11 r).2.1).2.1).2.1).2.2)):=rfl;go_upto_region 11 with fail
     obtain⟨w7,aB⟩:∃ w7,w7=w6.alloc (.cells #[.int .i64 0,.int .i64 0,.int .i64 0,.int .i64 0] 65):=⟨_,rfl⟩;have bI:Hid (GuB w w7 b n5 n2 L B s r false tv p (.slice P c.length Q) c):=by unfold Hid;rw [aB];exact E.out.1.made _
     have bu:Hid (w7.heap[w6.heap.size]?=some (.cells #[.int .i64 0,.int .i64 0,.int .i64 0,.int .i64 0] 65 (0,0))):=by unfold Hid;rw [aB];exact heap_alloc_new w6 _
     have h9:B<=w6.heap.size:=E.out.1.ord.2.2.2.2.2;have ag:(Value.slice P c.length Q).ownBlock≠some w6.heap.size:=fun e=>by have:=iP ah _ e;omega
     have ay:w6.heap.size≠b:=by have:=E.out.1.ord;omega
     rw [<-aB];clear aB ah kb;generalize w6.heap.size=n9 at*;have aq:=ij (kH w7 b s r false 11 (by omega) bI.out.rd O);rw [ac]at aq;have co:=jm 11 r;generalize numG 11 r=x at*;obtain⟨y,l4,bo⟩:=x;simp only [Bool.false_or]at aq Y co;have qv1:(y:Int)<=11:=by omega
     go_upto_region 12 with (go_at_call 98;refine aq.out.mono ?_;clear aq;rintro e v1 ⟨rfl,C,u⟩;have hc:=bI.out.call C u;have A:v1.heap[n9]?=some (.cells #[.int .i64 0,.int .i64 0,.int .i64 0,.int .i64 0] 65 (0,0)):=(by rw [u.block n9 (Array.getElem?_eq_some_iff.1 bu.out).1 (by simp only [ne_eq,Option.some.injEq];exact ay)];exact bu.out);have J:=(kh A).1;have K:=(kh A).2.2.2.2 0;have bj:=ij hc;have bp:=ij A;clear C u hc A)
     have G:=bj.out.put h9 ag 0 (.int .i64 (y:Int));have F:=heap_setCell_same v1 n9 0 _ _ (.int .i64 (y:Int)) bp.out;generalize v1.setCell ⟨n9,0,none⟩ (.int .i64 (y:Int))=x1 at*;have bJ:=ij G;have bv:Hid (x1.heap[n9]?=some (.cells #[.int .i64 (y:Int),.int .i64 0,.int .i64 0,.int .i64 0] 65 (0,0))):=F;clear G F J K bj bp;have R:=ij (kH x1 b s l4 bo 3 (by omega) bJ.out.rd O);rw [ac]at R;have cp:=jm 3 l4;generalize numG 3 l4=x at*;obtain⟨z,l5,ba⟩:=x;simp only at R Y cp;have qv2:(z:Int)<=3:=by omega
     go_upto_region 13 with (go_at_call 98;refine R.out.mono ?_;clear R;rintro e v2 ⟨rfl,C,u⟩;have hc:=bJ.out.call C u;have A:v2.heap[n9]?=some (.cells #[.int .i64 (y:Int),.int .i64 0,.int .i64 0,.int .i64 0] 65 (0,0)):=(by rw [u.block n9 (Array.getElem?_eq_some_iff.1 bv.out).1 (by simp only [ne_eq,Option.some.injEq];exact ay)];exact bv.out);have J:=(kh A).2.1;have K:=(kh A).2.2.2.2 1;have bk:=ij hc;have bq:=ij A;clear C u hc A)
     have G:=bk.out.put h9 ag 1 (.int .i64 (z:Int));have F:=heap_setCell_same v2 n9 1 _ _ (.int .i64 (z:Int)) bq.out;generalize v2.setCell ⟨n9,1,none⟩ (.int .i64 (z:Int))=x2 at*;have bK:=ij G;have bw:Hid (x2.heap[n9]?=some (.cells #[.int .i64 (y:Int),.int .i64 (z:Int),.int .i64 0,.int .i64 0] 65 (0,0))):=F;clear G F J K bk bq;have ar:=ij (kH x2 b s l5 (bo || ba) 3 (by omega) bK.out.rd O);rw [ac]at ar;have cq:=jm 3 l5;generalize numG 3 l5=x at*;obtain⟨D,l6,bb⟩:=x;simp only at ar Y cq;have qv3:(D:Int)<=3:=by omega
     go_upto_region 14 with (go_at_call 98;refine ar.out.mono ?_;clear ar;rintro e v3 ⟨rfl,C,u⟩;have hc:=bK.out.call C u;have A:v3.heap[n9]?=some (.cells #[.int .i64 (y:Int),.int .i64 (z:Int),.int .i64 0,.int .i64 0] 65 (0,0)):=(by rw [u.block n9 (Array.getElem?_eq_some_iff.1 bw.out).1 (by simp only [ne_eq,Option.some.injEq];exact ay)];exact bw.out);have J:=(kh A).2.2.1;have K:=(kh A).2.2.2.2 2;have bl:=ij hc;have br:=ij A;clear C u hc A)
     have G:=bl.out.put h9 ag 2 (.int .i64 (D:Int));have F:=heap_setCell_same v3 n9 2 _ _ (.int .i64 (D:Int)) br.out;generalize v3.setCell ⟨n9,2,none⟩ (.int .i64 (D:Int))=x3 at*;have bL:=ij G;have bx:Hid (x3.heap[n9]?=some (.cells #[.int .i64 (y:Int),.int .i64 (z:Int),.int .i64 (D:Int),.int .i64 0] 65 (0,0))):=F;clear G F J K bl br;have au:=ij (Bq x3 b s l6 (bo || ba || bb) bL.out.rd O);rw [ac]at au;have ch:=nW 10 1 0 l6;generalize bigG 10 1 0 l6=x at*;obtain⟨o,l7,bn⟩:=x;simp only at au Y ch;have qn64:(o:Int)<18446744073709551616:=by omega
     go_upto_region 15 with (go_at_call 99;refine au.out.mono ?_;clear au;rintro e v4 ⟨rfl,C,u⟩;have hc:=bL.out.call C u;have A:v4.heap[n9]?=some (.cells #[.int .i64 (y:Int),.int .i64 (z:Int),.int .i64 (D:Int),.int .i64 0] 65 (0,0)):=(by rw [u.block n9 (Array.getElem?_eq_some_iff.1 bx.out).1 (by simp only [ne_eq,Option.some.injEq];exact ay)];exact bx.out);have bm:=ij hc;have aI:=ij A;clear C u hc A)
     obtain⟨_,_,_,J,p4⟩:=kh aI.out;have K:=p4 3;clear p4;go_upto_region 16 with fail
     have G:=bm.out.put h9 ag 3 (.int .i64 ((o:Int) / 2));have F:=heap_setCell_same v4 n9 3 _ _ (.int .i64 ((o:Int) / 2)) aI.out;generalize v4.setCell ⟨n9,3,none⟩ (.int .i64 ((o:Int) / 2))=x4 at*;have aw:=ij G;have aK:Hid (x4.heap[n9]?=some (.cells #[.int .i64 (y:Int),.int .i64 (z:Int),.int .i64 (D:Int),.int .i64 ((o:Int) / 2)] 65 (0,0))):=F;clear G F J K bm aI;by_cases ho:o % 2=1
     ·have hl:Int.tmod (o:Int) 2=1:=by rw [Int.tmod_eq_emod_of_nonneg (by omega)];omega
      have cj:(o:Int) % 2=1:=by omega
      have aO:Hid (zag o= -((o:Int) / 2) - 1):=by unfold Hid zag;rw [if_pos ho];omega
      clear ho;obtain⟨_,_,_,J,p4⟩:=kh aK.out;have K:=p4 3;clear p4;go_upto_region 18 with fail
      have G:=aw.out.put h9 ag 3 (.int .i64 (-((o:Int) / 2) - 1));have F:=heap_setCell_same x4 n9 3 _ _ (.int .i64 (-((o:Int) / 2) - 1)) aK.out;generalize x4.setCell ⟨n9,3,none⟩ (.int .i64 (-((o:Int) / 2) - 1))=x5 at*;have aN:=ij G;have cc:Hid (x5.heap[n9]?=some (.cells #[.int .i64 (y:Int),.int .i64 (z:Int),.int .i64 (D:Int),.int .i64 (-((o:Int) / 2) - 1)] 65 (0,0))):=F;clear G F J K;obtain⟨r0,r1,r2,r3,_⟩:=kh cc.out;have aL:=ij aN.out.row;have bR:B<=x5.heap.size:=aN.out.ord.2.2.2.2.2;have hcl:c.length<=15:=by have:=an.out;omega
      have ab:c.length+1<=maxLen:=by unfold maxLen;omega
      have aH:Hid (codeG m (c++[⟨(y:Int),(z:Int),(D:Int), -((o:Int) / 2) - 1⟩]) l7 (bo || ba || bb || bn)=CC):=by
       have N:=E.out.2;rw [bF.out,Y.out,aO.out]at N;exact N
      go_wp2_with (at_builtin;go_must (refine iE rfl _ _ _ rfl B 65 i0 _ 4 32 Tryz.underlying66 bS b4 b5 b6 rfl (by omega) (.slice P c.length Q) c.length (insCells c) rfl (iG aL.out) ⟨x5.heap.size,0,none⟩ 1 1 [.int .i64 (y:Int),.int .i64 (z:Int),.int .i64 (D:Int),.int .i64 (-((o:Int) / 2) - 1)] rfl rfl (World.news_of_block (cs:= #[.int .i64 (y:Int),.int .i64 (z:Int),.int .i64 (D:Int),.int .i64 (-((o:Int) / 2) - 1)]) (t:=65) (fr:=(0,0)) (heap_alloc_new x5 _)) (by simp [Value.oneCell']) (by omega) ab (by omega) (by simp;omega) (x5.heap.size+1) (by simp) ?_);intro g8 aP be H I V;have S:=ij (aN.out.push (i:=⟨(y:Int),(z:Int),(D:Int), -((o:Int) / 2) - 1⟩) rfl H I);clear H I V)
      go_roundw
      case rel=>exact⟨m,_,l7,_,by omega,by go_num,ij (by have:=an.out;simp;omega),⟨S.out,aH.out⟩⟩
      case measure=>simp [intOf]<;>omega
     ·have hl:Int.tmod (o:Int) 2=0:=by rw [Int.tmod_eq_emod_of_nonneg (by omega)];omega
      have cj:(o:Int) % 2=0:=by omega
      have aO:Hid (zag o=(o:Int) / 2):=by unfold Hid zag;rw [if_neg ho];omega
      clear ho;go_upto_region 18 with fail
      obtain⟨r0,r1,r2,r3,_⟩:=kh aK.out;have aL:=ij aw.out.row;have bR:B<=x4.heap.size:=aw.out.ord.2.2.2.2.2;have hcl:c.length<=15:=by have:=an.out;omega
      have ab:c.length+1<=maxLen:=by unfold maxLen;omega
      have aH:Hid (codeG m (c++[⟨(y:Int),(z:Int),(D:Int),(o:Int) / 2⟩]) l7 (bo || ba || bb || bn)=CC):=by
       have N:=E.out.2;rw [bF.out,Y.out,aO.out]at N;exact N
      go_wp2_with (at_builtin;go_must (refine iE rfl _ _ _ rfl B 65 i0 _ 4 32 Tryz.underlying66 bS b4 b5 b6 rfl (by omega) (.slice P c.length Q) c.length (insCells c) rfl (iG aL.out) ⟨x4.heap.size,0,none⟩ 1 1 [.int .i64 (y:Int),.int .i64 (z:Int),.int .i64 (D:Int),.int .i64 ((o:Int) / 2)] rfl rfl (World.news_of_block (cs:= #[.int .i64 (y:Int),.int .i64 (z:Int),.int .i64 (D:Int),.int .i64 ((o:Int) / 2)]) (t:=65) (fr:=(0,0)) (heap_alloc_new x4 _)) (by simp [Value.oneCell']) (by omega) ab (by omega) (by simp;omega) (x4.heap.size+1) (by simp) ?_);intro g8 aP be H I V;have S:=ij (aw.out.push (i:=⟨(y:Int),(z:Int),(D:Int),(o:Int) / 2⟩) rfl H I);clear H I V)
      go_roundw
      case rel=>exact⟨m,_,l7,_,by omega,by go_num,ij (by have:=an.out;simp;omega),⟨S.out,aH.out⟩⟩
      case measure=>simp [intOf]<;>omega
    ·have cb:Hid (CC=(c,r,M)):=by
      unfold Hid;rw [<-E.out.2];by_cases e:m=0
      ·rw [e];rfl
      ·have:M=true:=by
        cases M with
        | true=>rfl
        | false=>exact absurd ⟨by omega,rfl⟩ aV
       rw [this];exact vC _ _ _
     have bE:Hid (progG k (p++[c]) r M=PP):=by
      have N:=X.out.2;rw [bH.out,cb.out]at N;exact N
     have bD:Hid ((p++[c]).length+k<=4):=by have:=bC.out;unfold Hid;simp;omega
     obtain⟨rows,aA,cm,cn⟩:=E.out.1.thr;obtain⟨q1,q2,q3,rfl⟩:=iw aA;have cl:=iB aA;subst cl;have av:=ij aA;have a0:w6.cell? ⟨n5,0,none⟩=some (.slice q1 p.length q3):=by simp [World.cell?,E.out.1.art]
     have bR:L<=w6.heap.size:=by have:=E.out.1.ord;omega
     have hp4:p.length<=4:=by have:=bC.out;omega
     have ab:p.length+1<=maxLen:=by unfold maxLen;omega
     clear ah aA cm cn;by_cases bV:0<m
     ·have aT:M=true:=by
       cases M with
       | true=>rfl
       | false=>exact absurd ⟨bV,rfl⟩ aV
      subst aT;have t1:(0:Int)<(m:Int):=by omega
      go_wp2_with (at_builtin;go_must (refine iE rfl _ _ _ rfl L 66 i1 _ 1 24 Tryz.underlying35 bT b0 b3 aC rfl (by omega) (.slice q1 p.length q3) p.length rows rfl (iG av.out) ⟨w6.heap.size,0,none⟩ 1 1 [.slice P c.length Q] rfl rfl (World.news_of_block (cs:= #[.slice P c.length Q]) (t:=66) (fr:=(0,0)) (heap_alloc_new w6 _)) (by simp [Value.oneCell']) (by omega) ab (by omega) (by simp;omega) (w6.heap.size+1) (by simp) ?_);intro g8 aP be H I V;obtain⟨⟨J,K⟩,ai⟩:=E.out.1.pushT rfl av.out H I;have S:=ij ai;clear ai H I V)
      go_roundw
      case rel=>exact⟨k,_,p++[c],r,_,by omega,by go_num,bD,⟨S.out,bE.out⟩⟩
      case measure=>simp [intOf]<;>omega
     ·skip
      have t1:(m:Int)<=0:=by omega
      go_wp2_with (at_builtin;go_must (refine iE rfl _ _ _ rfl L 66 i1 _ 1 24 Tryz.underlying35 bT b0 b3 aC rfl (by omega) (.slice q1 p.length q3) p.length rows rfl (iG av.out) ⟨w6.heap.size,0,none⟩ 1 1 [.slice P c.length Q] rfl rfl (World.news_of_block (cs:= #[.slice P c.length Q]) (t:=66) (fr:=(0,0)) (heap_alloc_new w6 _)) (by simp [Value.oneCell']) (by omega) ab (by omega) (by simp;omega) (w6.heap.size+1) (by simp) ?_);intro g8 aP be H I V;obtain⟨⟨J,K⟩,ai⟩:=E.out.1.pushT rfl av.out H I;have S:=ij ai;clear ai H I V)
      go_roundw
      case rel=>exact⟨k,_,p++[c],r,_,by omega,by go_num,bD,⟨S.out,bE.out⟩⟩
      case measure=>simp [intOf]<;>omega
  ·have bG:Hid (PP=(p,d,f)):=by
    unfold Hid;rw [<-X.out.2];by_cases e:k=0
    ·rw [e];rfl
    ·have:f=true:=by
      cases f with
      | true=>rfl
      | false=>exact absurd ⟨by omega,rfl⟩ aU
     rw [this];exact wI _ _ _
   rw [bG.out]at W;simp only at W;have bz:Hid (GuS w w3 b n5 n2 L s d f tv (.slice none 0 0) (0,0,0) p []):=X.out.1;have bt:Hid (∀ (w':World) (sv:Value),w'.heap[n2]?=some (.cells #[tv,sv,.int .i64 (schG d f).2.1.1,.int .i64 (schG d f).2.1.2.1,.int .i64 (schG d f).2.1.2.2] 56 (0,0))->ThrAt L w'.heap.size w' tv p->w'.ownsRow L 3 1 sv (schG d f).1.length (ints (schG d f).1)->w.grownBy w' none->∀ a,a=Ending.returned (.tuple #[.agg #[tv,sv,.int .i64 (schG d f).2.1.1,.int .i64 (schG d f).2.1.2.1,.int .i64 (schG d f).2.1.2.2],.bool (schG d f).2.2])->∃ tv sv,a= .returned (.tuple #[.agg #[tv,sv,.int .i64 GG.1.ver.1,.int .i64 GG.1.ver.2.1,.int .i64 GG.1.ver.2.2],.bool GG.2])/\w.grownBy w' none/\ThrAt w.heap.size w'.heap.size w' tv GG.1.prog/\w'.ownsRow w.heap.size 3 1 sv GG.1.sch.length (ints GG.1.sch)):=by
    intro w' sv g1 g2 T U a ha;rw [W.out];exact⟨tv,sv,ha,U,g2.low (by rw [R.out];exact bA.out),iK T (by rw [R.out];exact bA.out)⟩
   clear W bG;by_cases bU:0<k
   ·have aT:f=true:=by
     cases f with
     | true=>rfl
     | false=>exact absurd ⟨bU,rfl⟩ aU
    subst aT;have t1:(0:Int)<(k:Int):=by omega
    go_upto_if 28 with fail
    refine wp_cond_false rfl ?_;refine wp_exit ?_;refine ‹∀ a w,Code.wp Tryz.prog _ _ a w->_› _ _ ?_;refine yd bz O ?_ ?_
    ·exact fun _ _ _ _ _ h=>h
    intro z0 z1 z4 z5 z6 z7 z8 z9 cx cI cT c6 da db dc dd de df dg dh di dj dk dl dm dn dp dq dr ds dt du dv dw dx dy dz dA dC dD dE dF dG dH dI dJ dK dL dN dO dP dQ dR dS dT dU dV dW dY dZ d0 d1 d2 d3 d4 d5 d6 d7 d9 ea eb ec ed ee ef eg eh ei ek el em en eo ep eq er es et ev ew ex ey ez eA eB eC eD eE cy cz cA cB cC cD cE cF cG cH cJ cK cL cM cN cO cP cQ cR cS cU cV cW cX cY cZ c2 c3 c4 c5 c7 c8 c9 w' sv g1 g2 T U;have e0:w'.cell? ⟨n2,0,none⟩=some tv:=by simp only [World.cell?,g1];rfl
    have Z:w'.cell? ⟨n2,1,none⟩=some sv:=by simp only [World.cell?,g1];rfl
    have e2:w'.cell? ⟨n2,2,none⟩=some (.int .i64 (schG d true).2.1.1):=by simp only [World.cell?,g1];rfl
    have e3:w'.cell? ⟨n2,3,none⟩=some (.int .i64 (schG d true).2.1.2.1):=by simp only [World.cell?,g1];rfl
    have e4:w'.cell? ⟨n2,4,none⟩=some (.int .i64 (schG d true).2.1.2.2):=by simp only [World.cell?,g1];rfl
    have HF:=ij (bt.out w' sv g1 g2 T U _ rfl);clear g1 g2 T U;refine bodyPost_ret (v:= .tuple #[.agg #[tv,sv,.int .i64 (schG d true).2.1.1,.int .i64 (schG d true).2.1.2.1,.int .i64 (schG d true).2.1.2.2],.bool (schG d true).2.2]) ?_ rfl HF.out;simp [results,Tryz.results71,go_sem,e0,Z,e2,e3,e4]
   ·have t1:(k:Int)<=0:=by omega
    go_upto_if 28 with fail
    refine wp_cond_false rfl ?_;refine wp_exit ?_;refine ‹∀ a w,Code.wp Tryz.prog _ _ a w->_› _ _ ?_;refine yd bz O ?_ ?_
    ·exact fun _ _ _ _ _ h=>h
    intro z0 z1 z4 z5 z6 z7 z8 z9 cx cI cT c6 da db dc dd de df dg dh di dj dk dl dm dn dp dq dr ds dt du dv dw dx dy dz dA dC dD dE dF dG dH dI dJ dK dL dN dO dP dQ dR dS dT dU dV dW dY dZ d0 d1 d2 d3 d4 d5 d6 d7 d9 ea eb ec ed ee ef eg eh ei ek el em en eo ep eq er es et ev ew ex ey ez eA eB eC eD eE cy cz cA cB cC cD cE cF cG cH cJ cK cL cM cN cO cP cQ cR cS cU cV cW cX cY cZ c2 c3 c4 c5 c7 c8 c9 w' sv g1 g2 T U;have e0:w'.cell? ⟨n2,0,none⟩=some tv:=by simp only [World.cell?,g1];rfl
    have Z:w'.cell? ⟨n2,1,none⟩=some sv:=by simp only [World.cell?,g1];rfl
    have e2:w'.cell? ⟨n2,2,none⟩=some (.int .i64 (schG d f).2.1.1):=by simp only [World.cell?,g1];rfl
    have e3:w'.cell? ⟨n2,3,none⟩=some (.int .i64 (schG d f).2.1.2.1):=by simp only [World.cell?,g1];rfl
    have e4:w'.cell? ⟨n2,4,none⟩=some (.int .i64 (schG d f).2.1.2.2):=by simp only [World.cell?,g1];rfl
    have HF:=ij (bt.out w' sv g1 g2 T U _ rfl);clear g1 g2 T U;refine bodyPost_ret (v:= .tuple #[.agg #[tv,sv,.int .i64 (schG d f).2.1.1,.int .i64 (schG d f).2.1.2.1,.int .i64 (schG d f).2.1.2.2],.bool (schG d f).2.2]) ?_ rfl HF.out;simp [results,Tryz.results71,go_sem,e0,Z,e2,e3,e4]
end
end Go.Proofs.YtklenjmfalljgabGreatDoor
