/- The texts Rfo Rfn Fhh Fhi Frq Svd Fhj Rfp Rfq Hgo Hgp Ins Prg Prg2 Apn Cut Cct Sho Fld. -/
import Derived.Test.YtklenjmfalljgabGreatDoorMF
import Derived.BigQuiet
import Derived.Deep.QuietTactic
import Derived.Deep.AppendLies
import Derived.Maps.AppendAt
import Derived.Deep.DeepCutAuto
import Derived.Lib.AppendZeros
namespace Go.Proofs.YtklenjmfalljgabGreatDoor
set_option maxRecDepth 100000
set_option maxHeartbeats 8000000
section
open Go.RowKit
attribute [local go_sem] Go.World.cell?_alloc_some
structure Cc(W w':World)(v:Value)(L:List Int):Prop where
 row:w'.ownsRow W.heap.size 3 1 v L.length(iI L)
 gr:W.grownBy w' none
theorem E8 {p:List(List Ins)} {xs:List Ev}(h500:xs.length<=500) {W:World} {b gl gc sc:Nat} {aY:Option Addr}(a7:W.cell?⟨b,10,none⟩=some(.slice aY xs.length sc))
  (HL:Hid(∀ i,i<xs.length->∃ g ae th,(jt p xs)[i]?=some(ae,th)/\aY=some⟨g,0,none⟩/\W.cell?⟨gl,i,none⟩=some(.int .i64(ae:Int))/\W.cell?⟨g,i*2,none⟩=some(.int .i64(th:Int))/\ae<=500/\th<4))
  {Q:Exit->Act->World->Prop} {c1 c2 c5 c6 c7 c8 c9 cN dq be df bk cb dM dO dr cH cK en b3 bN bL dG bY dI b4 et dv dd d5 bU d8 d7 cI cn cZ cS dL cD b2 eo ds ch dQ bJ dt bK cV bS br c4 ei ce dK bD cX ej ee da er cR ct dw dc bF dJ dV cg ef ci cB cG bx cy b7 bd cp cz bt eh cF cA eg b9 bR bZ cY dY b0 bo ca b5 db cQ cT bG cc aq aK ah aH aV aC aM aN ay aQ aE av aD aS aA ai aO:Value}
  (HQ:Hid(∀ {z0 z1 z3 z4 z5 z6 z7 z8 z9 bB bn bC cd cM d4 cr co dy bP bM du ba d6 es b8 ed dp bu dE b6 cx cE bb dH bc bX bi dx dC dB bQ d0 dj ck dZ dR bh eu bT bw dn dX cf dF cU bV dh cv bv cJ cC dk cm bp d9 ep bz dT bq cW eb cO dl cw dW ec bW bI dP cu eq dA dm bj ea bH dU cP bg cj c3 em b1 de bO dN cl bl bA au aL aB aU az aT aG ak aR ar aw al aj am aJ aI ax:Value}(v:Value)(w':World),Cc W w' v(nD(jS xs.length(jt p xs)))->Q .ret⟨#[z0,z1,v,z3,z4,z5,z6,z7,z8,z9,bB,bn,bC,cd,cM,d4,cr,co,dy,bP,bM,du,ba,d6,es,b8,ed,dp,bu,dE,b6,cx,cE,bb,dH,bc,bX,bi,dx,dC,dB,bQ,d0,dj,ck,dZ,dR,bh,eu,bT,bw,dn,dX,cf,dF,cU,bV,dh,cv,bv,cJ,cC,dk,cm,bp,d9,ep,bz,dT,bq,cW,eb,cO,dl,cw,dW,ec,bW,bI,dP,cu,eq,dA,dm,bj,ea,bH,dU,cP,bg,cj,c3,em,b1,de,bO,dN,cl,bl,bA,au,aL,aB,aU,az,aT,aG,ak,aR,ar,aw,al,aj,am,aJ,aI,ax], []⟩w')):
  Code.wp Tryz.prog(oU Tryz.f57 14)Q⟨#[.pointer(some⟨b,0,none⟩),c1,c2, .int .i64(xs.length:Int), .slice(some⟨gl,0,none⟩)xs.length gc,c5,c6,c7,c8,c9,cN,dq,be,df,bk,cb,dM,dO,dr,cH,cK,en,b3,bN,bL,dG,bY,dI,b4,et,dv,dd,d5,bU,d8,d7,cI,cn,cZ,cS,dL,cD,b2,eo,ds,ch,dQ,bJ,dt,bK,cV,bS,br,c4,ei,ce,dK,bD,cX,ej,ee,da,er,cR,ct,dw,dc,bF,dJ,dV,cg,ef,ci,cB,cG,bx,cy,b7,bd,cp,cz,bt,eh,cF,cA,eg,b9,bR,bZ,cY,dY,b0,bo,ca,b5,db,cQ,cT,bG,cc,aq,aK,ah,aH,aV,aC,aM,aN,ay,aQ,aE,av,aD,aS,aA,ai,aO], []⟩W:=by
 conv=>arg 2;whnf
 obtain⟨i0,ek,dz,dD,di⟩:=info_parts rK;have q0:(xs.length:Int)<=500:=by omega
 have q1:(0:Int)<=(xs.length:Int):=by omega
 have a5:=rG p xs;have a6:=hZ a5;have bf:=hZ(fun l t i hl ht=>Et(jt p xs)l t i hl ht(by omega));have H0:Hid(Cc W W(.slice none 0 0)(nD(kZ(jt p xs)0 0 0))):=⟨by rw [Bu];exact⟨rfl,Or.inl⟨rfl,rfl⟩⟩,il _ _⟩;have ap:=hZ a7;clear a5 a7;go_wp2_with fail
 go_loopw [8,9](fun ov lv w'=>∃ l:Nat,l<=xs.length/\lv= .int .i64 l/\Hid(Cc W w' ov(nD(kZ(jt p xs)l 0 0))))(fun _ lv _=>xs.length - (intOf lv).toNat)
 case atStart=>exact⟨0,Nat.zero_le _,rfl,H0⟩
 case round=>
  clear H0;obtain⟨l,hl,rfl,HI⟩:=hrel;obtain⟨w1,a2⟩:∃ w1,w1=wr:=⟨_,rfl⟩;rw [<-a2]at HI ⊢;clear a2;by_cases hlt:l<xs.length
  ·have t0:(0:Int)<=(l:Int):=by omega
   have t1:(l:Int)<xs.length:=by omega
   go_wp2_with fail
   go_loopw [8,10](fun ov tv w'=>∃ t:Nat,t<=4/\tv= .int .i64 t/\Hid(Cc W w' ov(nD(kZ(jt p xs)l t 0))))(fun _ tv _=>4 - (intOf tv).toNat)
   case atStart=>exact⟨0,Nat.zero_le _,rfl,HI⟩
   case round=>
    clear HI;obtain⟨t,ht,rfl,HT⟩:=hrel;obtain⟨w2,aZ⟩:∃ w2,w2=wr:=⟨_,rfl⟩;rw [<-aZ]at HT ⊢;clear aZ;by_cases htl:t<4
    ·have t2:(t:Int)<4:=by omega
     go_wp2_with fail
     go_loopw [8,11](fun ov iv w'=>∃ i:Nat,i<=xs.length/\iv= .int .i64 i/\Hid(Cc W w' ov(nD(kZ(jt p xs)l t i))))(fun _ iv _=>xs.length - (intOf iv).toNat)
     case atStart=>exact⟨0,Nat.zero_le _,rfl,HT⟩
     case round=>
      clear HT;obtain⟨i,hi,rfl,HJ⟩:=hrel;obtain⟨w3,a9⟩:∃ w3,w3=wr:=⟨_,rfl⟩;rw [<-a9]at HJ ⊢;clear a9;by_cases bE:i<xs.length
      ·have t3:(0:Int)<=(i:Int):=by omega
       have t4:(i:Int)<xs.length:=by omega
       obtain⟨g,ae,th,hk,dg,a0,a8,aF,aW⟩:=HL.out i bE;subst dg;have d1:=ie HJ.out.gr _ _ a0;have d2:=ie HJ.out.gr _ _ a8;have d3:=ie HJ.out.gr _ _ ap.out;have a3:i<(jt p xs).length:=by have:=a6.out;omega
       have a1:(jt p xs)[i]=(ae,th):=by rw [List.getElem?_eq_getElem a3]at hk;simpa using hk
       have HN:=hZ(CX(jt p xs)l t i a3);rw [a1]at HN;clear hk a1 a0 a8;obtain⟨ao,an,ac,cq⟩:=iq HJ.out.row;subst cq;have bm:=iy HJ.out.row;subst bm;by_cases e1:ae=l
       ·by_cases e2:th=t
        ·have ad:nD(kZ(jt p xs)l t(i+1))=nD(kZ(jt p xs)l t i)++ [(t:Int)]:=by rw [HN.out,e1,e2];simp
         have ag:=hZ ad;have af:=bf.out l t i(by omega)(by omega);have hle2:(nD(kZ(jt p xs)l t i)).length<=2000000:=by unfold nD;rw [List.length_map];exact af
         have cL:(nD(kZ(jt p xs)l t i)).length+1<=maxLen:=by unfold maxLen;omega
         have hsz:W.heap.size<=w3.heap.size:=HJ.out.gr.size;rw [e1]at d1;rw [e2]at d2;clear HN ad af e1 e2 aF aW;go_wp2_with(at_builtin;refine wpList_append_lies _ rfl _ _ _ rfl W.heap.size 3 i0 _ 1 8 Tryz.underlying39 ek dz dD di rfl(by omega)(.slice ao(nD(kZ(jt p xs)l t i)).length ac)(nD(kZ(jt p xs)l t i)).length(iI(nD(kZ(jt p xs)l t i)))rfl(iG HJ.out.row)⟨w3.heap.size,0,none⟩1 1 [.int .i64(t:Int)]rfl rfl(World.news_of_block(cs:= #[.int .i64(t:Int)])(t:=3)(fr:=(0,0))(heap_alloc_new w3 _))(by simp [Value.oneCell'])(by omega)cL(by omega)(by simp;omega)(w3.heap.size+1)(by simp) ?_;intro g8 cap8 w8 ab aa aP aX;have el:=hZ ab;have dS:Hid(W.grownBy w8 none):=jD(ij HJ.out.gr)aa(fun q e=>iw HJ.out.row q e);clear ab aa aP aX)
         go_roundw
         case rel=>exact⟨i+1,by omega,by go_num,⟨by rw [ag.out,List.length_append];simpa [iI]using el.out,dS.out⟩⟩
         case measure=>simp [intOf];omega
        ·have ad:nD(kZ(jt p xs)l t(i+1))=nD(kZ(jt p xs)l t i):=by rw [HN.out];simp [e2]
         have ag:=hZ ad;have e2':((th:Int)==(t:Int))=false:=by simp;omega
         rw [e1]at d1;clear HN ad e1 e2 aF aW;go_wp2_with fail
         go_roundw
         case rel=>exact⟨i+1,by omega,by go_num,by rw [ag.out];exact HJ.out⟩
         case measure=>simp [intOf];omega
       ·have ad:nD(kZ(jt p xs)l t(i+1))=nD(kZ(jt p xs)l t i):=by rw [HN.out];simp [e1]
        have ag:=hZ ad;have e1':((ae:Int)==(l:Int))=false:=by simp;omega
        clear HN ad e1 aF aW;go_wp2_with fail
        go_roundw
        case rel=>exact⟨i+1,by omega,by go_num,by rw [ag.out];exact HJ.out⟩
        case measure=>simp [intOf];omega
      ·have t4:(xs.length:Int)<=(i:Int):=by omega
       have HE:Hid(kZ(jt p xs)l t i=kZ(jt p xs)l(t+1)0):=xM _ _ _ _(by rw [a6.out];omega);go_wp2_with fail
       go_roundw
       case rel=>exact⟨t+1,by omega,by go_num,by rw [<-HE.out];exact HJ.out⟩
       case measure=>simp [intOf];omega
    ·have t2:(4:Int)<=(t:Int):=by omega
     have a4:t=4:=by omega
     have HE:Hid(kZ(jt p xs)l t 0=kZ(jt p xs)(l+1)0 0):=by unfold Hid;rw [a4];exact zd _ _
     clear a4;go_wp2_with fail
     go_roundw
     case rel=>exact⟨l+1,by omega,by go_num,by rw [<-HE.out];exact HT.out⟩
     case measure=>simp [intOf];omega
  ·have t1:(xs.length:Int)<=(l:Int):=by omega
   have af:l=xs.length:=by omega
   have HE:Hid(kZ(jt p xs)l 0 0=jS xs.length(jt p xs)):=by unfold Hid;rw [af];exact Ds _ _
   clear af;go_wp2_with fail
   exact HQ.out _ _(by rw [<-HE.out];exact HI.out)
end
section
open Go.RowKit
attribute [local go_sem] Go.World.cell?_alloc_some
structure RunRead(w:World)(b:Nat)(p:List(List Ins))(xs:List Ev)(o:Out)(ao:Option Addr)(cap:Nat)(sao:Option Addr)(sc:Nat):Prop where
 prog:ProgAt w(.agg #[.slice ao p.length cap])p
 c0:w.cell?⟨b,0,none⟩=some(.slice ao p.length cap)
 c10:w.cell?⟨b,10,none⟩=some(.slice sao xs.length sc)
 c11:w.cell?⟨b,11,none⟩=some(.int .i64 o.kind)
 row:∃ base,w.ownsRow base 76 2(.slice sao xs.length sc)xs.length(iO o.steps)
theorem RunRead.grown {w w':World} {b:Nat} {p:List(List Ins)} {xs:List Ev} {o:Out} {ao:Option Addr} {aa:Nat} {ab:Option Addr} {sc:Nat}(h:RunRead w b p xs o ao aa ab sc)(hg:w.grownBy w' none):RunRead w' b p xs o ao aa ab sc:=by
 obtain⟨base,hr⟩:=h.row;exact⟨h.prog.pres(ie hg),ie hg _ _ h.c0,ie hg _ _ h.c10,ie hg _ _ h.c11,base,iA hr hg(fun _ e=>by cases e)⟩
theorem sy {w w':World}(h:w.drew.grownBy w' none):w.grownBy w' none:=⟨h.os,h.tape,h.output,h.size,h.block⟩
theorem ry {w:World}(n:Nat):w.grownBy(w.drewN n)none:=iH(by have:=lq w n;exact this)
def ul(L:List Nat)(n:Nat):List Value:=L.map(fun x:Nat=>Value.int .i64(x:Int))++List.replicate(n - L.length)(Value.int .i64 0)
theorem By(L:List Nat)(n:Nat)(h:L.length<n):ul(L++ [0])n=ul L n:=by
 unfold ul;have e:n - L.length=(n - (L++ [0]).length)+1:=by simp;omega
 rw [e,List.replicate_succ];simp
theorem xH(L:List Nat)(x y n:Nat):(ul(L++ [x])n).set L.length(.int .i64(y:Int))=ul(L++ [y])n:=by
 unfold ul;have e:(L++ [x]).length=(L++ [y]).length:=by simp
 rw [e];simp
theorem sM(L:List Nat)(n k:Nat)(h:k<L.length):(ul L n)[k]?=some(.int .i64(L[k]:Int)):=by
 unfold ul;rw [List.getElem?_append_left(by simpa using h)];simp [h]
structure LyIn(W w':World)(gl n:Nat)(L:List Nat):Prop where
 row:w'.heap[gl]?=some(.cells(ul L n).toArray 3(0,0))
 gr:W.grownBy w'(some gl)
theorem LyIn.grown {W w w':World} {gl n:Nat} {L:List Nat}(h:LyIn W w gl n L)(hg:w.grownBy w' none):LyIn W w' gl n L:=
 ⟨by rw [hg.block _(Array.getElem?_eq_some_iff.1 h.row).1(by simp)];exact h.row,ic h.gr(lX hg)⟩
theorem vI {W w:World} {gl o:Nat} {u:Value}(h:W.grownBy w(some gl)):W.grownBy(w.setCell⟨gl,o,none⟩u)(some gl):=
 ⟨h.os,h.tape,h.output,by simpa using h.size,fun k hk hr=>by rw [Below.heap_setCell _ _ _ _(by simpa using hr)];exact h.block k hk hr⟩
theorem LyIn.put {W w:World} {gl n i:Nat} {L:List Nat} {x:Nat}(h:LyIn W w gl n(L++ [x]))(hi:L.length=i)(y:Nat)(z:Int)(hz:z=(y:Int)):LyIn W(w.setCell⟨gl,i,none⟩(.int .i64 z))gl n(L++ [y]):=by
 subst hi hz;refine⟨?_,vI h.gr⟩;rw [heap_setCell_same w gl L.length _ _ _ h.row,<-xH L x y n];simp
theorem rh {p:List(List Ins)} {o:Out} {xs:List Ev}(hp:iR p=true)(a7:sf p o xs)(az:xs.length<=500)(w:World)(b:Nat)(ao:Option Addr)(ay:Nat)(a4:Option Addr)(sc:Nat)(hR:RunRead w b p xs o ao ay a4 sc):
  Calls Tryz.prog 57 #[.pointer(some⟨b,0,none⟩)]w fun e w'=>∃ v,e= .returned v/\w'.ownsRow w.heap.size 3 1 v(lM p xs).length(iI(lM p xs))/\w.grownBy w' none:=by
 obtain⟨i0,bz,br,bu,bo⟩:=info_parts rK;have HR:=hZ hR;have HV:=hZ hp;have al:=hZ a7;have a2:=ju hp;have au:=hR.c10;have q0:(xs.length:Int)<=500:=by omega
 have q1:(0:Int)<=(xs.length:Int):=by omega
 clear hR hp a7;go_enter Tryz.func57,Tryz.ntmps57
 go_upto_region 3 with(at_make;refine wpList_make_full _ rfl _ _ _ rfl w.heap.size 3 i0 _ 1 Tryz.underlying39 bz br bu .i64 .i64 _ _ xs.length rfl rfl rfl rfl(by rw [bo];omega)(by unfold maxLen;omega)(by simp) ?_;intro w3 aj aV)
 have ah:w3.heap[w.heap.size]?=some(.cells(List.replicate xs.length(Value.int .i64 0)).toArray 3(0,0)):=by
  rcases aj.2 with⟨e,_⟩ | ⟨g',cap',cur,hv,_,hh,_,_,hcs,ar⟩
  ·cases e
  ·simp only [Value.slice.injEq,Option.some.injEq,Addr.mk.injEq,true_and,and_true]at hv;obtain⟨rfl,rfl⟩:=hv;rw [hh];have e1:cur.toList=List.replicate xs.length(Value.int .i64 0):=by
    have e2:(madeCells #[Value.int .i64 0](xs.length*1)).toList=List.replicate(xs.length*1)(Value.int .i64 0):=by
     apply List.ext_getElem(by simp [madeCells]);intro i h1 h2;simp only [madeCells,Array.toList_map,List.getElem_map,List.getElem_replicate,Array.toList_range,List.getElem_range];simp [Nat.mod_one]
    rw [Nat.mul_one]at e2;rw [<-e2];simp only [Value.cells,Nat.mul_one]at ar hcs;rw [<-ar,List.take_of_length_le(by simp;omega)]
   rw [<-e1]
 have HR3:Hid(RunRead w3 b p xs o ao ay a4 sc):=HR.out.grown aV;have aE:Hid(w.grownBy w3 none):=aV;have H0:Hid(LyIn w3 w3 w.heap.size xs.length(kr p xs 0)):=⟨by simpa [kr,tl,ul]using ah,il _ _⟩;obtain⟨gl,aF⟩:∃ gl,gl=w.heap.size:=⟨_,rfl⟩;have hgl3:gl<w3.heap.size:=by rw [aF];exact(Array.getElem?_eq_some_iff.1 ah).1
 have aU:Hid(∀ x v,w.cell? x=some v->∀ u,w3.grownBy u(some gl)->u.cell? x=some v):=fun x v hc u hu=>by
  have hx:=World.block_lt_of_cell? w _ hc;rw [World.cell?_of_block(hu.block x.block(Nat.lt_of_lt_of_le hx aE.out.size)(by simp;omega))];exact ie aE.out _ _ hc
 rw [<-aF]at H0 ⊢;have aP:=hZ aF;clear aj aV ah au aF;go_wp2_with fail
 go_loopw [5](fun iv w'=>∃ i:Nat,i<=xs.length/\iv= .int .i64 i/\Hid(LyIn w3 w' gl xs.length(kr p xs i)))(fun iv _=>xs.length - (intOf iv).toNat)
 case atStart=>exact⟨0,Nat.zero_le _,rfl,H0⟩
 case round=>
  clear H0;obtain⟨i,hi,rfl,HI⟩:=hrel;obtain⟨w5,a3⟩:∃ w5,w5=wr:=⟨_,rfl⟩;rw [<-a3]at HI ⊢;clear a3;by_cases aG:i<xs.length
  ·have t0:(0:Int)<=(i:Int):=by omega
   have t1:(i:Int)<xs.length:=by omega
   have bv:=pu p xs i hi;have H5:Hid(LyIn w3 w5 gl xs.length(kr p xs i++ [jf(i6 p)((tl(i6 p) [](xs.take i)).take 0)xs[i]])):=by
    have e:jf(i6 p)((tl(i6 p) [](xs.take i)).take 0)xs[i]=0:=by simp [jf]
    unfold Hid;rw [e]
    exact⟨by rw [By _ _(by omega)];exact HI.out.row,HI.out.gr⟩
   go_wp2_with fail
   go_loopw [6](fun kv w'=>∃ k:Nat,k<=i/\kv= .int .i64 k/\Hid(LyIn w3 w' gl xs.length(kr p xs i++ [jf(i6 p)((tl(i6 p) [](xs.take i)).take k)xs[i]])))(fun kv _=>i - (intOf kv).toNat)
   case atStart=>exact⟨0,Nat.zero_le _,rfl,H5⟩
   case round=>
    clear H5 HI;obtain⟨k,hk,rfl,HK⟩:=hrel;obtain⟨w6,bf⟩:∃ w6,w6=wr:=⟨_,rfl⟩;rw [<-bf]at HK ⊢;clear bf;by_cases bq:k<i
    ·have bh:k<xs.length:=by omega
     obtain⟨aJ,aB,a1⟩:=al.out.th _(List.getElem_mem aG);obtain⟨ar,aD,aS⟩:=al.out.th _(List.getElem_mem bh);obtain⟨base,ai⟩:=HR.out.row;obtain⟨g,hg,s0,s1⟩:=p9 ai al.out.st aG;obtain⟨g',aX,r0,r1⟩:=p9 ai al.out.st bh;rw [hg]at aX;simp only [Option.some.injEq,Addr.mk.injEq,and_true]at aX;subst aX hg;obtain⟨ki,aq⟩:=Int.eq_ofNat_of_zero_le aB;obtain⟨kk,aW⟩:=Int.eq_ofNat_of_zero_le aD;have an:=hZ(Bi al.out bq aG);have ax:=hZ(AH(i6 p)(tl(i6 p) [](xs.take i))xs[i]k(by rw [jy];simp;omega));have bd:((tl(i6 p) [](xs.take i))[k]'(by rw [jy];simp;omega)).1=xs[k]:=by
      have h1:=tG(i6 p) [](xs.take i);have h2:((tl(i6 p) [](xs.take i)).map(·.1))[k]'(by rw [h1];simp;omega)=(xs.take i)[k]'(by simp;omega):=by congr 1
      simpa using h2
     rw [bd]at ax;have am:(kr p xs i)[k]'(by omega)=((tl(i6 p) [](xs.take i))[k]'(by rw [jy];simp;omega)).2:=by simp [kr]
     have bw:=hZ am;have av:=vC p(xs.take i)xs[i]k;have hcur':jf(i6 p)((tl(i6 p) [](xs.take i)).take k)xs[i]<=500:=by simp at av;omega
     have hlk5:(kr p xs i)[k]'(by omega)<=500:=by
      rw [am];have:=o9(i6 p)(xs.take i) []0(by simp)k _(List.getElem?_eq_getElem(by rw [jy];simp;omega));omega
     have be:lL(jq p xs[i].t(ki:Int))(iL p xs[i].t).length=true:=mh HV.out aJ(by simp;omega);have bi:lL(jq p xs[k].t(kk:Int))(iL p xs[k].t).length=true:=mh HV.out ar(by simp;omega);have aT:=vT be;have aO:=vT bi;have a9:=hZ(zi(i:=jq p xs[k].t(kk:Int))(j:=jq p xs[i].t(ki:Int))aO.1 aO.2.2.1 aT.1 aT.2.2.1);rw [aq,aW]at an;rw [<-a9.out]at an;have up:∀ x v,w.cell? x=some v->w6.cell? x=some v:=fun x v hc=>aU.out x v hc w6 HK.out.gr
     have aY:=up _ _ s0;have aL:=up _ _ s1;have aR:=up _ _ r0;have aH:=up _ _ r1;rw [aq]at aL;rw [aW]at aH;have c0:=up _ _ HR.out.c0;have au:=up _ _ HR.out.c10;have a5:=up _ _ HR.out.c11;have bc:Hid(ProgAt w6(.agg #[.slice ao p.length ay])p):=HR.out.prog.pres up;have a6:=hZ(fun(u:World)(hu:w6.grownBy u none)=>Di u(.agg #[.slice ao p.length ay])(bc.out.pres(ie hu))a2.2 xs[k].t kk xs[i].t ki ar(by omega)aJ(by omega)(lh(kl HV.out ar))(lh(kl HV.out aJ)));clear s0 s1 r0 r1 ai aT aO be bi up av am bd aB a1 aD aS aq aW a9 bc;generalize bt:xs[i]=xi at*;generalize bp:xs[k]=xk at*;clear bt bp;generalize jq p xk.t(kk:Int)=ik at*;generalize jq p xi.t(ki:Int)=ii at*;have u0:(0:Int)<=(k:Int):=by omega
     have u1:(k:Int)<(i:Int):=by omega
     have u2:(k:Int)<(xs.length:Int):=by omega
     go_upto_region 9 with fail
     refine iu(fun u=>u.cell?⟨b,0,none⟩=some(.slice ao p.length ay)/\u.cell?⟨b,10,none⟩=some(.slice(some⟨g,0,none⟩)xs.length sc)/\u.cell?⟨g,k*2,none⟩=some(.int .i64(xk.t:Int))/\u.cell?⟨g,k*2+1,none⟩=some(.int .i64(kk:Int))/\u.cell?⟨g,i*2,none⟩=some(.int .i64(xi.t:Int))/\u.cell?⟨g,i*2+1,none⟩=some(.int .i64(ki:Int)))19(by kernel_rfl)(by kernel_rfl)⟨c0,au,aR,aH,aY,aL⟩ ?_;intro aa;refine hY(i:=0)(v:= ?vva0)rfl(by kernel_rfl)(fun _ _ _ h=>h)(Or.inl⟨by rfl, ?hya0⟩)aa ?resta0
     case hya0=>(rintro u⟨ac,ab,af,ag,ad,ae⟩;go_simp;try with_reducible rfl)
     simp only [Act.put,List.setIfInBounds_toArray];refine hY(i:=1)(v:= ?vva1)rfl(by kernel_rfl)(fun _ _ _ h=>h)(Or.inl⟨by rfl, ?hya1⟩)aa ?resta1
     case hya1=>(rintro u⟨ac,ab,af,ag,ad,ae⟩;go_simp;try with_reducible rfl)
     simp only [Act.put];refine hY(i:=2)(v:= ?vva2)rfl(by kernel_rfl)(fun _ _ _ h=>h)(Or.inl⟨by rfl, ?hya2⟩)aa ?resta2
     case hya2=>(rintro u⟨ac,ab,af,ag,ad,ae⟩;go_simp;try with_reducible rfl)
     simp only [Act.put];refine hY(i:=3)(v:= ?vva3)rfl(by kernel_rfl)(fun _ _ _ h=>h)(Or.inl⟨by rfl, ?hya3⟩)aa ?resta3
     case hya3=>(rintro u⟨ac,ab,af,ag,ad,ae⟩;go_simp;try with_reducible rfl)
     simp only [Act.put];refine hY(i:=4)(v:= ?vva4)rfl(by kernel_rfl)(fun _ _ _ h=>h)(Or.inl⟨by rfl, ?hya4⟩)aa ?resta4
     case hya4=>(rintro u⟨ac,ab,af,ag,ad,ae⟩;go_simp;try with_reducible rfl)
     simp only [Act.put];refine hY(i:=5)(v:= ?vva5)rfl(by kernel_rfl)(fun _ _ _ h=>h)(Or.inl⟨by rfl, ?hya5⟩)aa ?resta5
     case hya5=>(rintro u⟨ac,ab,af,ag,ad,ae⟩;go_simp;try with_reducible rfl)
     simp only [Act.put];refine hY(i:=6)(v:= ?vva6)rfl(by kernel_rfl)(fun _ _ _ h=>h)(Or.inl⟨by rfl, ?hya6⟩)aa ?resta6
     case hya6=>(rintro u⟨ac,ab,af,ag,ad,ae⟩;go_simp;try with_reducible rfl)
     simp only [Act.put];refine hY(i:=7)(v:= ?vva7)rfl(by kernel_rfl)(fun _ _ _ h=>h)(Or.inl⟨by rfl, ?hya7⟩)aa ?resta7
     case hya7=>(rintro u⟨ac,ab,af,ag,ad,ae⟩;go_simp;try with_reducible rfl)
     simp only [Act.put];refine hY(i:=8)(v:= ?vva8)rfl(by kernel_rfl)(fun _ _ _ h=>h)(Or.inl⟨by rfl, ?hya8⟩)aa ?resta8
     case hya8=>(rintro u⟨ac,ab,af,ag,ad,ae⟩;go_simp;try with_reducible rfl)
     simp only [Act.put];refine hY(i:=9)(v:= ?vva9)rfl(by kernel_rfl)(fun _ _ _ h=>h)(Or.inl⟨by rfl, ?hya9⟩)aa ?resta9
     case hya9=>(rintro u⟨ac,ab,af,ag,ad,ae⟩;go_simp;try with_reducible rfl)
     simp only [Act.put];refine hY(i:=10)(v:= ?vva10)rfl(by kernel_rfl)(fun _ _ _ h=>h)(Or.inl⟨by rfl, ?hya10⟩)aa ?resta10
     case hya10=>(rintro u⟨ac,ab,af,ag,ad,ae⟩;go_simp;try with_reducible rfl)
     simp only [Act.put];refine hY(i:=11)(v:= ?vva11)rfl(by kernel_rfl)(fun _ _ _ h=>h)(Or.inl⟨by rfl, ?hya11⟩)aa ?resta11
     case hya11=>(rintro u⟨ac,ab,af,ag,ad,ae⟩;go_simp;try with_reducible rfl)
     simp only [Act.put];refine hY(i:=12)(v:= ?vva12)rfl(by kernel_rfl)(fun _ _ _ h=>h)(Or.inl⟨by rfl, ?hya12⟩)aa ?resta12
     case hya12=>(rintro u⟨ac,ab,af,ag,ad,ae⟩;go_simp;try with_reducible rfl)
     simp only [Act.put];refine hY(i:=13)(v:= ?vva13)rfl(by kernel_rfl)(fun _ _ _ h=>h)(Or.inl⟨by rfl, ?hya13⟩)aa ?resta13
     case hya13=>(rintro u⟨ac,ab,af,ag,ad,ae⟩;go_simp;try with_reducible rfl)
     simp only [Act.put];refine hY(i:=14)(v:= ?vva14)rfl(by kernel_rfl)(fun _ _ _ h=>h)(Or.inl⟨by rfl, ?hya14⟩)aa ?resta14
     case hya14=>(rintro u⟨ac,ab,af,ag,ad,ae⟩;go_simp;try with_reducible rfl)
     simp only [Act.put];refine hY(i:=15)(v:= ?vva15)rfl(by kernel_rfl)(fun _ _ _ h=>h)(Or.inl⟨by rfl, ?hya15⟩)aa ?resta15
     case hya15=>(rintro u⟨ac,ab,af,ag,ad,ae⟩;go_simp;try with_reducible rfl)
     simp only [Act.put];refine hY(i:=16)(v:= ?vva16)rfl(by kernel_rfl)(fun _ _ _ h=>h)(Or.inl⟨by rfl, ?hya16⟩)aa ?resta16
     case hya16=>(rintro u⟨ac,ab,af,ag,ad,ae⟩;go_simp;try with_reducible rfl)
     simp only [Act.put];refine hY(i:=17)(v:= ?vva17)rfl(by kernel_rfl)(fun _ _ _ h=>h)(Or.inl⟨by rfl, ?hya17⟩)aa ?resta17
     case hya17=>(rintro u⟨ac,ab,af,ag,ad,ae⟩;go_simp;try with_reducible rfl)
     simp only [Act.put];refine ip(i:=18)rfl(by kernel_rfl)(by kernel_rfl)(by rfl) ?_;intro K18 aC;have aA:=hZ aC;clear aC;go_simp;refine(a6.out _(ir(il _ _))).mono ?_;rintro e w7⟨rfl,ba⟩;have ak:Hid(w6.grownBy w7 none):=sy ba;refine aA.out _ _⟨ie ak.out _ _ c0,ie ak.out _ _ au,ie ak.out _ _ aR,ie ak.out _ _ aH,ie ak.out _ _ aY,ie ak.out _ _ aL⟩ ?_;clear aA ba;try simp only [Act.put,List.setIfInBounds_toArray]
     refine iE rfl(by kernel_rfl)(by kernel_rfl)(by rfl) ?_;go_simp;have bg:=ie ak.out _ _ a5;have aK:=hZ(HK.out.grown ak.out);clear aa c0 au a5 aR aH aY aL a6 HK;generalize bm:(xk.t==xi.t || oh ik ii)=dd at*;clear bm;obtain⟨bl,aN⟩:∃ bl:Bool,bl=(decide(o.kind=1)&& decide(i+1=xs.length)):=⟨_,rfl⟩;rw [<-aN]at an;have aM:=hZ aN;clear aN;go_upto_region 10 with fail
     go_cut [59](fun q w'=>q= .bool bl/\w'=w7)
     case first=>
      by_cases e2:o.kind=1
      ·rw [e2]at bg;by_cases e1:i+1=xs.length
       ·have e3:(xs.length:Int) - 1=(i:Int):=by omega
        have hb:bl=true:=by rw [aM.out];simp [e1,e2]
        go_wp2_with fail
        all_goals first | (go_meet;exact⟨by rw [hb],rfl⟩) | (exfalso;omega)
       ·have hb:bl=false:=by rw [aM.out];simp [e1]
        have e4:((i:Int)==(xs.length:Int) - 1)=false:=by simp;omega
        go_wp2_with fail
        all_goals first | (go_meet;exact⟨by rw [hb],rfl⟩) | (exfalso;omega)
      ·have hb:bl=false:=by rw [aM.out];simp [e2]
       have hb2:(o.kind==1)=false:=by simpa using e2
       go_wp2_with fail
       all_goals first | (go_meet;exact⟨by rw [hb],rfl⟩) | (exfalso;omega)
     case rest=>
     obtain⟨rfl,aQ⟩:=hcut;have ap:=aQ.symm;subst ap;obtain⟨D,hD⟩:∃ D:Bool,D=i6 p xk xi:=⟨_,rfl⟩;rw [<-hD]at an ax;clear hD;go_upto_if 59 with fail
     go_cut [7](fun q w'=>q= .bool D/\w'=w7)
     case first=>
      cases bl with
      | true=>
       have aZ:D=true:=by rw [an.out];rfl
       go_wp2_with fail
       go_meet
       exact⟨by rw [aZ],rfl⟩
      | false=>
       have aZ:D=dd:=by rw [an.out];rfl
       go_wp2_with fail
       go_meet
       exact⟨by rw [aZ],rfl⟩
     case rest=>
     obtain⟨rfl,aQ⟩:=hcut;have ap:=aQ.symm;subst ap;clear bg aM an;rw [<-bw.out]at ax;have bj:k<(kr p xs i).length:=by omega
     have HRS:=hZ(fun y:Nat=>xH(kr p xs i)(jf(i6 p)((tl(i6 p) [](xs.take i)).take k)xi)y xs.length);have aI:=aK.out.row;have ck:w7.cell?⟨gl,k,none⟩=some(.int .i64((kr p xs i)[k]:Int)):=by
      simp only [World.cell?,aI];have:=sM(kr p xs i++ [jf(i6 p)((tl(i6 p) [](xs.take i)).take k)xi])xs.length k(by simp;omega);rw [List.getElem_append_left bj]at this;simpa using this
     have ci:w7.cell?⟨gl,i,none⟩=some(.int .i64(jf(i6 p)((tl(i6 p) [](xs.take i)).take k)xi:Int)):=by
      simp only [World.cell?,aI];have:=sM(kr p xs i++ [jf(i6 p)((tl(i6 p) [](xs.take i)).take k)xi])xs.length i(by simp;omega);have e:(kr p xs i++ [jf(i6 p)((tl(i6 p) [](xs.take i)).take k)xi])[i]'(by simp;omega)=jf(i6 p)((tl(i6 p) [](xs.take i)).take k)xi:=by
       rw [List.getElem_append_right(by omega)];simp
      rw [e]at this;simpa using this
     have fi:w7.frozen?⟨gl,i,none⟩=false:=by simp [World.frozen?,aI]
     clear aI;generalize bk:(kr p xs i)[k]=lk at*;generalize hc:jf(i6 p)((tl(i6 p) [](xs.take i)).take k)xi=c at*;generalize a8:jf(i6 p)((tl(i6 p) [](xs.take i)).take(k+1))xi=c1 at*;have a0:=hZ a8;clear bk hc a8;have v0:(lk:Int)<=500:=by omega
     have v1:(c:Int)<=500:=by omega
     cases D with
     | false=>
      have aw:c1=c:=by have:=ax.out;simpa using this
      go_wp2_with fail
      go_quiet(fail)
      go_wp2_with fail
      go_roundw
      case rel=>exact⟨k+1,by omega,by go_num,by rw [a0.out,aw];exact aK.out.grown(ry _)⟩
      case measure=>simp [intOf];omega
     | true=>
      have hcm:c1=max c(lk+1):=by have:=ax.out;simpa using this
      by_cases hle:c<=lk
      ·have v2:(c:Int)<=(lk:Int):=by omega
       have aw:c1=lk+1:=by omega
       go_wp2_with fail
       go_quiet(fail)
       go_wp2_with fail
       go_roundw
       case rel=>exact⟨k+1,by omega,by go_num,by rw [a0.out,aw];exact LyIn.put(aK.out.grown(ry _))bv(lk+1)_(by omega)⟩
       case measure=>simp [intOf];omega
      ·have v2:(lk:Int)<(c:Int):=by omega
       have aw:c1=c:=by omega
       go_wp2_with fail
       go_quiet(fail)
       go_wp2_with fail
       go_roundw
       case rel=>exact⟨k+1,by omega,by go_num,by rw [a0.out,aw];exact aK.out.grown(ry _)⟩
       case measure=>simp [intOf];omega
    ·have u1:(i:Int)<=(k:Int):=by omega
     have aq:k=i:=by omega
     have bx:Hid(kr p xs(i+1)=kr p xs i++ [jf(i6 p)((tl(i6 p) [](xs.take i)).take k)xs[i]]):=by unfold Hid;rw [aq];exact yF p xs i aG
     clear aq;go_wp2_with fail
     go_roundw
     case rel=>exact⟨i+1,by omega,by go_num,by rw [bx.out];exact HK.out⟩
     case measure=>simp [intOf];omega
  ·have t1:(xs.length:Int)<=(i:Int):=by omega
   have bb:i=xs.length:=by omega
   have bn:=hZ bb;clear bb;go_upto_if 21 with fail
   refine wp_cond_false rfl ?_;refine wp_exit ?_;refine ‹∀ a w,Code.wp Tryz.prog _ _ a w->_› _ _ ?_;obtain⟨base,ai⟩:=HR.out.row;refine E8(p:=p)az(aU.out _ _ HR.out.c10 w5 HI.out.gr) ?_ ?_
   ·intro j hj;obtain⟨g,hg,s0,s1⟩:=p9 ai al.out.st hj;have bA:j<(kr p xs xs.length).length:=by rw [pu _ _ _(Nat.le_refl _)];exact hj
    have aJ:=(al.out.th _(List.getElem_mem hj)).1;refine⟨g,(kr p xs xs.length)[j],xs[j].t, ?_,hg, ?_,aU.out _ _ s0 w5 HI.out.gr,Nat.le_trans(Ep p xs j hj)az,by omega⟩
    ·rw [List.getElem?_eq_getElem(by rw [rG];exact hj),Em p xs j hj]
    ·have hr:=HI.out.row;rw [bn.out]at hr;simp only [World.cell?,hr];have:=sM(kr p xs xs.length)xs.length j bA;simpa using this
   ·intro z0 z1 z3 z4 z5 z6 z7 z8 z9 z10 z11 z12 z13 z14 z15 z16 z17 z18 z19 z20 z21 z22 z23 z24 z25 z26 z27 z28 z29 z30 z31 z32 z33 z34 z35 z36 z37 z38 z39 z40 z41 z42 z43 z44 z45 z46 z47 z48 z49 z50 z51 z52 z53 z54 z55 z56 z57 z58 z59 z60 z61 z62 z63 z64 z65 z66 z67 z68 z69 z70 z71 z72 z73 z74 z75 z76 z77 z78 z79 z80 z81 z82 z83 z84 z85 z86 z87 z88 z89 z90 z91 z92 z93 z94 z95 z96 z97 z98 z99 z100 z101 z102 z103 z104 z105 z106 z107 z108 z109 z110 z111 z112 z113 z114 z115 z116 v w' hO;have HO:=hZ hO;clear hO;go_ret;refine⟨v,rfl, ?_, ?_⟩
    ·have hf:=vu(p:=p)(xs:=xs)(fun e he=>by have:=(al.out.th e he).1;omega);have hr:=HO.out.row;unfold nD at hr;rw [<-hf]at hr;exact iN hr(by have:=HI.out.gr.size;have:=aE.out.size;omega)
    ·exact ic(pS aE.out HI.out.gr(by have:=aP.out;omega))HO.out.gr
end
section
open Go.RowKit
attribute [local go_sem] Go.World.cell?_alloc_some
theorem oX {w w':World}(h:w.drew.grownBy w' none):w.grownBy w' none:=⟨h.os,h.tape,h.output,h.size,h.block⟩
theorem nW(p:List(List Ins))(l:List Int):(iF p l).steps.length<=l.length:=by
 obtain⟨m,h1,h2,h3,_⟩:=oC p l 0 St.zero [];unfold iF;simp at h3;omega
theorem yt {p:List(List Ins)} {s:List Int}(h0:iz p s=0):iR p=true/\s.length<=500:=by
 unfold iz at h0;by_cases hv:iR p=true
 ·by_cases h5:s.length<=500
  ·exact⟨hv,h5⟩
  ·simp [hv,h5]at h0
 ·simp [hv]at h0
theorem o8 {p:List(List Ins)}(hp:iR p=true)(s:List Int)(h5:s.length<=500) {base:Nat} {u:World} {rv:Value}(hR:Dw base u(iF p s)p.length rv)(w:World)(hg:u.grownBy w none)(pv:Value)(hP:ProgAt w pv p):
  Calls Tryz.prog 56 #[pv,rv]w fun e w'=>∃ v,e= .returned v/\w'.ownsRow w.heap.size 3 1 v(kC p(iF p s)).length(iI(kC p(iF p s)))/\w.grownBy w' none:=by
 obtain⟨xs,aa⟩:=ox hp s;obtain⟨sv,gv,rfl,ab,ac⟩:=hR;obtain⟨x1,x2,x3,rfl⟩:=iq ab;obtain⟨y1,y2,y3,rfl⟩:=iq ac;have hl:(iF p s).steps.length=xs.length:=by rw [aa.st];simp
 have ad:=iy ab;subst ad;have hle:=nW p s;have h1:=iA ab hg(fun _ e=>by cases e);rw [hl]at h1 ⊢;have:=A2 hp aa(by omega)w pv hP base x1 x3 h1((iF p s).st.vars 0)((iF p s).st.vars 1)((iF p s).st.vars 2)((iF p s).st.vars 3)y1 y2 y3;unfold kC;rw [aa.ev];exact this
def Formd(p:List(List Ins))(s:List Int)(w:World)(e:Ending)(w':World):Prop:=
 w.grownBy w' none/\
 ((iz p s=0/\∃ v,e= .returned(.tuple #[v, .int .i64 0])/\w'.ownsRow w.heap.size 3 1 v(kC p(iF p s)).length(iI(kC p(iF p s))))\/
  (iz p s≠0/\e= .returned(.tuple #[.slice none 0 0, .int .i64(iz p s)])))
theorem Gh(p:List(List Ins))(s:List Int)(pv sv:Value)(w:World)(hS:ShpAt w)(hP:ProgAt w pv p)(hI:IntsAt w.heap.size w sv s):
  Calls Tryz.prog 28 #[pv,sv]w(Formd p s w):=by
 have ay:=hZ hS;have HP:=hZ hP;have HI:=hZ hI;obtain⟨ao,ae,rfl⟩:=hP.form;obtain⟨so,sc,rfl⟩:=hI.form;clear hS hP hI;go_enter Tryz.func28,Tryz.ntmps28
 go_wp2_with fail
 have ai:∀ a b,w.grownBy((w.alloc a).alloc b)none:=fun a b=>ij(ij(il _ _))
 refine(oy p [s]_ _ _(ay.out.pres(ie(ai _ _)))(HP.out.pres(ie(ai _ _)))(rI(by simp))(by simp)).mono ?_;rw [nR];rintro e w1⟨rfl,am⟩;have ag:Hid(w.grownBy w1 none):=ic(ai _ _)am;have av:w1.heap[w.heap.size]?=some(.cells #[.slice ao p.length ae]37(0,0)):=by
  rw [am.block w.heap.size(by simp;omega)(by simp),Below.heap_alloc _ _ _(by simp)];exact heap_alloc_new w _
 have c0:w1.cell?⟨w.heap.size,0,none⟩=some(.slice ao p.length ae):=by simp [World.cell?,av]
 clear av am;by_cases h0:iz p s=0
 ·have H0:=hZ h0;obtain⟨hv,h5⟩:=yt h0;have HV:=hZ hv;rw [h0];clear h0 hv;go_wp2_with fail
  refine iu(fun u=>u.cell?⟨w.heap.size,0,none⟩=some(.slice ao p.length ae))7(by kernel_rfl)(by kernel_rfl)c0 ?_;intro ad;refine hY(i:=0)(v:= ?vva0)rfl(by kernel_rfl)(fun _ _ _ h=>h)(Or.inl⟨by rfl, ?hya0⟩)ad ?resta0
  case hya0=>(intro u hu;go_simp;try with_reducible rfl)
  simp only [Act.put,List.setIfInBounds_toArray];refine hY(i:=1)(v:= ?vva1)rfl(by kernel_rfl)(fun _ _ _ h=>h)(Or.inl⟨by rfl, ?hya1⟩)ad ?resta1
  case hya1=>(intro u hu;go_simp;try with_reducible rfl)
  simp only [Act.put];refine hY(i:=3)(v:= ?vva3)rfl(by kernel_rfl)(fun _ _ _ h=>h)(Or.inl⟨by rfl, ?hya3⟩)ad ?resta3
  case hya3=>(intro u hu;go_simp;try with_reducible rfl)
  simp only [Act.put];refine ip(i:=2)rfl(by kernel_rfl)(by kernel_rfl)(by rfl) ?_;intro K2 aw;have an:=hZ aw;clear aw;go_simp;refine(Ab HV.out(HP.out.pres(ie(ir ag.out)))).mono ?_;rintro e w2⟨m,rfl,hM,ax⟩;have HM:=hZ hM;have af:Hid(w1.grownBy w2 none):=oX ax;have ak:Hid(w.grownBy w2 none):=ic ag.out af.out;have aa:w2.cell?⟨w.heap.size,0,none⟩=some(.slice ao p.length ae):=ie af.out _ _ c0;refine an.out _ _ aa ?_;clear an hM ax;try simp only [Act.put,List.setIfInBounds_toArray]
  refine ip(i:=4)rfl(by kernel_rfl)(by kernel_rfl)(by rfl) ?_;intro K4 aq;have ar:=hZ aq;clear aq;go_simp;refine(uY HV.out HM.out(Nat.le_refl _)((HI.out.pres(ie ak.out)).mono ak.out.size)h5).mono ?_;rintro e w3⟨rv,rfl,hR,ah⟩;have HR:=hZ hR;have aj:Hid(w.grownBy w3 none):=ic ak.out ah;have ab:w3.cell?⟨w.heap.size,0,none⟩=some(.slice ao p.length ae):=ie ah _ _ aa;refine ar.out _ _ ab ?_;clear ar hR ah;try simp only [Act.put,List.setIfInBounds_toArray]
  refine ip(i:=5)rfl(by kernel_rfl)(by kernel_rfl)(by rfl) ?_;intro K5 ap;have au:=hZ ap;clear ap;go_simp;refine(o8 HV.out s h5 HR.out w3(il _ _)_(HP.out.pres(ie aj.out))).mono ?_;rintro e w4⟨fv,rfl,hF,al⟩;obtain⟨f1,f2,f3,rfl⟩:=iq hF;have HF:=hZ hF;have az:Hid(w.grownBy w4 none):=ic aj.out al;have ac:w4.cell?⟨w.heap.size,0,none⟩=some(.slice ao p.length ae):=ie al _ _ ab;refine au.out _ _ ac ?_;clear au hF al;try simp only [Act.put,List.setIfInBounds_toArray]
  refine hY(i:=6)(v:= ?vvb6)rfl(by kernel_rfl)(fun _ _ _ h=>h)(Or.inl⟨by rfl, ?hyb6⟩)ac ?restb6
  case hyb6=>(intro u hu;go_simp;try with_reducible rfl)
  simp only [Act.put,List.setIfInBounds_toArray];refine iE rfl(by kernel_rfl)(by kernel_rfl)(by rfl) ?_;go_simp;go_wp2_with fail
  exact bodyPost_ret(v:= .tuple #[.slice f1 f2 f3, .int .i64 0])(by simp [results,Tryz.results28,go_sem])rfl⟨az.out,Or.inl⟨H0.out,_,rfl,iN HF.out aj.out.size⟩⟩
 ·have H0:=hZ h0;have hne:(iz p s !=0)=true:=by simpa using h0
  clear h0;generalize hE:iz p s=e at*;have HE:=hZ hE;clear hE;go_wp2_with fail
  exact bodyPost_ret(v:= .tuple #[.slice none 0 0, .int .i64 e])(by simp [results,Tryz.results28,go_sem])rfl⟨ag.out,Or.inr⟨by rw [HE.out];exact H0.out,by rw [HE.out]⟩⟩
end
section
open Go.RowKit
attribute [local go_sem] Go.World.cell?_alloc_some
theorem Aa(w:World):jr w w:=⟨rfl,rfl,rfl,rfl⟩
theorem vi {w' w:World}(h:jr w' w)(n:Nat):jr(w'.drewN n)w:=by
 obtain⟨a,b,c,d⟩:=h;exact⟨a,b,c,d⟩
theorem Dq(l m:List Int)(v u:Value)(w:World)(hI:IntsAt w.heap.size w v l)(hJ:IntsAt w.heap.size w u m)(hln:l.length<=9223372036854775806):
  Calls Tryz.prog 60 #[v,u]w fun e w'=>e= .returned(.bool(l==m))/\jr w' w:=by
 obtain⟨ao,cap,rfl,hcap,hc⟩:=hI;obtain⟨bo,dap,rfl,hdap,hd⟩:=hJ;by_cases aa:l.length=m.length
 ·have HC:=hZ hc;have HD:=hZ hd;clear hc hd;have ai:(l.length:Int)=m.length:=by omega
  have ak:((l.length:Int) !=(m.length:Int))=false:=by simp;omega
  have af:=hZ aa;go_enter Tryz.func60,Tryz.ntmps60
  clear aa ai;go_wp2_with fail
  go_loopw [13](fun i w'=>∃ k:Nat,k<=l.length/\i= .int .i64 k/\Hid(jr w' w)/\Hid(l.take k=m.take k))(fun i _=>l.length - (intOf i).toNat)
  case atStart=>exact⟨0,Nat.zero_le _,rfl,hZ(Aa _),by simp [Hid]⟩
  case round=>
   obtain⟨k,hk,rfl,HK,HA⟩:=hrel;obtain⟨w5,aj⟩:∃ w5,w5=wr:=⟨_,rfl⟩;subst aj;by_cases ag:k<l.length
   ·have ac:k<m.length:=by have:=af.out;omega
    obtain⟨g,o,rfl,_,c0⟩:=HC.out k ag;obtain⟨g2,o2,rfl,_,c1⟩:=HD.out k ac;have cL:∀ a,w5.cell? a=w.cell? a:=fun a=>by simp [World.cell?,HK.out.1]
    have d0:w5.cell?⟨g,o+k,none⟩=some(.int .i64 l[k]):=by rw [cL];exact c0
    have d1:w5.cell?⟨g2,o2+k,none⟩=some(.int .i64 m[k]):=by rw [cL];exact c1
    have hk0:(0:Int)<=(k:Int):=by omega
    have hk1:(k:Int)<l.length:=by omega
    have hk2:(k:Int)<m.length:=by omega
    have ae:Hid(l.take(k+1)=l.take k++ [l[k]]):=List.take_succ_eq_append_getElem ag;have ad:Hid(m.take(k+1)=m.take k++ [m[k]]):=List.take_succ_eq_append_getElem ac;clear cL c0 c1;by_cases ab:l[k]=m[k]
    ·have hq:(l[k] !=m[k])=false:=by simpa using ab
     have ah:Hid(l.take(k+1)=m.take(k+1)):=by unfold Hid;rw [ae.out,ad.out,HA.out,ab]
     clear ab ae ad;generalize l[k]=x at*;generalize m[k]=y at*;go_wp2_with fail
     go_quiet(fail)
     go_wp2_with fail
     go_roundw
     case rel=>exact⟨k+1,by omega,by go_num,hZ(vi HK.out _),ah⟩
     case measure=>simp [intOf];omega
    ·have hq:(l[k] !=m[k])=true:=by simpa using ab
     have HE:Hid((l==m)=false):=by
      unfold Hid;simp only [beq_eq_false_iff_ne];intro e;apply ab;simp [e]
     clear ab ae ad;generalize l[k]=x at*;generalize m[k]=y at*;go_wp2_with fail
     go_quiet(fail)
     go_wp2_with fail
     go_ret;exact⟨by rw [HE.out];rfl,vi HK.out _⟩
   ·have HE:Hid((l==m)=true):=by
     unfold Hid;have h1:=HA.out;rw [List.take_of_length_le(by omega),List.take_of_length_le(by have:=af.out;omega)]at h1;simpa using h1
    have q2:(l.length:Int)<=(k:Int):=by omega
    go_wp2_with fail
    go_ret;exact⟨by rw [HE.out];rfl,HK.out⟩
 ·have HE:Hid((l==m)=false):=by
   unfold Hid;simp only [beq_eq_false_iff_ne];intro e;exact aa(by rw [e])
  have ak:((l.length:Int) !=(m.length:Int))=true:=by simp;omega
  clear hc hd;go_enter Tryz.func60,Tryz.ntmps60
  go_wp2_with fail
  go_ret;exact⟨by rw [HE.out];rfl,Aa _⟩
end
section
def mi(a b:Out):Bool:=if a.kind=2 then b.kind==2 else(a.kind==b.kind && a.thread==b.thread && a.at_==b.at_)
def i7(l:List Int)(i:Nat):List Int:=l.take i++l.drop(i+1)
def ko(o:Out):Nat:=if o.kind=2 then o.steps.length+1 else o.steps.length
def shr(p:List(List Ins))(V:Out):Nat->List Int->Nat->Nat->List Int × Nat
 | 0,l,_,u=>(l,u)
 | n+1,l,i,u=>if i<l.length then(if mi(iF p(i7 l i))V=true then shr p V n(i7 l i)0(u+1)else shr p V n l(i+1)(u+1))else(l,u)
def mn(p:List(List Ins))(s:List Int)(fuel:Nat):List Int × Nat:=shr p(iF p s)fuel(s.take(ko(iF p s)))0 0
theorem oQ {l:List Int} {i:Nat}(h:i<l.length):(i7 l i).length+1=l.length:=by
 unfold i7;simp;omega
section
variable {p : List (List Ins)} {V : Out}
theorem vm:∀ (n:Nat)(l:List Int)(i u:Nat),(shr p V n l i u).1.length<=l.length
 | 0,l,i,u=>Nat.le_refl _
 | n+1,l,i,u=>by
  unfold shr;split
  ·rename_i hi
   have:=oQ hi;split
   ·have:=vm n(i7 l i)0(u+1);omega
   ·exact vm n l(i+1)(u+1)
  ·exact Nat.le_refl _
end
theorem zS(p:List(List Ins))(s:List Int):iF p(s.take(ko(iF p s)))=iF p s/\ko(iF p s)<=s.length:=by
 have hc:=nb p s 0 St.zero [];change ∃ xs s',RunE p St.zero xs s'/\(iF p s).steps= []++xs.map Ev.pr/\(iF p s).st=s'/\((good xs/\xs.map Ev.tI=s/\(iF p s).kind=jN p s'/\(iF p s).thread=0/\(iF p s).at_=0)\/(good xs/\(∃ u r,s=xs.map Ev.tI++u::r/\nh p s' u=false)/\(iF p s).kind=2/\(iF p s).thread=0/\(iF p s).at_=0+xs.length)\/(∃ ys z r,xs=ys++ [z]/\good ys/\z.bad=true/\s=xs.map Ev.tI++r/\(iF p s).kind=1/\(iF p s).thread=z.tI/\(iF p s).at_=z.k))at hc
 obtain⟨xs,s',hr,hs,aa,hc⟩:=hc;rw [List.nil_append]at hs;have hl:(iF p s).steps.length=xs.length:=by rw [hs];simp
 have eq_of:∀ o:Out,o.steps=(iF p s).steps->o.kind=(iF p s).kind->o.thread=(iF p s).thread->o.at_=(iF p s).at_->o.st=(iF p s).st->o=iF p s:=by
  intro o h1 h2 h3 h4 h5;cases o
  generalize iF p s=q at*;cases q
  simp at*;exact⟨h1,h2,h3,h4,h5⟩
 rcases hc with⟨g1,g2,g3,g4,g5⟩ | ⟨g1,⟨u,r,g2,g2'⟩,g3,g4,g5⟩ | ⟨us,z,r,g1,g2,g3,g4,g5,g6,g7⟩
 ·have hk:ko(iF p s)=s.length:=by
   unfold ko;rw [if_neg(by have:=pF p s';omega),hl,<-g2];simp
  rw [hk,List.take_length];exact⟨rfl,Nat.le_refl _⟩
 ·have hk:ko(iF p s)=xs.length+1:=by unfold ko;rw [if_pos g3,hl]
  have ht:s.take(xs.length+1)=xs.map Ev.tI++ [u]:=by
   rw [g2,List.take_append,List.take_of_length_le(by simp)];simp
  rw [hk,ht];refine⟨?_,by rw [g2];simp⟩;have e1:iF p(xs.map Ev.tI++ [u])=⟨xs.map Ev.pr,2,0,0+xs.length,s'⟩:=by
   unfold iF;rw [nt p xs [u]0 St.zero s' []g1 hr,ku p u []_ _ _ g2'];simp
  rw [e1];exact eq_of _ hs.symm g3.symm g4.symm g5.symm aa.symm
 ·have hk:ko(iF p s)=xs.length:=by unfold ko;rw [if_neg(by omega),hl]
  have ht:s.take xs.length=xs.map Ev.tI:=by
   rw [g4,List.take_append,List.take_of_length_le(by simp)];simp
  rw [hk,ht];refine⟨?_,by rw [g4];simp⟩;subst g1;have e1:iF p((us++ [z]).map Ev.tI)=⟨(us++ [z]).map Ev.pr,1,z.tI,z.k,s'⟩:=by
   unfold iF;rw [yR g2 g3 hr];simp
  rw [e1];exact eq_of _ hs.symm g5.symm g6.symm g7.symm aa.symm
end
section
open Go.RowKit
attribute [local go_sem] Go.World.cell?_alloc_some
def CB(o:Out):Value:= .agg #[.int .i64 o.kind, .int .i64 o.thread, .int .i64 o.at_]
theorem pH(a b:Out)(w:World):Calls Tryz.prog 59 #[CB a,CB b]w fun e w'=>e= .returned(.bool(mi a b))/\w.grownBy w' none:=by
 obtain⟨al,ak,av,aa,ac⟩:=a;obtain⟨bs,bk,bt,ba,ab⟩:=b;unfold CB;simp only;have HG:Hid(∀ x y,w.grownBy((w.alloc x).alloc y)none):=fun x y=>ij(ij(il _ _))
 by_cases h2:ak=2
 ·by_cases h3:bk=2
  ·have HE:Hid(mi⟨al,ak,av,aa,ac⟩⟨bs,bk,bt,ba,ab⟩=true):=by unfold Hid mi;simp [h2,h3]
   subst h2 h3;go_enter Tryz.func59,Tryz.ntmps59
   go_wp2_with fail
   go_ret;exact⟨by rw [HE.out];rfl,HG.out _ _⟩
  ·have HE:Hid(mi⟨al,ak,av,aa,ac⟩⟨bs,bk,bt,ba,ab⟩=false):=by unfold Hid mi;simp [h2,h3]
   have hb:(bk==2)=false:=by simpa using h3
   subst h2;clear h3;go_enter Tryz.func59,Tryz.ntmps59
   go_wp2_with fail
   go_ret;exact⟨by rw [HE.out];rfl,HG.out _ _⟩
 ·have HE:Hid(mi⟨al,ak,av,aa,ac⟩⟨bs,bk,bt,ba,ab⟩=(ak==bk && av==bt && aa==ba)):=by unfold Hid mi;simp [h2]
  have ha:(ak==2)=false:=by simpa using h2
  clear h2;go_enter Tryz.func59,Tryz.ntmps59
  go_wp2_with fail
  all_goals(go_ret;refine⟨?_,HG.out _ _⟩;rw [HE.out];simp [*])
end
section
open Go.RowKit
attribute [local go_sem] Go.World.cell?_alloc_some
theorem Bk {W:World} {so sp:Option Addr} {a b:List Int} {sc sd:Nat} {t:TypeId} {g:Nat}(hg:W.heap.size=g):vY(W.alloc(.cells #[.slice so a.length sc, .slice sp b.length sd]t))(.slice(some⟨g,0,none⟩)2 2) [a,b]:=by
 subst hg;have h:=heap_alloc_new W(.cells #[.slice so a.length sc, .slice sp b.length sd]t);refine⟨W.heap.size,0,2,rfl,fun k hk=> ?_⟩;have aa:k=0\/k=1:=by simp at hk;omega
 rcases aa with rfl | rfl
 ·exact⟨so,sc,by simp only [World.cell?,h];rfl⟩
 ·exact⟨sp,sd,by simp only [World.cell?,h];rfl⟩
theorem xQ {p:List(List Ins)} {a b:List Int}(h0:iQ p [a,b]=0):iR p=true/\a.length<=500/\b.length<=500:=by
 unfold iQ at h0;by_cases hv:iR p=true
 ·by_cases h5:a.length<=500
  ·by_cases h6:b.length<=500
   ·exact⟨hv,h5,h6⟩
   ·simp [hv,h5,h6]at h0
  ·simp [hv,h5]at h0
 ·simp [hv]at h0
def rV(p:List(List Ins))(a b:List Int):Bool:=mi(iF p a)(iF p b)&&(kC p(iF p a)==kC p(iF p b))
def Samed(p:List(List Ins))(a b:List Int)(w:World)(e:Ending)(w':World):Prop:=
 w.grownBy w' none/\((iQ p [a,b]=0/\e= .returned(.tuple #[.bool(rV p a b), .int .i64 0]))\/(iQ p [a,b]≠0/\e= .returned(.tuple #[.bool false, .int .i64(iQ p [a,b])])))
theorem Fa(p:List(List Ins))(a b:List Int)(pv av bv:Value)(w:World)(hS:ShpAt w)(hP:ProgAt w pv p)(hI:IntsAt w.heap.size w av a)(hJ:IntsAt w.heap.size w bv b):
  Calls Tryz.prog 34 #[pv,av,bv]w(Samed p a b w):=by
 have bm:=hZ hS;have HP:=hZ hP;have HI:=hZ hI;have HJ:=hZ hJ;obtain⟨ao,ag,rfl⟩:=hP.form;obtain⟨so,sc,rfl⟩:=hI.form;obtain⟨sp,sd,rfl⟩:=hJ.form;clear hS hP hI hJ;go_enter Tryz.func34,Tryz.ntmps34
 go_wp2_with fail
 have aQ:∀ x y,w.grownBy((w.alloc x).alloc y)none:=fun x y=>ij(ij(il _ _))
 refine(oy p [a,b]_ _ _(bm.out.pres(ie(aQ _ _)))(HP.out.pres(ie(aQ _ _)))(Bk(by simp))(by simp)).mono ?_;rintro e w1⟨rfl,aX⟩;have aU:Hid(w.grownBy w1 none):=ic(aQ _ _)aX;have ai:w1.heap[w.heap.size]?=some(.cells #[.slice ao p.length ag]37(0,0)):=by
  rw [aX.block w.heap.size(by simp;omega)(by simp),Below.heap_alloc _ _ _(by simp)];exact heap_alloc_new w _
 have c0:w1.cell?⟨w.heap.size,0,none⟩=some(.slice ao p.length ag):=by simp [World.cell?,ai]
 clear ai aX;by_cases h0:iQ p [a,b]=0
 ·have H0:=hZ h0;obtain⟨hv,h5,h6⟩:=xQ h0;have HV:=hZ hv;rw [h0];clear h0 hv;go_wp2_with fail
  refine(Ab HV.out(HP.out.pres(ie aU.out))).mono ?_;rintro e w2⟨m,rfl,hM,aq⟩;have HM:=hZ hM;have aL:Hid(w.grownBy w2 none):=ic aU.out aq;have c2:=ie aq _ _ c0;clear hM aq c0;go_wp2_with fail
  refine(uY HV.out HM.out(Nat.le_refl _)((HI.out.pres(ie aL.out)).mono aL.out.size)h5).mono ?_;rintro e w3⟨rv,rfl,hR,aw⟩;have a2:Hid(w.grownBy w3 none):=ic aL.out aw;have HR:=hZ hR;have c3:=ie aw _ _ c2;have bl:Hid(MachAt w2.heap.size w3 m p):=HM.out.grown'(Nat.le_refl _)aw;have a0:=aw.size;obtain⟨sv,gv,rfl,ax,ar⟩:=hR;obtain⟨x1,x2,x3,rfl⟩:=iq ax;obtain⟨y1,y2,y3,rfl⟩:=iq ar;clear aw c2 ax ar;have bk:Hid(IntsAt w2.heap.size w3(.slice sp b.length sd)b):=(HJ.out.pres(ie a2.out)).mono aL.out.size;go_wp2_with fail
  refine(uY HV.out bl.out a0 bk.out h6).mono ?_;rintro e w4⟨rv,rfl,bc,aB⟩;have aW:Hid(w.grownBy w4 none):=ic a2.out aB;have aY:=hZ aB;have a6:=hZ bc;have c4:=ie aB _ _ c3;obtain⟨sv,gv,rfl,ax,ar⟩:=bc;obtain⟨z1,z2,z3,rfl⟩:=iq ax;obtain⟨v1,v2,v3,rfl⟩:=iq ar;clear aB c3 ax ar;have bo:=hZ(fun(w:World)(h:w3.grownBy w none)(hP:ProgAt w(.agg #[.slice ao p.length ag])p)=>o8 HV.out a h5 HR.out w h(.agg #[.slice ao p.length ag])hP);have bq:=hZ(fun(w:World)(h:w4.grownBy w none)(hP:ProgAt w(.agg #[.slice ao p.length ag])p)=>o8 HV.out b h6 a6.out w h(.agg #[.slice ao p.length ag])hP);have a8:Hid(rV p a b=(mi(iF p a)(iF p b)&&(kC p(iF p a)==kC p(iF p b)))):=rfl;have br:Hid((kC p(iF p a)).length<=500):=by
   unfold Hid kC;rw [nj];obtain⟨xs,ba⟩:=ox HV.out a;rw [ba.ev];have h1:=nW p a;rw [ba.st]at h1;simp at h1;omega
  clear HR a6;generalize bn:iF p a=oa at*;generalize bu:iF p b=ob at*;clear bn bu;go_upto_region 6 with fail
  have aR:Hid(((w4.alloc(.cells #[.int .i64 oa.kind, .int .i64 oa.thread, .int .i64 oa.at_, .slice x1 x2 x3, .int .i64(oa.st.vars 0), .int .i64(oa.st.vars 1), .int .i64(oa.st.vars 2), .int .i64(oa.st.vars 3), .slice y1 y2 y3]31)).alloc(.cells #[.int .i64 ob.kind, .int .i64 ob.thread, .int .i64 ob.at_, .slice z1 z2 z3, .int .i64(ob.st.vars 0), .int .i64(ob.st.vars 1), .int .i64(ob.st.vars 2), .int .i64(ob.st.vars 3), .slice v1 v2 v3]31)).heap[w4.heap.size]?=some(.cells #[.int .i64 oa.kind, .int .i64 oa.thread, .int .i64 oa.at_, .slice x1 x2 x3, .int .i64(oa.st.vars 0), .int .i64(oa.st.vars 1), .int .i64(oa.st.vars 2), .int .i64(oa.st.vars 3), .slice y1 y2 y3]31)):=by
   unfold Hid;rw [Below.heap_alloc _ _ _(by simp)];exact heap_alloc_new _ _
  have aS:Hid(((w4.alloc(.cells #[.int .i64 oa.kind, .int .i64 oa.thread, .int .i64 oa.at_, .slice x1 x2 x3, .int .i64(oa.st.vars 0), .int .i64(oa.st.vars 1), .int .i64(oa.st.vars 2), .int .i64(oa.st.vars 3), .slice y1 y2 y3]31)).alloc(.cells #[.int .i64 ob.kind, .int .i64 ob.thread, .int .i64 ob.at_, .slice z1 z2 z3, .int .i64(ob.st.vars 0), .int .i64(ob.st.vars 1), .int .i64(ob.st.vars 2), .int .i64(ob.st.vars 3), .slice v1 v2 v3]31)).heap[w4.heap.size+1]?=some(.cells #[.int .i64 ob.kind, .int .i64 ob.thread, .int .i64 ob.at_, .slice z1 z2 z3, .int .i64(ob.st.vars 0), .int .i64(ob.st.vars 1), .int .i64(ob.st.vars 2), .int .i64(ob.st.vars 3), .slice v1 v2 v3]31)):=by
   have:=heap_alloc_new(w4.alloc(.cells #[.int .i64 oa.kind, .int .i64 oa.thread, .int .i64 oa.at_, .slice x1 x2 x3, .int .i64(oa.st.vars 0), .int .i64(oa.st.vars 1), .int .i64(oa.st.vars 2), .int .i64(oa.st.vars 3), .slice y1 y2 y3]31))(.cells #[.int .i64 ob.kind, .int .i64 ob.thread, .int .i64 ob.at_, .slice z1 z2 z3, .int .i64(ob.st.vars 0), .int .i64(ob.st.vars 1), .int .i64(ob.st.vars 2), .int .i64(ob.st.vars 3), .slice v1 v2 v3]31);unfold Hid;simpa using this
  have ad:Hid(w4.grownBy((w4.alloc(.cells #[.int .i64 oa.kind, .int .i64 oa.thread, .int .i64 oa.at_, .slice x1 x2 x3, .int .i64(oa.st.vars 0), .int .i64(oa.st.vars 1), .int .i64(oa.st.vars 2), .int .i64(oa.st.vars 3), .slice y1 y2 y3]31)).alloc(.cells #[.int .i64 ob.kind, .int .i64 ob.thread, .int .i64 ob.at_, .slice z1 z2 z3, .int .i64(ob.st.vars 0), .int .i64(ob.st.vars 1), .int .i64(ob.st.vars 2), .int .i64(ob.st.vars 3), .slice v1 v2 v3]31))none):=ij(ij(il _ _));generalize(w4.alloc(.cells #[.int .i64 oa.kind, .int .i64 oa.thread, .int .i64 oa.at_, .slice x1 x2 x3, .int .i64(oa.st.vars 0), .int .i64(oa.st.vars 1), .int .i64(oa.st.vars 2), .int .i64(oa.st.vars 3), .slice y1 y2 y3]31)).alloc(.cells #[.int .i64 ob.kind, .int .i64 ob.thread, .int .i64 ob.at_, .slice z1 z2 z3, .int .i64(ob.st.vars 0), .int .i64(ob.st.vars 1), .int .i64(ob.st.vars 2), .int .i64(ob.st.vars 3), .slice v1 v2 v3]31)=w5 at*;have au:Hid(∀ u,w5.grownBy u none->u.cell?⟨w.heap.size,0,none⟩=some(.slice ao p.length ag)/\(u.cell?⟨w4.heap.size,0,none⟩=some(.int .i64 oa.kind)/\u.cell?⟨w4.heap.size,1,none⟩=some(.int .i64 oa.thread)/\u.cell?⟨w4.heap.size,2,none⟩=some(.int .i64 oa.at_)/\u.cell?⟨w4.heap.size,3,none⟩=some(.slice x1 x2 x3)/\u.cell?⟨w4.heap.size,4,none⟩=some(.int .i64(oa.st.vars 0))/\u.cell?⟨w4.heap.size,5,none⟩=some(.int .i64(oa.st.vars 1))/\u.cell?⟨w4.heap.size,6,none⟩=some(.int .i64(oa.st.vars 2))/\u.cell?⟨w4.heap.size,7,none⟩=some(.int .i64(oa.st.vars 3))/\u.cell?⟨w4.heap.size,8,none⟩=some(.slice y1 y2 y3))/\(u.cell?⟨w4.heap.size+1,0,none⟩=some(.int .i64 ob.kind)/\u.cell?⟨w4.heap.size+1,1,none⟩=some(.int .i64 ob.thread)/\u.cell?⟨w4.heap.size+1,2,none⟩=some(.int .i64 ob.at_)/\u.cell?⟨w4.heap.size+1,3,none⟩=some(.slice z1 z2 z3)/\u.cell?⟨w4.heap.size+1,4,none⟩=some(.int .i64(ob.st.vars 0))/\u.cell?⟨w4.heap.size+1,5,none⟩=some(.int .i64(ob.st.vars 1))/\u.cell?⟨w4.heap.size+1,6,none⟩=some(.int .i64(ob.st.vars 2))/\u.cell?⟨w4.heap.size+1,7,none⟩=some(.int .i64(ob.st.vars 3))/\u.cell?⟨w4.heap.size+1,8,none⟩=some(.slice v1 v2 v3))):=fun u hu=>by
   have ka:u.heap[w4.heap.size]?=some(.cells #[.int .i64 oa.kind, .int .i64 oa.thread, .int .i64 oa.at_, .slice x1 x2 x3, .int .i64(oa.st.vars 0), .int .i64(oa.st.vars 1), .int .i64(oa.st.vars 2), .int .i64(oa.st.vars 3), .slice y1 y2 y3]31):=by rw [hu.block _(Array.getElem?_eq_some_iff.1 aR.out).1(by simp)];exact aR.out
   have kb:u.heap[w4.heap.size+1]?=some(.cells #[.int .i64 ob.kind, .int .i64 ob.thread, .int .i64 ob.at_, .slice z1 z2 z3, .int .i64(ob.st.vars 0), .int .i64(ob.st.vars 1), .int .i64(ob.st.vars 2), .int .i64(ob.st.vars 3), .slice v1 v2 v3]31):=by rw [hu.block _(Array.getElem?_eq_some_iff.1 aS.out).1(by simp)];exact aS.out
   obtain⟨p0,p1,p2,p3,p4,p5,p6,p7,p8,_⟩:=kA ka;obtain⟨q0,q1,q2,q3,q4,q5,q6,q7,q8,_⟩:=kA kb;exact⟨ie(ic ad.out hu)_ _ c4,⟨p0,p1,p2,p3,p4,p5,p6,p7,p8⟩,⟨q0,q1,q2,q3,q4,q5,q6,q7,q8⟩⟩
  have a7:Hid(∀ u,w5.grownBy u none->ProgAt u(.agg #[.slice ao p.length ag])p):=fun u hu=>HP.out.pres(ie(ic aW.out(ic ad.out hu)))
  obtain⟨_,⟨an,al,ak,_⟩,⟨ai,am,ap,_⟩⟩:=au.out w5(il _ _);clear c4 aR aS;go_wp2_with fail
  refine(pH oa ob _).mono ?_;rintro e w6⟨rfl,aV⟩;have ab:=hZ aV;have bi:Hid(w.grownBy w6 none):=ic aW.out(ic ad.out aV);clear aV an al ak ai am ap;cases hlk:mi oa ob
  ·have HE:Hid(rV p a b=false):=by unfold Hid;rw [a8.out,hlk];rfl
   clear hlk;go_wp2_with fail
   exact bodyPost_ret(v:= .tuple #[.bool false, .int .i64 0])(by simp [results,Tryz.results34,go_sem])rfl⟨bi.out,Or.inl⟨H0.out,by rw [HE.out]⟩⟩
  ·have HE:Hid(rV p a b=(kC p oa==kC p ob)):=by unfold Hid;rw [a8.out,hlk];rfl
   clear hlk;have aT:=au.out w6.drew(ir ab.out);go_wp2_with fail
   refine iu(fun u=>u.cell?⟨w.heap.size,0,none⟩=some(.slice ao p.length ag)/\(u.cell?⟨w4.heap.size,0,none⟩=some(.int .i64 oa.kind)/\u.cell?⟨w4.heap.size,1,none⟩=some(.int .i64 oa.thread)/\u.cell?⟨w4.heap.size,2,none⟩=some(.int .i64 oa.at_)/\u.cell?⟨w4.heap.size,3,none⟩=some(.slice x1 x2 x3)/\u.cell?⟨w4.heap.size,4,none⟩=some(.int .i64(oa.st.vars 0))/\u.cell?⟨w4.heap.size,5,none⟩=some(.int .i64(oa.st.vars 1))/\u.cell?⟨w4.heap.size,6,none⟩=some(.int .i64(oa.st.vars 2))/\u.cell?⟨w4.heap.size,7,none⟩=some(.int .i64(oa.st.vars 3))/\u.cell?⟨w4.heap.size,8,none⟩=some(.slice y1 y2 y3))/\(u.cell?⟨w4.heap.size+1,0,none⟩=some(.int .i64 ob.kind)/\u.cell?⟨w4.heap.size+1,1,none⟩=some(.int .i64 ob.thread)/\u.cell?⟨w4.heap.size+1,2,none⟩=some(.int .i64 ob.at_)/\u.cell?⟨w4.heap.size+1,3,none⟩=some(.slice z1 z2 z3)/\u.cell?⟨w4.heap.size+1,4,none⟩=some(.int .i64(ob.st.vars 0))/\u.cell?⟨w4.heap.size+1,5,none⟩=some(.int .i64(ob.st.vars 1))/\u.cell?⟨w4.heap.size+1,6,none⟩=some(.int .i64(ob.st.vars 2))/\u.cell?⟨w4.heap.size+1,7,none⟩=some(.int .i64(ob.st.vars 3))/\u.cell?⟨w4.heap.size+1,8,none⟩=some(.slice v1 v2 v3)))8(by kernel_rfl)(by kernel_rfl)aT ?_;intro aa;refine hY(i:=0)(v:= ?vva0)rfl(by kernel_rfl)(fun _ _ _ h=>h)(Or.inl⟨by rfl, ?hya0⟩)aa ?resta0
   case hya0=>(rintro u⟨aK,⟨an,al,ak,aA,aG,aO,aD,aM,aN⟩,⟨ai,am,ap,aC,aF,aP,aJ,aI,aE⟩⟩;go_simp;try with_reducible rfl)
   simp only [Act.put,List.setIfInBounds_toArray];refine hY(i:=1)(v:= ?vva1)rfl(by kernel_rfl)(fun _ _ _ h=>h)(Or.inl⟨by rfl, ?hya1⟩)aa ?resta1
   case hya1=>(rintro u⟨aK,⟨an,al,ak,aA,aG,aO,aD,aM,aN⟩,⟨ai,am,ap,aC,aF,aP,aJ,aI,aE⟩⟩;go_simp;try with_reducible rfl)
   simp only [Act.put];refine hY(i:=3)(v:= ?vva3)rfl(by kernel_rfl)(fun _ _ _ h=>h)(Or.inl⟨by rfl, ?hya3⟩)aa ?resta3
   case hya3=>(rintro u⟨aK,⟨an,al,ak,aA,aG,aO,aD,aM,aN⟩,⟨ai,am,ap,aC,aF,aP,aJ,aI,aE⟩⟩;go_simp;try with_reducible rfl)
   simp only [Act.put];refine hY(i:=4)(v:= ?vva4)rfl(by kernel_rfl)(fun _ _ _ h=>h)(Or.inl⟨by rfl, ?hya4⟩)aa ?resta4
   case hya4=>(rintro u⟨aK,⟨an,al,ak,aA,aG,aO,aD,aM,aN⟩,⟨ai,am,ap,aC,aF,aP,aJ,aI,aE⟩⟩;go_simp;try with_reducible rfl)
   simp only [Act.put];refine ip(i:=2)rfl(by kernel_rfl)(by kernel_rfl)(by rfl) ?_;intro K2 bb;have a3:=hZ bb;clear bb;go_simp;refine(bo.out _(ir(ic aY.out(ic ad.out ab.out)))(a7.out _(ir ab.out))).mono ?_;rintro e w7⟨fa,rfl,aH,be⟩;obtain⟨f1,f2,f3,rfl⟩:=iq aH;have bj:=iy aH;subst bj;have a4:=hZ(jw aH);have ah:Hid(w6.grownBy w7 none):=oX be;have af:=au.out w7(ic ab.out ah.out);refine a3.out _ _ af ?_;clear a3 aH be;try simp only [Act.put,List.setIfInBounds_toArray]
   refine ip(i:=5)rfl(by kernel_rfl)(by kernel_rfl)(by rfl) ?_;intro K5 a9;have a5:=hZ a9;clear a9;go_simp;refine(bq.out _(ic ad.out(ic ab.out ah.out))(a7.out _(ic ab.out ah.out))).mono ?_;rintro e w8⟨fb,rfl,az,a1⟩;obtain⟨g1,g2,g3,rfl⟩:=iq az;have aq:=iy az;subst aq;have bp:=hZ(jw az);have ay:=hZ a1;have aj:Hid(w5.grownBy w8 none):=ic ab.out(ic ah.out a1);have ae:=au.out w8 aj.out;refine a5.out _ _ ae ?_;clear a5 az a1;try simp only [Act.put,List.setIfInBounds_toArray]
   refine ip(i:=6)rfl(by kernel_rfl)(by kernel_rfl)(by rfl) ?_;intro K6 bf;have bd:=hZ bf;clear bf;go_simp;have bh:(kC p oa).length<=9223372036854775806:=by
    obtain⟨_,_,e,_⟩:=a4.out;have:=br.out;omega
   refine(Dq(kC p oa)(kC p ob)_ _ w8((a4.out.pres(ie ay.out)).mono ay.out.size)bp.out bh).mono ?_;rintro e w9⟨rfl,bg⟩;have aZ:w8.grownBy w9 none:=iH bg;have bt:Hid(w.grownBy w9 none):=ic(ic aW.out ad.out)(ic aj.out aZ);have ac:=au.out w9(ic aj.out aZ);refine bd.out _ _ ac ?_;clear bd bg aZ;try simp only [Act.put,List.setIfInBounds_toArray]
   refine hY(i:=7)(v:= ?vvb7)rfl(by kernel_rfl)(fun _ _ _ h=>h)(Or.inl⟨by rfl, ?hyb7⟩)ac ?restb7
   case hyb7=>(rintro u⟨aK,⟨an,al,ak,aA,aG,aO,aD,aM,aN⟩,⟨ai,am,ap,aC,aF,aP,aJ,aI,aE⟩⟩;go_simp;try with_reducible rfl)
   simp only [Act.put,List.setIfInBounds_toArray];refine iE rfl(by kernel_rfl)(by kernel_rfl)(by rfl) ?_;go_simp;generalize hz:(kC p oa==kC p ob)=z at*;clear hz aa af ae ac;go_wp2_with fail
   exact bodyPost_ret(v:= .tuple #[.bool z, .int .i64 0])(by simp [results,Tryz.results34,go_sem])rfl⟨bt.out,Or.inl⟨H0.out,by rw [HE.out]⟩⟩
 ·have H0:=hZ h0;have hne:(iQ p [a,b] !=0)=true:=by simpa using h0
  clear h0;generalize hE:iQ p [a,b]=e at*;have HE:=hZ hE;clear hE;go_wp2_with fail
  exact bodyPost_ret(v:= .tuple #[.bool false, .int .i64 e])(by simp [results,Tryz.results34,go_sem])rfl⟨aU.out,Or.inr⟨by rw [HE.out];exact H0.out,by rw [HE.out]⟩⟩
end
section
open Go.RowKit
attribute [local go_sem] Go.World.cell?_alloc_some
theorem un(l m:List Int)(v u:Value)(w:World)(hI:IntsAt w.heap.size w v l)(hJ:IntsAt w.heap.size w u m)(hln:l.length<=9223372036854775806):
  Calls Tryz.prog 61 #[v,u]w fun e w'=>e= .returned(.bool(l==m))/\jr w' w:=by
 obtain⟨ao,cap,rfl,hcap,hc⟩:=hI;obtain⟨bo,dap,rfl,hdap,hd⟩:=hJ;by_cases aa:l.length=m.length
 ·have HC:=hZ hc;have HD:=hZ hd;clear hc hd;have ai:(l.length:Int)=m.length:=by omega
  have ak:((l.length:Int) !=(m.length:Int))=false:=by simp;omega
  have af:=hZ aa;go_enter Tryz.func61,Tryz.ntmps61
  clear aa ai;go_wp2_with fail
  go_loopw [5](fun i w'=>∃ k:Nat,k<=l.length/\i= .int .i64 k/\Hid(jr w' w)/\Hid(l.take k=m.take k))(fun i _=>l.length - (intOf i).toNat)
  case atStart=>exact⟨0,Nat.zero_le _,rfl,hZ(Aa _),by simp [Hid]⟩
  case round=>
   obtain⟨k,hk,rfl,HK,HA⟩:=hrel;obtain⟨w5,aj⟩:∃ w5,w5=wr:=⟨_,rfl⟩;subst aj;by_cases ag:k<l.length
   ·have ac:k<m.length:=by have:=af.out;omega
    obtain⟨g,o,rfl,_,c0⟩:=HC.out k ag;obtain⟨g2,o2,rfl,_,c1⟩:=HD.out k ac;have cL:∀ a,w5.cell? a=w.cell? a:=fun a=>by simp [World.cell?,HK.out.1]
    have d0:w5.cell?⟨g,o+k,none⟩=some(.int .i64 l[k]):=by rw [cL];exact c0
    have d1:w5.cell?⟨g2,o2+k,none⟩=some(.int .i64 m[k]):=by rw [cL];exact c1
    have hk0:(0:Int)<=(k:Int):=by omega
    have hk1:(k:Int)<l.length:=by omega
    have hk2:(k:Int)<m.length:=by omega
    have ae:Hid(l.take(k+1)=l.take k++ [l[k]]):=List.take_succ_eq_append_getElem ag;have ad:Hid(m.take(k+1)=m.take k++ [m[k]]):=List.take_succ_eq_append_getElem ac;clear cL c0 c1;by_cases ab:l[k]=m[k]
    ·have hq:(l[k] !=m[k])=false:=by simpa using ab
     have ah:Hid(l.take(k+1)=m.take(k+1)):=by unfold Hid;rw [ae.out,ad.out,HA.out,ab]
     clear ab ae ad;generalize l[k]=x at*;generalize m[k]=y at*;go_wp2_with fail
     go_quiet(fail)
     go_wp2_with fail
     go_roundw
     case rel=>exact⟨k+1,by omega,by go_num,hZ(vi HK.out _),ah⟩
     case measure=>simp [intOf];omega
    ·have hq:(l[k] !=m[k])=true:=by simpa using ab
     have HE:Hid((l==m)=false):=by
      unfold Hid;simp only [beq_eq_false_iff_ne];intro e;apply ab;simp [e]
     clear ab ae ad;generalize l[k]=x at*;generalize m[k]=y at*;go_wp2_with fail
     go_quiet(fail)
     go_wp2_with fail
     go_ret;exact⟨by rw [HE.out];rfl,vi HK.out _⟩
   ·have HE:Hid((l==m)=true):=by
     unfold Hid;have h1:=HA.out;rw [List.take_of_length_le(by omega),List.take_of_length_le(by have:=af.out;omega)]at h1;simpa using h1
    have q2:(l.length:Int)<=(k:Int):=by omega
    go_wp2_with fail
    go_ret;exact⟨by rw [HE.out];rfl,HK.out⟩
 ·have HE:Hid((l==m)=false):=by
   unfold Hid;simp only [beq_eq_false_iff_ne];intro e;exact aa(by rw [e])
  have ak:((l.length:Int) !=(m.length:Int))=true:=by simp;omega
  clear hc hd;go_enter Tryz.func61,Tryz.ntmps61
  go_wp2_with fail
  go_ret;exact⟨by rw [HE.out];rfl,Aa _⟩
theorem vE {w w2:World} {b ab rb:Nat} {p:List(List Ins)} {ao:Option Addr} {aa:Nat} {st:Value} {o:Out} {xs:List Ev}(h:RunAt w w2 b ab rb p.length(.slice ao p.length aa)st o.st o.steps o.kind o.thread o.at_)(hs:sf p o xs)(hP:ProgAt w2(.agg #[.slice ao p.length aa])p):
  ∃ sao sc,st= .slice sao xs.length sc/\RunRead w2 b p xs o ao aa sao sc:=by
 obtain⟨x1,x2,x3,rfl⟩:=iq h.row;have hl:o.steps.length=xs.length:=by rw [hs.st,List.length_map]
 have hr:=h.row;rw [hl]at hr;have hx:=iy hr;subst hx;exact⟨x1,x3,rfl,hP,(h.cell 0).1,(h.cell 10).1,(h.cell 11).1,_,hr⟩
theorem Bz(p:List(List Ins))(s:List Int)(pv sv:Value)(w:World)(hP:ProgAt w pv p)(hI:IntsAt w.heap.size w sv s)(aw:p.length<=5864062014634)(ak:∀ c∈p,c.length<=4398046510976):
  Calls Tryz.prog 29 #[pv,sv]w(Formd p s w):=by
 have HP:=hZ hP;have HI:=hZ hI;have ay:=hZ ak;obtain⟨ao,ad,rfl⟩:=hP.form;obtain⟨so,sc,rfl⟩:=hI.form;clear hP hI ak;go_enter Tryz.func29,Tryz.ntmps29
 go_wp2_with fail
 have ah:∀ a,w.grownBy(w.alloc a)none:=fun a=>ij(il _ _)
 refine(mE p _ _(HP.out.pres(ie(ah _)))aw ay.out).mono ?_;rintro e w1⟨rfl,af⟩;have aa:Hid(w.grownBy w1 none):=ic(ah _)af;have aj:w1.heap[w.heap.size]?=some(.cells #[.slice ao p.length ad]37(0,0)):=by
  rw [af.block w.heap.size(by simp)(by simp)];exact heap_alloc_new w _
 have c0:w1.cell?⟨w.heap.size,0,none⟩=some(.slice ao p.length ad):=by simp [World.cell?,aj]
 clear aj af;by_cases hv:iR p=true
 ·have e0:je p=0:=by simp [je,hv]
  have HV:=hZ hv;rw [e0];clear e0 hv;by_cases h5:s.length<=500
  ·have an:(s.length:Int)<=500:=by omega
   have H0:Hid(iz p s=0):=by unfold Hid iz;simp [HV.out,h5]
   go_wp2_with fail
   have am:=hZ(pV w1 ao ad p _ s HV.out(HP.out.pres(ie aa.out))((HI.out.pres(ie aa.out)).mono aa.out.size)(by omega));refine(nC am).mono ?_;clear am;rintro e w2⟨b,ab,rb,st,rfl,hR⟩;have ae:Hid(w.grownBy w2 none):=ic aa.out hR.frame;obtain⟨xs,ac⟩:=ox HV.out s;obtain⟨av,aq,rfl,al⟩:=vE hR ac(HP.out.pres(ie ae.out));have ar:xs.length<=500:=by
    have h1:=nW p s;rw [ac.st]at h1;simp at h1;omega
   have HF:=hZ(rh HV.out ac ar w2 b ao ad av aq al);have ax:Hid(kC p(iF p s)=lM p xs):=by unfold Hid kC;rw [ac.ev]
   clear hR ac al c0;go_wp2_with fail
   refine(nC HF).mono ?_;clear HF;rintro e w3⟨v,rfl,ai,ag⟩;have au:=hZ ai;have ap:=hZ ag;clear ai ag;go_wp2_with fail
   exact bodyPost_ret(v:= .tuple #[v, .int .i64 0])(by simp [results,Tryz.results29,go_sem])rfl⟨ic ae.out ap.out,Or.inl⟨H0.out,v,rfl,by rw [ax.out];exact iN au.out ae.out.size⟩⟩
  ·have an:(500:Int)<s.length:=by omega
   have H0:Hid(iz p s=2):=by unfold Hid iz;simp [HV.out,h5]
   go_wp2_with fail
   exact bodyPost_ret(v:= .tuple #[.slice none 0 0, .int .i64 2])(by simp [results,Tryz.results29,go_sem])rfl⟨aa.out,Or.inr⟨by rw [H0.out];decide,by rw [H0.out]⟩⟩
 ·have e0:je p=1:=by simp [je,hv]
  have H0:Hid(iz p s=1):=by unfold Hid iz;simp [hv]
  rw [e0];clear e0 hv;go_wp2_with fail
  exact bodyPost_ret(v:= .tuple #[.slice none 0 0, .int .i64 1])(by simp [results,Tryz.results29,go_sem])rfl⟨aa.out,Or.inr⟨by rw [H0.out];decide,by rw [H0.out]⟩⟩
end
section
open Go.RowKit
attribute [local go_sem] Go.World.cell?_alloc_some
theorem qv(p:List(List Ins))(s:List Int)(h:(iF p s).kind=2):(iF p s).thread=0:=by
 have hc:=nb p s 0 St.zero [];change ∃ xs s',RunE p St.zero xs s'/\(iF p s).steps= []++xs.map Ev.pr/\(iF p s).st=s'/\((good xs/\xs.map Ev.tI=s/\(iF p s).kind=jN p s'/\(iF p s).thread=0/\(iF p s).at_=0)\/(good xs/\(∃ u r,s=xs.map Ev.tI++u::r/\nh p s' u=false)/\(iF p s).kind=2/\(iF p s).thread=0/\(iF p s).at_=0+xs.length)\/(∃ ys z r,xs=ys++ [z]/\good ys/\z.bad=true/\s=xs.map Ev.tI++r/\(iF p s).kind=1/\(iF p s).thread=z.tI/\(iF p s).at_=z.k))at hc
 obtain⟨xs,s',_,_,_,hc⟩:=hc;rcases hc with⟨_,_,_,g4,_⟩ | ⟨_,_,_,g4,_⟩ | ⟨us,z,r,_,_,_,_,g5,_⟩
 ·exact g4
 ·exact g4
 ·omega
theorem zo {a b:Out}(ha:a.kind=2->a.thread=0)(hb:b.kind=2->b.thread=0):mi a b=(a.kind==b.kind && a.thread==b.thread &&(a.kind==2 || a.at_==b.at_)):=by
 unfold mi;by_cases h:a.kind=2
 ·rw [if_pos h];by_cases h2:b.kind=2
  ·simp [h,h2,ha h,hb h2]
  ·have h3:¬(2:Int)=b.kind:=fun e=>h2 e.symm
   have h4:(b.kind==2)=false:=by simpa using h2
   have h5:((2:Int)==b.kind)=false:=by simpa using h3
   rw [h4,h,h5];simp
 ·have hb:(a.kind==2)=false:=by simpa using h
  rw [if_neg h,hb];simp
theorem BE(p:List(List Ins))(a b:List Int)(pv av bv:Value)(w:World)(hP:ProgAt w pv p)(hI:IntsAt w.heap.size w av a)(hJ:IntsAt w.heap.size w bv b)(a7:p.length<=5864062014634)(aP:∀ c∈p,c.length<=4398046510976):
  Calls Tryz.prog 35 #[pv,av,bv]w(Samed p a b w):=by
 have HP:=hZ hP;have HI:=hZ hI;have HJ:=hZ hJ;have a8:=hZ aP;obtain⟨ao,ai,rfl⟩:=hP.form;obtain⟨so,sc,rfl⟩:=hI.form;obtain⟨sp,sd,rfl⟩:=hJ.form;clear hP hI hJ aP;go_enter Tryz.func35,Tryz.ntmps35
 go_wp2_with fail
 have aJ:∀ a,w.grownBy(w.alloc a)none:=fun a=>ij(il _ _)
 refine(mE p _ _(HP.out.pres(ie(aJ _)))a7 a8.out).mono ?_;rintro e w1⟨rfl,aC⟩;have ah:Hid(w.grownBy w1 none):=ic(aJ _)aC;have aU:w1.heap[w.heap.size]?=some(.cells #[.slice ao p.length ai]37(0,0)):=by
  rw [aC.block w.heap.size(by simp)(by simp)];exact heap_alloc_new w _
 have c0:w1.cell?⟨w.heap.size,0,none⟩=some(.slice ao p.length ai):=by simp [World.cell?,aU]
 clear aU aC;by_cases hv:iR p=true
 ·have e0:je p=0:=by simp [je,hv]
  have HV:=hZ hv;rw [e0];clear e0 hv;by_cases h5:a.length<=500
  ·have aY:(a.length:Int)<=500:=by omega
   by_cases h6:b.length<=500
   ·have aZ:(b.length:Int)<=500:=by omega
    have H0:Hid(iQ p [a,b]=0):=by unfold Hid iQ;simp [HV.out,h5,h6]
    have ay:=hZ(pV w1 ao ai p(.slice so a.length sc)a HV.out(HP.out.pres(ie ah.out))((HI.out.pres(ie ah.out)).mono ah.out.size)(by omega));go_wp2_with fail
    refine(nC ay).mono ?_;clear ay;rintro e w2⟨b1,ab1,rb1,st1,rfl,am⟩;have az:=hZ am.frame;have al:Hid(w.grownBy w2 none):=ic ah.out am.frame;obtain⟨xs,ac⟩:=ox HV.out a;obtain⟨aE,a9,rfl,ap⟩:=vE am ac(HP.out.pres(ie al.out));have aX:xs.length<=500:=by
     have h1:=nW p a;rw [ac.st]at h1;simp at h1;omega
    obtain⟨_,d1,d2,d3,_,_,_⟩:=am.vcells;have c2:=ie az.out _ _ c0;have aH:=hZ(fun(u:World)(hu:w2.grownBy u none)=>rh HV.out ac aX u b1 ao ai aE a9(ap.grown hu));have ak:Hid(kC p(iF p a)=lM p xs):=by unfold Hid kC;rw [ac.ev]
    clear am ac ap c0;have ay:=hZ(pV w2 ao ai p(.slice sp b.length sd)b HV.out(HP.out.pres(ie al.out))((HJ.out.pres(ie al.out)).mono al.out.size)(by omega));go_wp2_with fail
    refine(nC ay).mono ?_;clear ay;rintro e w3⟨b2,ab2,rb2,st2,rfl,ax⟩;have ae:=hZ ax.frame;have aI:Hid(w.grownBy w3 none):=ic al.out ax.frame;obtain⟨ys,ad⟩:=ox HV.out b;obtain⟨aA,a0,rfl,au⟩:=vE ax ad(HP.out.pres(ie aI.out));have a1:ys.length<=500:=by
     have h1:=nW p b;rw [ad.st]at h1;simp at h1;omega
    obtain⟨_,f1,f2,f3,_,_,_⟩:=ax.vcells;have k1:=ie ae.out _ _ d1;have k2:=ie ae.out _ _ d2;have k3:=ie ae.out _ _ d3;have hl1:b1<w3.heap.size:=World.block_lt_of_cell? w3 _ k1;have hl2:b2<w3.heap.size:=World.block_lt_of_cell? w3 _ f1;have aN:=hZ(fun(u:World)(hu:w3.grownBy u none)=>rh HV.out ad a1 u b2 ao ai aA a0(au.grown hu));have aq:Hid(kC p(iF p b)=lM p ys):=by unfold Hid kC;rw [ad.ev]
    have aS:=hZ(zo(qv p a)(qv p b));have aw:Hid(rV p a b=(mi(iF p a)(iF p b)&&(kC p(iF p a)==kC p(iF p b)))):=rfl;rw [aS.out,ak.out,aq.out]at aw;clear ax ad au c2 d1 d2 d3 aS ak aq;have aG:=nj p xs;have a4:Hid((lM p xs).length<=500):=by unfold Hid;omega
    clear aG;generalize(iF p a).kind=ka at*;generalize(iF p a).thread=ta at*;generalize(iF p a).at_=aa at*;generalize(iF p b).kind=kb at*;generalize(iF p b).thread=tb at*;generalize(iF p b).at_=ab at*;go_upto_region 10 with fail
    obtain⟨w5,an⟩:∃ w5,w5=(w3.alloc(.cells #[.int .i64 ka, .int .i64 ta, .int .i64 aa]26)).alloc(.cells #[.int .i64 kb, .int .i64 tb, .int .i64 ab]26):=⟨_,rfl⟩;have af:Hid(w3.grownBy w5 none):=by unfold Hid;rw [an];exact ij(ij(il _ _))
    have z1:w5.heap[w3.heap.size]?=some(.cells #[.int .i64 ka, .int .i64 ta, .int .i64 aa]26(0,0)):=by
     rw [an,Below.heap_alloc _ _ _(by simp)];exact heap_alloc_new _ _
    have z2:w5.heap[w3.heap.size+1]?=some(.cells #[.int .i64 kb, .int .i64 tb, .int .i64 ab]26(0,0)):=by
     have:=heap_alloc_new(w3.alloc(.cells #[.int .i64 ka, .int .i64 ta, .int .i64 aa]26))(.cells #[.int .i64 kb, .int .i64 tb, .int .i64 ab]26);rw [an];simpa using this
    rw [<-an];clear an k1 k2 k3 f1 f2 f3;have m0:w5.cell?⟨w3.heap.size,0,none⟩=some(.int .i64 ka):=by simp [World.cell?,z1]
    have m1:w5.cell?⟨w3.heap.size,1,none⟩=some(.int .i64 ta):=by simp [World.cell?,z1]
    have m2:w5.cell?⟨w3.heap.size,2,none⟩=some(.int .i64 aa):=by simp [World.cell?,z1]
    have n0:w5.cell?⟨w3.heap.size+1,0,none⟩=some(.int .i64 kb):=by simp [World.cell?,z2]
    have n1:w5.cell?⟨w3.heap.size+1,1,none⟩=some(.int .i64 tb):=by simp [World.cell?,z2]
    have n2:w5.cell?⟨w3.heap.size+1,2,none⟩=some(.int .i64 ab):=by simp [World.cell?,z2]
    clear z1 z2;obtain⟨LK,aD⟩:∃ LK,LK=(ka==kb && ta==tb &&(ka==2 || aa==ab)):=⟨_,rfl⟩;rw [<-aD]at aw;have aj:=hZ aD;clear aD;go_cut [65](fun q w'=>q= .bool(!LK)/\w'=w5)
    case first=>
     by_cases e1:ka=kb
     ·subst e1;by_cases e2:ta=tb
      ·subst e2;by_cases e3:ka=2
       ·have a5:(ka !=2)=false:=by simpa using e3
        have hL:LK=true:=by rw [aj.out];simp [e3]
        have HL:=hZ hL;subst e3;clear hL;go_wp2_with fail
        go_meet
        exact⟨by rw [HL.out];rfl,rfl⟩
       ·have a5:(ka !=2)=true:=by simpa using e3
        by_cases e4:aa=ab
        ·subst e4;have hL:LK=true:=by rw [aj.out];simp
         have HL:=hZ hL;clear hL e3;go_wp2_with fail
         go_meet
         exact⟨by rw [HL.out];rfl,rfl⟩
        ·have e4':(aa !=ab)=true:=by simpa using e4
         have hL:LK=false:=by rw [aj.out];simp [e3,e4]
         have HL:=hZ hL;clear hL e3 e4;go_wp2_with fail
         go_meet
         exact⟨by rw [HL.out];rfl,rfl⟩
      ·have e2':(ta !=tb)=true:=by simpa using e2
       have hL:LK=false:=by rw [aj.out];simp [e2]
       have HL:=hZ hL;clear hL e2;go_wp2_with fail
       go_meet
       exact⟨by rw [HL.out];rfl,rfl⟩
     ·have e1':(ka !=kb)=true:=by simpa using e1
      have hL:LK=false:=by rw [aj.out];simp [e1]
      have HL:=hZ hL;clear hL e1;go_wp2_with fail
      go_meet
      exact⟨by rw [HL.out];rfl,rfl⟩
    case rest=>
    obtain⟨rfl,a6⟩:=hcut;have aB:=a6.symm;subst aB;clear m0 m1 m2 n0 n1 n2;have aT:Hid(w.grownBy w5 none):=ic aI.out af.out;cases LK with
    | false=>
     have HE:Hid(rV p a b=false):=by unfold Hid;rw [aw.out];rfl
     go_wp2_with fail
     exact bodyPost_ret(v:= .tuple #[.bool false, .int .i64 0])(by simp [results,Tryz.results35,go_sem])rfl⟨aT.out,Or.inl⟨H0.out,by rw [HE.out]⟩⟩
    | true=>
     have HE:Hid(rV p a b=(lM p xs==lM p ys)):=by unfold Hid;rw [aw.out];rfl
     clear aw aj;have aR:=hZ(aH.out w5(ic ae.out af.out));clear aH;go_wp2_with fail
     refine(nC aR).mono ?_;clear aR;rintro e w6⟨v6,rfl,aQ,aW⟩;have a3:=hZ aQ;have ar:=hZ aW;clear aQ aW;have aV:=hZ(aN.out w6(ic af.out ar.out));clear aN;go_wp2_with fail
     refine(nC aV).mono ?_;clear aV;rintro e w7⟨v7,rfl,aL,aK⟩;have a2:=hZ aL;have ag:=hZ aK;clear aL aK;have aO:=hZ(un(lM p xs)(lM p ys)v6 v7 w7(((jw a3.out).pres(ie ag.out)).mono ag.out.size)(jw a2.out)(by have:=a4.out;omega));go_wp2_with fail
     refine(nC aO).mono ?_;clear aO;rintro e w8⟨rfl,aM⟩;have aF:Hid(w7.grownBy w8 none):=iH aM;clear aM;go_wp2_with fail
     exact bodyPost_ret(v:= .tuple #[.bool(lM p xs==lM p ys), .int .i64 0])(by simp [results,Tryz.results35,go_sem])rfl⟨ic aT.out(ic ar.out(ic ag.out aF.out)),Or.inl⟨H0.out,by rw [HE.out]⟩⟩
   ·have aZ:(500:Int)<b.length:=by omega
    have H0:Hid(iQ p [a,b]=2):=by unfold Hid iQ;simp [HV.out,h6]
    go_wp2_with fail
    exact bodyPost_ret(v:= .tuple #[.bool false, .int .i64 2])(by simp [results,Tryz.results35,go_sem])rfl⟨ah.out,Or.inr⟨by rw [H0.out];decide,by rw [H0.out]⟩⟩
  ·have aY:(500:Int)<a.length:=by omega
   have H0:Hid(iQ p [a,b]=2):=by unfold Hid iQ;simp [HV.out,h5]
   go_wp2_with fail
   exact bodyPost_ret(v:= .tuple #[.bool false, .int .i64 2])(by simp [results,Tryz.results35,go_sem])rfl⟨ah.out,Or.inr⟨by rw [H0.out];decide,by rw [H0.out]⟩⟩
 ·have e0:je p=1:=by simp [je,hv]
  have H0:Hid(iQ p [a,b]=1):=by unfold Hid iQ;simp [hv]
  rw [e0];clear e0 hv;go_wp2_with fail
  exact bodyPost_ret(v:= .tuple #[.bool false, .int .i64 1])(by simp [results,Tryz.results35,go_sem])rfl⟨ah.out,Or.inr⟨by rw [H0.out];decide,by rw [H0.out]⟩⟩
end
section
open Go.RowKit
attribute [local go_sem] Go.World.cell?_alloc_some
def kz(p:List(List Ins))(s:List Int):List Int:=if iz p s=0 then kC p(iF p s)else []
theorem Formd.form {p:List(List Ins)} {s:List Int} {w w':World} {e:Ending}(h:Formd p s w e w'):
  w.grownBy w' none/\∃ v,e= .returned(.tuple #[v, .int .i64(iz p s)])/\w'.ownsRow w.heap.size 3 1 v(kz p s).length(iI(kz p s)):=by
 obtain⟨hg,h⟩:=h;rcases h with⟨h0,v,he,ho⟩ | ⟨h0,he⟩
 ·exact⟨hg,v,by rw [h0];exact he,by unfold kz;rw [if_pos h0];exact ho⟩
 ·exact⟨hg,_,he,by unfold kz;rw [if_neg h0];exact⟨rfl,Or.inl⟨rfl,rfl⟩⟩⟩
theorem tu(p:List(List Ins))(s:List Int):(kz p s).length<=500:=by
 unfold kz;by_cases h:iz p s=0
 ·rw [if_pos h];have hv:iR p=true/\s.length<=500:=by
   unfold iz at h;by_cases hv:iR p=true
   ·by_cases h5:s.length<=500
    ·exact⟨hv,h5⟩
    ·simp [hv,h5]at h
   ·simp [hv]at h
  obtain⟨xs,aa⟩:=ox hv.1 s;unfold kC;rw [nj,aa.ev];have h1:=nW p s;rw [aa.st]at h1;simp at h1;omega
 ·rw [if_neg h];simp
theorem Dj(W:World)(B:Nat)(w:World)(b:Nat)(who:Nat->Role)(n:Int)(f:Nat->Value)(K:Nat->List(Value × Int))(pv sv:Value)(p:List(List Ins))(s:List Int)
  (h:Hz B w b who n f K)(hW:W.grownBy w none)(ah:W.heap.size<=B)(hS:ShpAt W)(hP:ProgAt W pv p)(hI:IntsAt W.heap.size W sv s)(aW:p.length<=5864062014634)(aK:∀ c∈p,c.length<=4398046510976)(bj:s.length<=17592186043904)(bl:0<=n)(hn1:n<=9000000000000)(hK:∀ c,c<5->(K c).length<=4900000000000):
  Calls Tryz.prog 7 #[pt b,pv,sv]w(HzF W B b(n+1)K w who):=by
 have HH:=hZ h;have HW:=hZ hW;have HS:=hZ hS;have HP:=hZ hP;have HI:=hZ hI;have bv:=hZ aK;have HK:=hZ hK;obtain⟨ao,ak,rfl⟩:=hP.form;obtain⟨so,sc,rfl⟩:=hI.form;have au:pt b= .pointer(some⟨b,0,none⟩):=rfl;have aU:=hZ(ns W B(w.alloc(.cells #[.slice ao p.length ak]37))b who n f K [] [] [](.agg #[.slice ao p.length ak])p(h.lx.grown(ij(il _ _)))(ij hW)ah hP aW aK(by simpa using aW)(by simp));clear h hW hS hP hI aK hK;rw [au]at aU ⊢;go_enter Tryz.func7,Tryz.ntmps7
 go_wp2_with fail
 refine aU.out.mono ?_;clear aU;rintro e w1⟨g,LC1,ar,f1,rfl,ai,aE,az,bp⟩;have a2:who w.heap.size= .other:=by
  by_cases e:who w.heap.size= .other
  ·exact e
  ·exact absurd(HH.out.1.1.dom _ e).2(by omega)
 obtain⟨al,ap⟩:=az.oth w.heap.size(by simp)a2(fun e=>e);have aP:Hid(W.grownBy w1 none):=az.base(ij HW.out)ah(fun g e=>(HH.out.1.1.dom g e).1)(fun _ e=>e.elim);have bh:Hid(Fr w w1 who ar(fun g=>w.heap.size<=g)):=(Fr.grown(ij(il _ _))).step0 az;have c1:w1.cell?⟨w.heap.size,0,none⟩=some(.slice ao p.length ak):=by
  simp only [World.cell?,al,heap_alloc_new];rfl
 have an:w.heap.size<w1.heap.size:=World.block_lt_of_cell? w1 _ c1;have aY:LC1.length=p.length:=by rw [<-aE];simp
 simp only [List.nil_append]at ai;have aN:=hZ(lZ B w1 b ar n f1 K []LC1 [(g,p.length)]0(.slice so s.length sc)s ai((HI.out.pres(ie aP.out)).mono aP.out.size)(mC ai.hs ah HI.out)bj(by simp));have bf:=hZ ai;have br:=hZ aE;have bg:=hZ ap;have a0:=hZ aY;have a6:=hZ c1;clear ai aE az bp al a2 ap aY c1;rw [au]at aN;go_wp2_with fail
 refine aN.out.mono ?_;clear aN;rintro e w2⟨gs,aa,f2,rfl,af,ax⟩;simp only [List.nil_append]at af;have aV:Hid(W.grownBy w2 none):=ax.base aP.out ah(fun g e=>(bf.out.hs.1.dom g e).1)(fun _ e=>e.elim);have a4:Hid(Fr w w2 who aa(fun g=>w.heap.size<=g)):=bh.out.step0 ax;obtain⟨al,ap⟩:=ax.oth w.heap.size an bg.out(fun e=>e);have aM:=hZ ap;have aH:Hid(w2.cell?⟨w.heap.size,0,none⟩=some(.slice ao p.length ak)):=by
  unfold Hid;rw [World.cell?_of_block al];exact a6.out
 have hlt2:w.heap.size<w2.heap.size:=World.block_lt_of_cell? w2 _ aH.out;have ba:w2.heap[g]?=some(.cells(jx LC1)66(0,0)):=by
  have:=(af.le.lr 0(by simp)).1;simp only [List.getElem_cons_zero,List.take_zero,List.map_nil,List.sum_nil,List.drop_zero]at this;rw [List.take_of_length_le(by rw [a0.out];omega)]at this;exact this
 have be:ProgAt w2(.agg #[.slice(some⟨g,0,none⟩)p.length(p.length+2)])p:=np(LC0:= [])(by simpa using af.le)ba br.out _;have bb:IntsAt w2.heap.size w2(.slice(some⟨gs,0,none⟩)s.length(s.length+2))s:=l9(af.le.li(gs,s, .slice so s.length sc)(by simp)).1;have a8:=hZ(Gh p s _ _ w2(HS.out.pres(ie aV.out))be bb);have aj:=hZ af;clear af ax al ap ba be bb bf a6 bg an;go_wp2_with fail
 refine a8.out.mono ?_;clear a8;intro e w3 hF;obtain⟨aw,v,he,aO⟩:=hF.form;clear hF;subst he;obtain⟨x1,x2,x3,rfl⟩:=iq aO;have ay:=hZ aO;have ae:=hZ aw;have bu:Hid(W.grownBy w3 none):=ic aV.out aw;have aT:=hZ(rl B w3 b aa n f2 K _ _ _(aj.out.grown aw)(by simp)(by rw [a0.out];omega)(by simp));clear aO aw;rw [au]at aT;generalize a9:iz p s=cr at*;have bt:=hZ a9;clear a9;go_wp2_with fail
 refine aT.out.mono ?_;clear aT;rintro e w4⟨rfl,f4,bd,aq⟩;have aA:Hid(W.grownBy w4 none):=aq.base bu.out ah(fun g e=>(aj.out.hs.1.dom g e).1)(fun _ e=>e.elim);have bm:Hid(Fr w w4 who aa(fun g=>w.heap.size<=g)):=(a4.out.stepG ae.out).step0 aq;have av:∀ q,(Value.slice x1 x2 x3).ownBlock=some q->w2.heap.size<=q/\q<w3.heap.size/\aa q= .other:=fun q e=>by
  have h1:=iw ay.out q e;refine⟨h1,iW ay.out q e, ?_⟩;by_cases ho:aa q= .other
  ·exact ho
  ·exact absurd(aj.out.hs.1.dom q ho).2(by omega)
 have aQ:=hZ av;have a7:Hid(w4.ownsRow w2.heap.size 3 1(.slice x1 x2 x3)(kz p s).length(iI(kz p s))):=iJ ay.out(fun q e=>(aq.oth q(av q e).2.1(av q e).2.2(fun e=>e)).1);have c4:w4.cell?⟨w.heap.size,0,none⟩=some(.slice ao p.length ak):=by
  rw [World.cell?_of_block(aq.oth w.heap.size(by have:=ae.out.size;omega)aM.out(fun e=>e)).1];exact ie ae.out _ _ aH.out
 have aF:=hZ bd;have a3:=hZ(Bz p s _ _ w4(HP.out.pres(ie aA.out))((HI.out.pres(ie aA.out)).mono aA.out.size)aW bv.out);have bi:Hid(B<=w2.heap.size):=by
  have:=aj.out.low;unfold Hid;omega
 clear bd aq av ay aj aH;go_wp2_with fail
 refine a3.out.mono ?_;clear a3;intro e w5 hF;obtain⟨aR,v',he,aJ⟩:=hF.form;clear hF;subst he;rw [bt.out];obtain⟨y1,y2,y3,rfl⟩:=iq aJ;have aG:=hZ aR;have aC:Hid(w5.ownsRow w2.heap.size 3 1(.slice x1 x2 x3)(kz p s).length(iI(kz p s))):=iA a7.out aR(fun _ e=>by cases e);have aS:=hZ(tt(kz p s)(kz p s)_ _ w5(jw aC.out)(jw aJ)(by have:=tu p s;omega));rw [show(kz p s==kz p s)=true by simp]at aS;clear aR aJ a7 c4;go_wp2_with fail
 refine aS.out.mono ?_;clear aS;rintro e w6⟨rfl,bc⟩;have am:Hid(w5.grownBy w6 none):=iH bc;have ac:Hid(w4.grownBy w6 none):=ic aG.out am.out;have a5:Hid(w6.ownsRow B 3 1(.slice x1 x2 x3)(kz p s).length(iI(kz p s))):=iN(iA aC.out am.out(fun _ e=>by cases e))bi.out;have aD:=hZ(oB B w6 b aa n f4 K(.slice x1 x2 x3)(kz p s).length _(aF.out.1.grown ac.out)a5.out(fun q e=>(aQ.out q e).2.2)bl(by omega)(by have:=HK.out 0(by omega);omega)(by have:=tu p s;omega));clear bc aC a5;rw [au]at aD;go_wp2_with fail
 refine aD.out.mono ?_;clear aD;rintro e w7⟨⟨rv,rfl⟩,ab,f7,K7,aI,ag⟩;have bo:Hid(W.grownBy w6 none):=ic aA.out ac.out;have bn:Hid(W.grownBy w7 none):=ag.fr.base bo.out ah(fun g e=>(aF.out.1.1.dom g e).1)(fun q e=>by have:=(aQ.out q e).1;have:=aV.out.size;omega);have bk:Hid(Fr w w7 who ab(fun g=>w.heap.size<=g)):=(bm.out.stepG ac.out).trans(ag.fr.mono fun q e=>by have:=(aQ.out q e).1;have:=a4.out.size;omega);have aX:Hid(Hz B w7 b ab(n+1)f7 K7):=⟨aI,fun k hk=>by rw [ag.lent k hk];exact aF.out.2 k hk⟩;have aZ:Hid(∀ c,c<5->(K7 c).length<=(K c).length+4):=fun c hc=>by
  by_cases e:c=0
  ·subst e;have:=ag.len;omega
  ·rw [ag.oth c e];omega
 have aB:=hZ(qN B w7 b ab(n+1)f7 K7 aI(fun c hc=>by have:=aZ.out c hc;have:=HK.out c hc;omega));clear aI ag;rw [au]at aB;go_wp2_with fail
 refine aB.out.mono ?_;clear aB;rintro e w8⟨rfl,a1⟩;have ad:Hid(w7.grownBy w8 none):=iH a1;clear a1;go_wp2_with(go_at_call 23;refine(rs _ _).mono ?_;rintro e w9⟨rfl,bq⟩;have aL:=bq.symm;subst aL)
 go_ret;exact⟨by simp,ab,f7,K7,⟨aX.out.1.grown ad.out,aX.out.2⟩,ic bn.out ad.out,aZ.out,bk.out.stepG ad.out⟩
end
section
open Go.RowKit
attribute [local go_sem] Go.World.cell?_alloc_some
def sG(p:List(List Ins))(a b:List Int):Bool:=if iQ p [a,b]=0 then rV p a b else false
theorem Samed.form {p:List(List Ins)} {a b:List Int} {w w':World} {e:Ending}(h:Samed p a b w e w'):
  w.grownBy w' none/\e= .returned(.tuple #[.bool(sG p a b), .int .i64(iQ p [a,b])]):=by
 obtain⟨hg,h⟩:=h;rcases h with⟨h0,he⟩ | ⟨h0,he⟩
 ·exact⟨hg,by unfold sG;rw [if_pos h0,h0];exact he⟩
 ·exact⟨hg,by unfold sG;rw [if_neg h0];exact he⟩
theorem yD(W:World)(B:Nat)(w:World)(b:Nat)(who:Nat->Role)(n:Int)(f:Nat->Value)(K:Nat->List(Value × Int))(pv sv tv:Value)(p:List(List Ins))(s t:List Int)
  (h:Hz B w b who n f K)(hW:W.grownBy w none)(aj:W.heap.size<=B)(hS:ShpAt W)(hP:ProgAt W pv p)(hI:IntsAt W.heap.size W sv s)(hJ:IntsAt w.heap.size w tv t)(aX:valOther who tv)(aN:p.length<=5864062014634)(aG:∀ c∈p,c.length<=4398046510976)(bc:s.length<=17592186043904)(bb:t.length<=17592186043904):
  Calls Tryz.prog 9 #[pt b,pv,sv,tv]w(HzE W B b n K w who):=by
 have HH:=hZ h;have HW:=hZ hW;have HS:=hZ hS;have HP:=hZ hP;have HI:=hZ hI;have HJ:=hZ(And.intro hJ aX);have bl:=hZ aG;obtain⟨ao,ai,rfl⟩:=hP.form;obtain⟨so,sc,rfl⟩:=hI.form;obtain⟨ta,tc,rfl⟩:=hJ.form;have aC:pt b= .pointer(some⟨b,0,none⟩):=rfl;have aL:=hZ(ns W B(w.alloc(.cells #[.slice ao p.length ai]37))b who n f K [] [] [](.agg #[.slice ao p.length ai])p(h.lx.grown(ij(il _ _)))(ij hW)aj hP aN aG(by simpa using aN)(by simp));clear h hW hS hP hI hJ aX aG;rw [aC]at aL ⊢;go_enter Tryz.func9,Tryz.ntmps9
 go_wp2_with fail
 refine aL.out.mono ?_;clear aL;rintro e w1⟨g,LC1,au,f1,rfl,ak,aE,aw,bf⟩;have aR:who w.heap.size= .other:=by
  by_cases e:who w.heap.size= .other
  ·exact e
  ·exact absurd(HH.out.1.1.dom _ e).2(by omega)
 obtain⟨ad,ae⟩:=aw.oth w.heap.size(by simp)aR(fun e=>e);have aJ:Hid(W.grownBy w1 none):=aw.base(ij HW.out)aj(fun g e=>(HH.out.1.1.dom g e).1)(fun _ e=>e.elim);have ba:Hid(Fr w w1 who au(fun g=>w.heap.size<=g)):=(Fr.grown(ij(il _ _))).step0 aw;have c1:w1.cell?⟨w.heap.size,0,none⟩=some(.slice ao p.length ai):=by
  simp only [World.cell?,ad,heap_alloc_new];rfl
 have ap:w.heap.size<w1.heap.size:=World.block_lt_of_cell? w1 _ c1;have aO:LC1.length=p.length:=by rw [<-aE];simp
 simp only [List.nil_append]at ak;have ag:=hZ(lZ B w1 b au n f1 K []LC1 [(g,p.length)]0(.slice so s.length sc)s ak((HI.out.pres(ie aJ.out)).mono aJ.out.size)(mC ak.hs aj HI.out)bc(by simp));have a8:=hZ(mI HJ.out.1 HJ.out.2((Fr.grown(ij(il _ _))).trans aw));have a6:=hZ ak;have bi:=hZ aE;have a7:=hZ ae;have aP:=hZ aO;have aT:=hZ c1;clear ak aE aw bf ad aR ae aO c1;rw [aC]at ag;go_wp2_with fail
 refine ag.out.mono ?_;clear ag;rintro e w2⟨gs,aq,f2,rfl,ay,al⟩;simp only [List.nil_append]at ay;have bj:Hid(W.grownBy w2 none):=al.base aJ.out aj(fun g e=>(a6.out.hs.1.dom g e).1)(fun _ e=>e.elim);have bd:Hid(Fr w w2 who aq(fun g=>w.heap.size<=g)):=ba.out.step0 al;obtain⟨ad,ae⟩:=al.oth w.heap.size ap a7.out(fun e=>e);have am:=hZ ae;have aF:Hid(w2.cell?⟨w.heap.size,0,none⟩=some(.slice ao p.length ai)):=by
  unfold Hid;rw [World.cell?_of_block ad];exact aT.out
 have av:w.heap.size<w2.heap.size:=World.block_lt_of_cell? w2 _ aF.out;have aA:=hZ(mI a8.out.1 a8.out.2 al);have ag:=hZ(lZ B w2 b aq n f2 K [(gs,s, .slice so s.length sc)]LC1 [(g,p.length)]0(.slice ta t.length tc)t ay aA.out.1 aA.out.2 bb(by simp));have aQ:=hZ ay;clear ay al ad ae a6 aT a7 ap;rw [aC]at ag;go_wp2_with fail
 refine ag.out.mono ?_;clear ag;rintro e w3⟨gt,ab,f3,rfl,ah,an⟩;simp only [List.cons_append,List.nil_append]at ah;have a4:Hid(W.grownBy w3 none):=an.base bj.out aj(fun g e=>(aQ.out.hs.1.dom g e).1)(fun _ e=>e.elim);have bh:Hid(Fr w w3 who ab(fun g=>w.heap.size<=g)):=bd.out.step0 an;obtain⟨ad,ae⟩:=an.oth w.heap.size av am.out(fun e=>e);have aM:=hZ ae;have aD:Hid(w3.cell?⟨w.heap.size,0,none⟩=some(.slice ao p.length ai)):=by
  unfold Hid;rw [World.cell?_of_block ad];exact aF.out
 have hlt3:w.heap.size<w3.heap.size:=World.block_lt_of_cell? w3 _ aD.out;have aY:w3.heap[g]?=some(.cells(jx LC1)66(0,0)):=by
  have:=(ah.le.lr 0(by simp)).1;simp only [List.getElem_cons_zero,List.take_zero,List.map_nil,List.sum_nil,List.drop_zero]at this;rw [List.take_of_length_le(by rw [aP.out];omega)]at this;exact this
 have a5:ProgAt w3(.agg #[.slice(some⟨g,0,none⟩)p.length(p.length+2)])p:=np(LC0:= [])(by simpa using ah.le)aY bi.out _;have a0:IntsAt w3.heap.size w3(.slice(some⟨gs,0,none⟩)s.length(s.length+2))s:=l9(ah.le.li(gs,s, .slice so s.length sc)(by simp)).1;have a1:IntsAt w3.heap.size w3(.slice(some⟨gt,0,none⟩)t.length(t.length+2))t:=l9(ah.le.li(gt,t, .slice ta t.length tc)(by simp)).1;have aU:=hZ(Fa p s t _ _ _ w3(HS.out.pres(ie a4.out))a5 a0 a1);have aV:=hZ(mI aA.out.1 aA.out.2 an);have aH:=hZ ah;clear ah an ad ae aY a5 a0 a1 aQ aF am av;go_wp2_with fail
 refine aU.out.mono ?_;clear aU;intro e w4 hF;obtain⟨aB,he⟩:=hF.form;clear hF;subst he;have ac:=hZ aB;have bm:Hid(W.grownBy w4 none):=ic a4.out aB;have aK:=hZ(rl B w4 b ab n f3 K _ _ _(aH.out.grown aB)(by simp)(by rw [aP.out];omega)(by simp));clear aB;rw [aC]at aK;generalize aW:iQ p [s,t]=cr at*;generalize aZ:sG p s t=zz at*;have bk:=hZ aW;have be:=hZ aZ;clear aW aZ;go_wp2_with fail
 refine aK.out.mono ?_;clear aK;rintro e w5⟨rfl,f5,a2,ax⟩;have ar:Hid(W.grownBy w5 none):=ax.base bm.out aj(fun g e=>(aH.out.hs.1.dom g e).1)(fun _ e=>e.elim);have a3:Hid(Fr w w5 who ab(fun g=>w.heap.size<=g)):=(bh.out.stepG ac.out).step0 ax;have c5:w5.cell?⟨w.heap.size,0,none⟩=some(.slice ao p.length ai):=by
  rw [World.cell?_of_block(ax.oth w.heap.size(by have:=ac.out.size;omega)aM.out(fun e=>e)).1];exact ie ac.out _ _ aD.out
 have bg:=hZ(mI aV.out.1 aV.out.2((Fr.grown ac.out).trans ax));have az:=hZ a2;have aS:=hZ(BE p s t _ _ _ w5(HP.out.pres(ie ar.out))((HI.out.pres(ie ar.out)).mono ar.out.size)bg.out.1 aN bl.out);clear a2 ax aH aD;go_wp2_with fail
 refine aS.out.mono ?_;clear aS;intro e w6 hF;obtain⟨a9,he⟩:=hF.form;clear hF;subst he;rw [bk.out,be.out];have aa:=hZ a9;clear a9 c5;cases zz
 ·go_wp2_with(go_at_call 23;refine(rs _ _).mono ?_;rintro e w9⟨rfl,aI⟩;have af:=aI.symm;subst af)
  go_ret;exact⟨by simp,ab,f5,⟨az.out.1.grown aa.out,az.out.2⟩,ic ar.out aa.out,a3.out.stepG aa.out⟩
 ·go_wp2_with(go_at_call 23;refine(rs _ _).mono ?_;rintro e w9⟨rfl,aI⟩;have af:=aI.symm;subst af)
  go_ret;exact⟨by simp,ab,f5,⟨az.out.1.grown aa.out,az.out.2⟩,ic ar.out aa.out,a3.out.stepG aa.out⟩
end
section
open Go.RowKit
attribute [local go_sem] Go.World.cell?_alloc_some
end
section
open Go.RowKit
attribute [local go_sem] Go.World.cell?_alloc_some
def vj(i:Ins):List Value:= [.int .i64 i.op, .int .i64 i.a, .int .i64 i.b, .int .i64 i.n]
def jh(c:List Ins):List Value:=c.flatMap vj
theorem pG(c:List Ins)(i:Ins):jh(c++ [i])=jh c++vj i:=by simp [jh]
theorem qL:∀ (c:List Ins)(k:Nat)(hk:k<c.length),(jh c)[k*4]?=some(.int .i64 c[k].op)/\(jh c)[k*4+1]?=some(.int .i64 c[k].a)/\(jh c)[k*4+2]?=some(.int .i64 c[k].b)/\(jh c)[k*4+3]?=some(.int .i64 c[k].n)
 | [],k,hk=>by simp at hk
 | i::c,0,hk=>by simp [jh,vj]
 | i::c,k+1,hk=>by
  have h:=qL c k(by simpa using hk);have e:jh(i::c)=vj i++jh c:=by simp [jh]
  have e4:∀ j,(jh(i::c))[(k+1)*4+j]?=(jh c)[k*4+j]?:=fun j=>by
   rw [e,List.getElem?_append_right(by simp [vj];omega)];congr 1
   simp [vj];omega
  refine⟨?_, ?_, ?_, ?_⟩
  ·have:=e4 0;simp only [Nat.add_zero]at this;rw [this];simpa using h.1
  ·rw [e4 1];simpa using h.2.1
  ·rw [e4 2];simpa using h.2.2.1
  ·rw [e4 3];simpa using h.2.2.2
def CodeRow(L B:Nat)(w:World)(v:Value)(c:List Ins):Prop:=w.ownsRow L 65 4 v c.length(jh c)/\∀ h,v.ownBlock=some h->h<B
theorem CodeRow.codeAt {L B:Nat} {w:World} {v:Value} {c:List Ins}(h:CodeRow L B w v c):CodeAt w v c:=by
 obtain⟨h1,_⟩:=h;rcases h1.2 with⟨e,e0⟩ | ⟨g,cap,cur,hv,_⟩
 ·refine⟨none,0,by rw [e,e0],fun k hk=>by omega⟩
 ·refine⟨some⟨g,0,none⟩,cap,hv,fun k hk=>⟨g,0,rfl, ?_⟩⟩;rw [hv]at h1;have q:=qL c k hk;refine⟨?_, ?_, ?_, ?_⟩
  ·rw [Nat.zero_add,h1.cellAt _(by omega)];exact q.1
  ·rw [Nat.zero_add,h1.cellAt _(by omega)];exact q.2.1
  ·rw [Nat.zero_add,h1.cellAt _(by omega)];exact q.2.2.1
  ·rw [Nat.zero_add,h1.cellAt _(by omega)];exact q.2.2.2
theorem kF {w w':World} {base:Nat} {e:TypeId} {aa:Nat} {v:Value} {n:Nat} {xs:List Value} {r:Option Nat}(h:w.ownsRow base e aa v n xs)(hg:w.grownBy w' r)(hr:∀ k,r=some k->v.ownBlock≠some k):w'.ownsRow base e aa v n xs:=by
 obtain⟨h1,h2⟩:=h;refine⟨h1, ?_⟩;rcases h2 with h2 | ⟨g,cap,cur,hv,hb,hh,rest⟩
 ·exact Or.inl h2
 ·have ab:g<w.heap.size:=(Array.getElem?_eq_some_iff.1 hh).1;refine Or.inr⟨g,cap,cur,hv,hb, ?_,rest⟩;rw [hg.block g ab(fun e=>hr g e.symm(by rw [hv];rfl))];exact hh
theorem pY {w:World} {b1 b2 e1 e2 z1 z2:Nat} {v1 v2:Value} {n1 n2:Nat} {x1 x2:List Value}(h1:w.ownsRow b1 e1 z1 v1 n1 x1)(h2:w.ownsRow b2 e2 z2 v2 n2 x2)(he:e1≠e2):∀ k,v1.ownBlock=some k->v2.ownBlock≠some k:=by
 intro k hk aa;rcases h1.2 with⟨e,_⟩ | ⟨g,_,c1,hv,_,hh,_⟩
 ·rw [e]at hk;cases hk
 ·rcases h2.2 with⟨e,_⟩ | ⟨g',_,c2,hv',_,hh',_⟩
  ·rw [e]at aa;cases aa
  ·rw [hv]at hk;rw [hv']at aa;have e1:g=k:=by simpa [Value.ownBlock]using hk
   have e2:g'=k:=by simpa [Value.ownBlock]using aa
   rw [e1]at hh;rw [e2,hh]at hh';simp at hh';exact he hh'.2
def Apt(rows:List Value):Prop:=∀ (i j:Nat)(ri rj:Value),i<j->rows[i]?=some ri->rows[j]?=some rj->∀ g,ri.ownBlock=some g->rj.ownBlock≠some g
theorem Apt.nil:Apt []:=fun i j ri rj _ h=>by simp at h
def ThrAt(L B:Nat)(w:World)(tv:Value)(p:List(List Ins)):Prop:=
 ∃ rows,w.ownsRow L 66 1 tv p.length rows/\(∀ h,tv.ownBlock=some h->h<B)/\(∀ j(hj:j<p.length),(∃ rv,rows[j]?=some rv/\CodeRow L B w rv p[j]))/\Apt rows
theorem ThrAt.step {L B:Nat} {w w':World} {tv:Value} {p:List(List Ins)} {r:Option Nat}(h:ThrAt L B w tv p)(hg:w.grownBy w' r)(hr:∀ q,r=some q->q<L\/B<=q):ThrAt L B w' tv p:=by
 obtain⟨rows,h1,h2,h3,h4⟩:=h;refine⟨rows,kF h1 hg(fun k e e2=> ?_),h2,fun j hj=> ?_,h4⟩
 ·have:=h2 k e2;have:=iw h1 k e2;rcases hr k e with q | q<;>omega
 ·obtain⟨rv,e1,e2,e3⟩:=h3 j hj;refine⟨rv,e1,kF e2 hg(fun k e e4=> ?_),e3⟩;have:=e3 k e4;have:=iw e2 k e4;rcases hr k e with q | q<;>omega
theorem ThrAt.mono {L B B':Nat} {w:World} {tv:Value} {p:List(List Ins)}(h:ThrAt L B w tv p)(hb:B<=B'):ThrAt L B' w tv p:=by
 obtain⟨rows,h1,h2,h3,h4⟩:=h;refine⟨rows,h1,fun q e=>Nat.lt_of_lt_of_le(h2 q e)hb,fun j hj=> ?_,h4⟩;obtain⟨rv,e1,e2,e3⟩:=h3 j hj;exact⟨rv,e1,e2,fun q e=>Nat.lt_of_lt_of_le(e3 q e)hb⟩
theorem ThrAt.progAt {L B:Nat} {w:World} {tv:Value} {p:List(List Ins)}(h:ThrAt L B w tv p):ProgAt w(.agg #[tv])p:=by
 obtain⟨rows,h1,h2,h3,_⟩:=h;rcases h1.2 with⟨e,e0⟩ | ⟨g,cap,cur,hv,_⟩
 ·refine⟨none,0,by rw [e,e0],fun k hk=>by omega⟩
 ·refine⟨some⟨g,0,none⟩,cap,by rw [hv],fun j hj=>⟨g,0,rfl, ?_⟩⟩;obtain⟨rv,e1,e2⟩:=h3 j hj;rw [hv]at h1;exact⟨rv,by rw [Nat.zero_add,h1.cellAt j(by omega)];exact e1,e2.codeAt⟩
theorem ThrAt.snoc {L B0 B:Nat} {w w1 w2:World} {tv ae lv:Value} {p:List(List Ins)} {c:List Ins} {rows:List Value}(h:ThrAt L B0 w tv p)(al:B0<=B)(ah:∀ q,lv.ownBlock=some q->B0<=q)(ho:w.ownsRow L 66 1 tv p.length rows)(hl:CodeRow L B w lv c)(af:w.grownBy w1 none)
  (ak:w1.grownBy w2 tv.ownBlock)(ai:w2.ownsRow L 66 1 ae(p.length+1)(rows++ [lv]))(hB:B<=w2.heap.size)(ht:∀ q,ae.ownBlock=some q->q<w2.heap.size):ThrAt L w2.heap.size w2 ae(p++ [c]):=by
 obtain⟨aa,h1,h2,h3,h4⟩:=h;have ab:aa=rows:=by
  rcases h1.2 with⟨e,e0⟩ | ⟨g,cap,cur,hv,_,hh,_,_,_,ht1⟩
  ·have a1:=h1.1;have a2:=ho.1
   rw [e0]at a1 a2;rw [List.length_eq_zero_iff.1(by omega:aa.length=0),List.length_eq_zero_iff.1(by omega:rows.length=0)]
  ·rcases ho.2 with⟨e,e0⟩ | ⟨g',cap',cur',hv',_,hh',_,_,_,ht2⟩
   ·rw [e]at hv;cases hv
   ·rw [hv]at hv';simp at hv';obtain⟨e1,e2⟩:=hv';rw [<-e1,hh]at hh';simp at hh';rw [<-ht1,<-ht2,hh']
 subst ab;have ac:∀ {rv:Value} {c:List Ins},CodeRow L B w rv c->CodeRow L w2.heap.size w2 rv c:=fun {rv c} hc=>by
  have a1:=kF hc.1 af(fun k e=>by cases e);have a2:=kF h1 af(fun k e=>by cases e);exact⟨kF a1 ak(fun k e=>pY a2 a1(by decide)k e),fun q e=>Nat.lt_of_lt_of_le(hc.2 q e)hB⟩
 have aj:aa.length=p.length:=by have:=h1.1;omega
 refine⟨aa++ [lv],by simpa using ai,ht,fun j hj=> ?_,fun i j ri rj hij hi hj g e e'=> ?_⟩
 ·by_cases ad:j<p.length
  ·obtain⟨rv,e1,e2,e3⟩:=h3 j ad;exact⟨rv,by rw [List.getElem?_append_left(by omega)];exact e1,by rw [List.getElem_append_left ad];exact ac⟨e2,fun q e=>Nat.lt_of_lt_of_le(e3 q e)al⟩⟩
  ·have ej:j=p.length:=by simp at hj;omega
   subst ej;exact⟨lv,by rw [List.getElem?_append_right(by omega)];simp [aj],by simpa using ac hl⟩
 ·have ag:=(List.getElem?_eq_some_iff.1 hj).1;simp only [List.length_append,List.length_singleton]at ag;rw [List.getElem?_append_left(by omega)]at hi;by_cases ad:j<aa.length
  ·rw [List.getElem?_append_left ad]at hj;exact h4 i j ri rj hij hi hj g e e'
  ·have ej:j=aa.length:=by omega
   subst ej;rw [List.getElem?_append_right(Nat.le_refl _)]at hj;simp at hj;subst hj;obtain⟨rv,e1,_,e3⟩:=h3 i(by omega);rw [hi]at e1;cases e1
   have:=e3 g e;have:=ah g e';omega
theorem xy:((Tryz.prog.info? 65).map fun i=>(i.zero,i.size,i.bytes))=some(some(.agg #[.int .i64 0, .int .i64 0, .int .i64 0, .int .i64 0]),4,32):=by kernel_rfl
theorem AG:((Tryz.prog.info? 66).map fun i=>(i.zero,i.size,i.bytes))=some(some(.slice none 0 0),1,24):=by kernel_rfl
end
section
open Go.RowKit
attribute [local go_sem] Go.World.cell?_alloc_some
def oZ(c:Int):Prop:= -9223372036854775808<=c/\c<=9223372036854775807
theorem vV {w:World} {base e size:Nat} {v:Value} {n:Nat} {xs:List Value}(h:w.ownsRow base e size v n xs):∀ q,v.ownBlock=some q->q<w.heap.size:=fun q eq=>by
 rcases h.2 with⟨e1,_⟩ | ⟨g',_,_,hv,_,hh,_⟩
 ·rw [e1]at eq;cases eq
 ·rw [hv]at eq;have:=(Array.getElem?_eq_some_iff.1 hh).1;simp [Value.ownBlock]at eq;omega
theorem CA(i:Ins):∀ v∈vj i,v.oneCell'=true:=by
 intro v hv;simp only [vj,List.mem_cons,List.not_mem_nil,or_false]at hv
 rcases hv with rfl | rfl | rfl | rfl<;>rfl
end
section
open Go.RowKit
section
variable {P : Program} {w : World} {ops : Array Oper} {rest : List Oper} {o : Oper} {a : Act} {Q : Exit -> Act -> World -> Prop}
theorem kw(ap:o.guard=none)(s x:Operand)(t:TypeId)(ho:o.op= .call { callee:= .builtin .append,args:= #[s,x],argTypes:= #[t,t] })
  (base:Nat)(e:TypeId)(i:TypeInfo)(z:Value)(aa ac:Nat)(ht:P.underlying t=some(.slice e))(hi:P.info? e=some i)(hz:i.zero=some z)(aj:i.size=aa)(ak:i.bytes=ac)(am:z.cells.size=aa)(an:0<aa)
  (v:Value)(n:Nat)(xs:List Value)(hs:a.eval s=v)(ae:w.ownsRow base e aa v n xs)(so:Option Addr)(m c:Nat)(ab:List Value)(hx:a.eval x= .slice so m c)(hl:ab.length=m*aa)
  (al:so=none->m=0/\c=0)(ah:∀ ad,so=some ad->∀ j u,ab[j]?=some u->w.cell?(ad.add j)=some u)(h1:∀ u∈ab,u.oneCell'=true)(aq:n+m<=maxLen)(ag:(n+m)*ac<=140737488355328)(ai:base<=w.heap.size)
  (h:∀ ta tn tc w',w'.ownsRow base e aa(.slice ta tn tc)(n+m)(xs++ab)->w.grownBy w' v.ownBlock->wpList P ops Q rest(a.put o.dst(.slice ta tn tc))w'):wpList P ops Q(o::rest)a w:=by
 refine wpList_plain ap fun K hK=> ?_
 cases so with
 | none=>
  obtain⟨rfl,rfl⟩:=al rfl;have af:=run_append_owned_none(P:=P)w base t o.type e i aa ht hi v n xs ae;have ao:ab= []:=List.length_eq_zero_iff.1(by omega);obtain⟨ta,tn,tc,rfl⟩:=iq ae;unfold Oper.wp;simp [execOp,ho,resolve,invoke,builtin,hs,hx,af,Result.andThen];exact hK _ _(h _ _ _ w(by rw [ao];simpa using ae)(il _ _))
 | some ad=>
  obtain⟨v',w',af,h2,h3,h4,h5⟩:=run_append_own_at(P:=P)w base t o.type e i z aa ac ht hi hz aj ak am an v n xs ae ad m c ab hl(ah ad rfl)h1 aq ag ai;obtain⟨ta,tn,tc,rfl⟩:=iq h2;unfold Oper.wp;simp [execOp,ho,resolve,invoke,builtin,hs,hx,af,Result.andThen];exact hK _ _(h _ _ _ w' h2 h3)
end
end
section
open Go.RowKit
attribute [local go_sem] Go.World.cell?_alloc_some sE
end
section
open Go.RowKit
attribute [local go_sem] Go.World.cell?_alloc_some
theorem uy:((Tryz.prog.info? 3).map fun i=>(i.zero,i.size,i.bytes))=some(some(.int .i64 0),1,8):=by kernel_rfl
theorem Gf(n:Nat)(w:World)(hn:n<=1000000):
  Calls Tryz.prog 131 #[.slice none 0 0, .int .i64 n]w fun e w'=>∃ v,e= .returned v/\w'.ownsRow w.heap.size 3 1 v 0 []/\w.grownBy w' none:=by
 obtain⟨i0,ac,ab,hz1,ad⟩:=info_parts uy;rcases Nat.eq_zero_or_pos n with e | h0
 ·subst e;go_enter Tryz.func131,Tryz.ntmps131
  go_wp2
  go_ret;exact⟨_,rfl,⟨rfl,Or.inl⟨rfl,rfl⟩⟩,il _ _⟩
 ·have hr:∀ ty,(Builtin.append_ #[39,3]ty #[.slice none 0 0, .int .i64(n:Int)]).run Tryz.prog w=_:=fun ty=>Lib.run_append_nil_zeros w 39 3 ty 3 i0 _ .i64 .i64 Tryz.underlying39 Tryz.underlying3 ac ab n h0(by omega)(by omega)(by rw [ad];omega)
  have hGn:n<=grownCap w n 0 3:=grownCap_ge w _ _ _;have aa:grownCap w n 0 3<=maxLen:=grownCap_le_maxLen w n 0 3(by unfold maxLen;omega);generalize grownCap w n 0 3=G at*;have HF:Hid((w.drew.alloc(.cells(Builtin.zeroCells(Value.int .i64 0).cells n++Builtin.zeroCells(Value.int .i64 0).cells(G - n))3)).ownsRow w.heap.size 3 1(.slice(some⟨w.heap.size,0,none⟩)0 G)0 []):=by
   refine⟨rfl,Or.inr⟨w.heap.size,G,_,rfl,Nat.le_refl _,heap_alloc_new w.drew _,Nat.zero_le _,aa, ?_,by simp⟩⟩;simp [Builtin.zeroCells,Value.cells];omega
  have HG:Hid(w.grownBy(w.drew.alloc(.cells(Builtin.zeroCells(Value.int .i64 0).cells n++Builtin.zeroCells(Value.int .i64 0).cells(G - n))3))none):=⟨rfl,rfl,rfl,by simp,fun k hk _=>heap_alloc_old w.drew _ hk⟩;have h1:(0:Int)<(n:Int):=by omega
  have h2:(n:Int)<=1000000:=by omega
  have h3:(0:Int)<=(n:Int):=by omega
  generalize w.drew.alloc(.cells(Builtin.zeroCells(Value.int .i64 0).cells n++Builtin.zeroCells(Value.int .i64 0).cells(G - n))3)=w' at*;have h5:G<=9223372036854775807:=by unfold maxLen at aa;omega
  clear aa;go_enter Tryz.func131,Tryz.ntmps131
  go_wp2_with(at_builtin;refine Lib.wpList_append_run _ rfl _ _ _ _ rfl _ _ rfl rfl _ _(hr _) ?_)
  go_ret;exact⟨_,rfl,HF.out,HG.out⟩
def oH(x:Value):Prop:=∀ n c,x= .slice none n c->n=0/\c=0
def y9(w:World)(v:Value)(ss:List(List Int)):Prop:=
 ∃ g o cap,v= .slice(some⟨g,o,none⟩)ss.length cap/\g<w.heap.size/\∀ k(hk:k<ss.length),∃ x,w.cell?⟨g,o+k,none⟩=some x/\IntsAt w.heap.size w x ss[k]/\oH x
theorem pA(ss:List(List Int))(k:Nat)(hk:k<ss.length):(ss.take(k+1)).flatten=(ss.take k).flatten++ss[k]:=by
 rw [List.take_succ_eq_append_getElem hk,List.flatten_append];simp
theorem wq(ss:List(List Int))(k:Nat):(ss.take k).flatten.length<=ss.flatten.length:=by
 conv=>rhs;rw [<-List.take_append_drop k ss,List.flatten_append,List.length_append]
 omega
theorem BS {w:World} {g o c:Nat} {l:List Int}(h:IntsAt w.heap.size w(.slice(some⟨g,o,none⟩)l.length c)l):∀ j u,(iI l)[j]?=some u->w.cell?((⟨g,o,none⟩:Addr).add j)=some u:=by
 intro j u hj;obtain⟨ao,cap,e,_,h2⟩:=h;have hl:=(List.getElem?_eq_some_iff.1 hj).1;rw [jW]at hl;obtain⟨g',o',e1,e2,e3⟩:=h2 j hl;simp only [Value.slice.injEq]at e;rw [e1]at e;simp only [Option.some.injEq,Addr.mk.injEq,and_true]at e;obtain⟨⟨rfl,rfl⟩,_⟩:=e;have aa:(⟨g,o,none⟩:Addr).add j=⟨g,o+j,none⟩:=by unfold Addr.add;split<;>simp_all
 rw [aa,e3];have:(iI l)[j]?=some(.int .i64 l[j]):=by simp [iI,hl]
 rw [this]at hj;exact hj
theorem tx(ss:List(List Int))(sv:Value)(w:World)(hR:y9 w sv ss)(hn:ss.length<=1000)(ht:ss.flatten.length<=1000000):
  Calls Tryz.prog 89 #[sv]w fun e w'=>∃ v,e= .returned v/\w'.ownsRow w.heap.size 3 1 v ss.flatten.length(iI ss.flatten)/\w.grownBy w' none:=by
 obtain⟨i0,aC,aE,aH,ax⟩:=info_parts uy;obtain⟨g,o,cap,rfl,hg,hc⟩:=hR;have HC:=hZ hc;have hn':(ss.length:Int)<=1000:=by omega
 clear hc;go_enter Tryz.func89,Tryz.ntmps89
 go_wp2_with fail
 go_loopw [3,11](fun z i w'=>∃ k n:Nat,k<=ss.length/\i= .int .i64 k/\z= .int .i64 n/\Hid(n=(ss.take k).flatten.length)/\Hid(w'=w))(fun _ i _=>ss.length - (intOf i).toNat)
 case atStart=>exact⟨0,0,Nat.zero_le _,rfl,rfl,rfl,rfl⟩
 case round=>
  obtain⟨k,n,hk,rfl,rfl,HN,HW⟩:=hrel;obtain rfl:=HW.out.symm;clear HW;have aq:n<=1000000:=by have:=HN.out;have:=wq ss k;omega
  have ai:(n:Int)<=1000000:=by omega
  have aI:(0:Int)<=(n:Int):=by omega
  by_cases ab:k<ss.length
  ·obtain⟨x,c0,hI,ae⟩:=HC.out k ab;obtain⟨so,sc,rfl⟩:=hI.form;have au:n+ss[k].length<=1000000:=by
    have h1:=wq ss(k+1);rw [pA ss k ab,List.length_append]at h1;have:=HN.out;omega
   have af:Hid(n+ss[k].length=(ss.take(k+1)).flatten.length):=by
    unfold Hid;rw [pA ss k ab,List.length_append,HN.out]
   clear hI ae;generalize ss[k]=s at*;have hs0:(0:Int)<=(s.length:Int):=by omega
   have hs1:(n:Int)+(s.length:Int)<=1000000:=by omega
   have hs2:(0:Int)<=(n:Int)+(s.length:Int):=by omega
   have ay:(0:Int)<=(k:Int):=by omega
   have ag:(k:Int)<ss.length:=by omega
   go_wp2_with fail
   go_roundw
   case rel=>exact⟨k+1,n+s.length,by omega,by go_num,by go_num,af,(by first | exact trivial | rfl)⟩
   case measure=>simp [intOf];omega
  ·have ag:(ss.length:Int)<=(k:Int):=by omega
   have aA:Hid(n=ss.flatten.length):=by unfold Hid;rw [HN.out,List.take_of_length_le(by omega)]
   go_wp2_with(go_at_call 131;refine(Gf n _ aq).mono ?_;rintro e w1⟨v1,rfl,aa,ap⟩)
   obtain⟨a1,a2,a3,rfl⟩:=iq aa;have ak:=hZ aa;have ar:=hZ ap;clear aa ap HN aA aq ai aI hk ab ag;go_wp2_with fail
   go_loopw [6,27](fun v i w'=>∃ k:Nat,k<=ss.length/\i= .int .i64 k/\Hid(w'.ownsRow w.heap.size 3 1 v(ss.take k).flatten.length(iI(ss.take k).flatten))/\Hid(w.grownBy w' none))(fun _ i _=>ss.length - (intOf i).toNat)
   case atStart=>exact⟨0,Nat.zero_le _,rfl,ak,ar⟩
   case round=>
    clear ak ar;obtain⟨k,hk,rfl,HO,HG⟩:=hrel;obtain⟨w5,am⟩:∃ w5,w5=wr:=⟨_,rfl⟩;rw [<-am]at HO HG ⊢;clear am;by_cases ab:k<ss.length
    ·obtain⟨x,c0,hI,ae⟩:=HC.out k ab;obtain⟨so,sc,rfl⟩:=hI.form;have d0:=ie HG.out _ _ c0;have au:(ss.take k).flatten.length+ss[k].length<=1000000:=by
      have h1:=wq ss(k+1);rw [pA ss k ab,List.length_append]at h1;omega
     have af:Hid((ss.take(k+1)).flatten=(ss.take k).flatten++ss[k]):=pA ss k ab;have ah:Hid(IntsAt w5.heap.size w5(.slice so ss[k].length sc)ss[k]):=(hI.pres(ie HG.out)).mono HG.out.size;have al:Hid(so=none->ss[k].length=0/\sc=0):=fun e=>ae _ _(by rw [e])
     have an:Hid(∀ ad,so=some ad->∀ j u,(iI ss[k])[j]?=some u->w5.cell?(ad.add j)=some u):=by
      rintro ad rfl j u hj;have hl:=(List.getElem?_eq_some_iff.1 hj).1;rw [jW]at hl;obtain⟨ao,cp,e,_,h2⟩:=ah.out;obtain⟨g',o',e1,_⟩:=h2 0(by omega);simp only [Value.slice.injEq]at e;rw [e1]at e;simp only [Option.some.injEq]at e;obtain⟨rfl,_⟩:=e;exact BS ah.out j u hj
     clear c0 hI ae;generalize ss[k]=s at*;obtain⟨b1,b2,b3,hv⟩:=iq HO.out;have ay:(0:Int)<=(k:Int):=by omega
     have ag:(k:Int)<ss.length:=by omega
     have aB:(iI s).length=s.length*1:=by rw [jW];omega
     have aF:(ss.take k).flatten.length+s.length<=maxLen:=by unfold maxLen;omega
     have aD:w.heap.size<=w5.heap.size:=HG.out.size;have aG:=hZ(iw HO.out);go_wp2_with(at_builtin;refine kw rfl _ _ _ rfl w.heap.size 3 i0 _ 1 8 Tryz.underlying39 aC aE aH ax rfl(by omega)u6(ss.take k).flatten.length(iI(ss.take k).flatten)rfl HO.out so s.length sc(iI s)rfl aB al.out an.out(oT _)aF(by omega)aD ?_;intro ta tn tc w7 ac aj)
     have aw:Hid(w7.ownsRow w.heap.size 3 1(.slice ta tn tc)(ss.take(k+1)).flatten.length(iI(ss.take(k+1)).flatten)):=by
      unfold Hid;rw [af.out,List.length_append]
      have:iI((ss.take k).flatten++s)=iI(ss.take k).flatten++iI s:=by simp [iI]
      rw [this];exact ac
     have az:Hid(w.grownBy w7 none):=jD HG.out aj aG.out;clear ac aj HO HG af ah al an;go_wp2_with fail
     go_roundw
     case rel=>exact⟨k+1,by omega,by go_num,aw,az⟩
     case measure=>simp [intOf];omega
    ·have ag:(ss.length:Int)<=(k:Int):=by omega
     have av:Hid(w5.ownsRow w.heap.size 3 1 u6 ss.flatten.length(iI ss.flatten)):=by
      have:=HO.out;rwa [List.take_of_length_le(by omega)]at this
     go_wp2_with fail
     go_ret;exact⟨_,rfl,av.out,HG.out⟩
end
section
open Go.RowKit
attribute [local go_sem] Go.World.cell?_alloc_some
theorem CS {W:World} {x:Value} {l:List Int} {t:TypeId} {g:Nat}(hg:W.heap.size=g)(h:IntsAt W.heap.size W x l)(hn:oH x):y9(W.alloc(.cells #[x]t))(.slice(some⟨g,0,none⟩)1 1) [l]:=by
 subst hg;refine⟨W.heap.size,0,1,rfl,by simp,fun k hk=>⟨x, ?_, ?_,hn⟩⟩
 ·have aa:k=0:=by simp at hk;omega
  subst aa;have h:=heap_alloc_new W(.cells #[x]t);simp only [World.cell?,h];rfl
 ·have aa:k=0:=by simp at hk;omega
  subst aa;exact(h.pres(ie(ij(il _ _)))).mono(by simp)
theorem yh {W:World} {x y:Value} {l m:List Int} {t:TypeId} {g:Nat}(hg:W.heap.size=g)(h:IntsAt W.heap.size W x l)(hn:oH x)(h':IntsAt W.heap.size W y m)(ab:oH y):y9(W.alloc(.cells #[x,y]t))(.slice(some⟨g,0,none⟩)2 2) [l,m]:=by
 subst hg;have hb:=heap_alloc_new W(.cells #[x,y]t);have up:∀ {v:Value} {l:List Int},IntsAt W.heap.size W v l->IntsAt(W.alloc(.cells #[x,y]t)).heap.size(W.alloc(.cells #[x,y]t))v l:=fun h=>(h.pres(ie(ij(il _ _)))).mono(by simp)
 refine⟨W.heap.size,0,2,rfl,by simp,fun k hk=> ?_⟩;have aa:k=0\/k=1:=by simp at hk;omega
 rcases aa with rfl | rfl
 ·exact⟨x,by simp only [World.cell?,hb];rfl,up h,hn⟩
 ·exact⟨y,by simp only [World.cell?,hb];rfl,up h',ab⟩
theorem MachAt.mono {B B':Nat} {w:World} {m:Nat} {p:List(List Ins)}(H:MachAt B w m p)(hb:B<=B'):MachAt B' w m p:=by
 obtain⟨g,aa,h1,h2,h3,h4⟩:=H;refine⟨g,aa,by omega,by omega,h3,fun t ht=> ?_⟩;obtain⟨v,k1,k2⟩:=h4 t ht;exact⟨v,k1,k2.mono hb⟩
theorem IntsAt.front {B:Nat} {w:World} {ao:Option Addr} {aa n:Nat} {l:List Int}(h:IntsAt B w(.slice ao l.length aa)l)(hn:n<=l.length):IntsAt B w(.slice ao n aa)(l.take n):=by
 obtain⟨a,c,e,h1,h2⟩:=h;simp only [Value.slice.injEq,true_and]at e;obtain⟨rfl,rfl⟩:=e;refine⟨ao,aa,by simp [Nat.min_eq_left hn],by simp;omega,fun k hk=> ?_⟩;have ab:k<l.length:=by simp at hk;omega
 obtain⟨g,o,e1,e2,e3⟩:=h2 k ab;exact⟨g,o,e1,e2,by rw [List.getElem_take];exact e3⟩
theorem yV(o:Out)(w:World)(ac aa:Option Addr)(ab gl gc:Nat)(v0 v1 v2 v3:Int)(hl:o.steps.length<=1000):
  Calls Tryz.prog 90 #[.agg #[.int .i64 o.kind, .int .i64 o.thread, .int .i64 o.at_, .slice ac o.steps.length ab, .int .i64 v0, .int .i64 v1, .int .i64 v2, .int .i64 v3, .slice aa gl gc]]w fun e w'=>e= .returned(.int .i64(ko o))/\w.grownBy w' none:=by
 have hl':(o.steps.length:Int)<=1000:=by omega
 by_cases h2:o.kind=2
 ·have HE:Hid(((ko o:Nat):Int)=o.steps.length+1):=by unfold Hid ko;rw [if_pos h2];simp
  rw [h2];go_enter Tryz.func90,Tryz.ntmps90
  go_wp2_with fail
  go_ret;exact⟨by rw [HE.out];first | rfl | go_num,ij(il _ _)⟩
 ·have HE:Hid(((ko o:Nat):Int)=o.steps.length):=by unfold Hid ko;rw [if_neg h2]
  have hb:(o.kind==2)=false:=by simpa using h2
  clear h2;go_enter Tryz.func90,Tryz.ntmps90
  go_wp2_with fail
  go_ret;exact⟨by rw [HE.out];first | rfl | go_num,ij(il _ _)⟩
end
section
open Go.RowKit
theorem qP(k t a:Int)(sv gv:Value)(v0 v1 v2 v3:Value)(w:World):(Instr.field 31(.agg #[.int .i64 k, .int .i64 t, .int .i64 a,sv,v0,v1,v2,v3,gv])0).run Tryz.prog w= .ok(.agg #[.int .i64 k, .int .i64 t, .int .i64 a])w:=by
 simp [Instr.field,run_underlying Tryz.underlying31,asAgg,part,Tryz.isAgg26,Tryz.sizeOf26]
end
end Go.Proofs.YtklenjmfalljgabGreatDoor
