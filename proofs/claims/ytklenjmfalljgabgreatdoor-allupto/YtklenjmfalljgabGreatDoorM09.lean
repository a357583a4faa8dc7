/- The texts Hgj Hgk Hgl. -/
import Derived.Test.YtklenjmfalljgabGreatDoorM08
namespace Go.Proofs.YtklenjmfalljgabGreatDoor
set_option maxRecDepth 100000
set_option maxHeartbeats 8000000
section
open Go.RowKit
attribute [local go_sem] Go.World.cell?_alloc_some
theorem zU(n:Nat):(madeCells #[Value.int .i64 0,.int .i64 0,.int .i64 0,.int .i64 0] n).toList=List.replicate n (.int .i64 0):=by
 apply List.ext_getElem (by simp [madeCells]);intro i h1 a;simp only [madeCells,Array.toList_map,List.getElem_map,List.getElem_replicate];have:i<n:=by simpa using a
 simp only [Array.toList_range,List.getElem_range];rcases(by omega:i % 4=0\/i % 4=1\/i % 4=2\/i % 4=3)with h | h | h | h<;>simp [h]
theorem BU(c:List Ins):((kI c++(List.replicate ((c.length+2)*4) (Value.int .i64 0)).drop (c.length*4)).set (c.length*4) (.int .i64 (-77000000))).set ((c.length+1)*4) (.int .i64 (-77000000))=kI c++(nK++nK):=by
 have e:(List.replicate ((c.length+2)*4) (Value.int .i64 0)).drop (c.length*4)=List.replicate 8 (Value.int .i64 0):=by
  rw [List.drop_replicate];congr 1;omega
 have b:=ly c;rw [e,<-b,List.set_append,if_neg (by omega),Nat.sub_self,List.set_append,if_neg (by omega)];have a:(c.length+1)*4 - (kI c).length=4:=by omega
 rw [a];rfl
theorem A3:((Tryz.prog.info? 65).map fun i=>(i.zero,i.size,i.bytes))=some (some (.agg #[.int .i64 0,.int .i64 0,.int .i64 0,.int .i64 0]),4,32):=by kernel_rfl
theorem yj:((Tryz.prog.info? 66).map fun i=>(i.zero,i.size,i.bytes))=some (some (.slice none 0 0),1,24):=by kernel_rfl
theorem yQ:((Tryz.prog.info? 35).map fun i=>(i.zero,i.size,i.bytes))=some (some (.slice none 0 0),1,24):=by kernel_rfl
structure PgIn(B:Nat)(W w2 w':World)(b:Nat)(who2 who':Nat->Role)(n:Int)(f':Nat->Value)(K:Nat->List (Value × Int))(LI:List (Nat × List Int × Value))(LC LC1:List (Nat × List Ins × Value))(LR:List (Nat × Nat))(gr rb:Nat)(p:List (List Ins))(i:Nat):Prop where
 lx:Lx B w' b who' n f' K (EL LI (LC++LC1) LR) LI (LC++LC1) LR i
 map:LC1.map (·.2.1)=p.take i
 row:w'.heap[gr]?=some (.cells (LC1.map slC++List.replicate (p.length+2 - i) (Value.slice none 0 0)).toArray 66 (0,0))
 wg:who' gr= .lent
 ng:gr∉LI.map (·.1)++((LC++LC1).map (·.1)++LR.map (·.1))
 fr:Fr w2 w' who2 who' (fun _=>False)
 base:W.grownBy w' none
 res:w'.heap[rb]?=some (.cells #[.slice none 0 0] 37 (0,0))
 wr:who' rb= .lent
 nr:rb∉LI.map (·.1)++((LC++LC1).map (·.1)++LR.map (·.1))
 rg:rb≠gr
theorem PgIn.len{B:Nat}{W a w':World}{b:Nat}{m c:Nat->Role}{n:Int}{f:Nat->Value}{K:Nat->List (Value × Int)}{e:List (Nat × List Int × Value)}{k LC1:List (Nat × List Ins × Value)}{o:List (Nat × Nat)}{d j:Nat}{p:List (List Ins)}{i:Nat}
  (h:PgIn B W a w' b m c n f K e k LC1 o d j p i) (l:i<=p.length):LC1.length=i:=by
 have:=congrArg List.length h.map;simpa [Nat.min_eq_left l]using this
theorem Bv(L:List Value)(v:Value)(P i:Nat)(c:L.length=i)(hi:i<P):(L++List.replicate (P+2 - i) (Value.slice none 0 0)).set i v=(L++[v])++List.replicate (P+2 - (i+1)) (Value.slice none 0 0):=by
 obtain⟨k,a⟩:∃ k,P+2 - i=k+1:=⟨P+2 - (i+1),by omega⟩;have b:P+2 - (i+1)=k:=by omega
 rw [a,b,List.set_append,if_neg (by omega),c,Nat.sub_self,List.replicate_succ,List.set_cons_zero,List.append_assoc];rfl
theorem nh(W:World)(B:Nat)(w:World)(b:Nat)(who:Nat->Role)(n:Int)(f:Nat->Value)(K:Nat->List (Value × Int))(s:List (Nat × List Int × Value))(m:List (Nat × List Ins × Value))(q:List (Nat × Nat))(pv:Value)(p:List (List Ins))
  (h:Lx B w b who n f K (EL s m q) s m q 0) (hW:W.grownBy w none) (b8:W.heap.size<=B) (hP:ProgAt W pv p) (hp:p.length<=5864062014634) (b7:∀ c∈p,c.length<=4398046510976) (hLC:m.length+p.length<=5864062014634) (dm:q.length<=1000):
  Calls Tryz.prog 19 #[pt b,pv] w fun e w'=>∃ g LC1 who' f',e= .returned (.agg #[.slice (some ⟨g,0,none⟩) p.length (p.length+2)])/\Lx B w' b who' n f' K (EL s (m++LC1) (q++[(g,p.length)])) s (m++LC1) (q++[(g,p.length)]) 0/\LC1.map (·.2.1)=p/\Fr w w' who who' (fun _=>False)/\w'.heap[g]?=some (.cells (jC LC1) 66 (0,0)):=by
 obtain⟨i0,bI,di,cp,cJ⟩:=info_parts A3;obtain⟨i1,bj,bE,aZ,a3⟩:=info_parts yj;obtain⟨i2,dK,c9,dv,dl⟩:=info_parts yQ;have HH:=il h;have HW:=il hW;have db:=il hP;have cV:=il b7;have hb:=h.low;obtain⟨X,D,rfl⟩:=hP.form;have b1:pt b= .pointer (some ⟨b,0,none⟩):=rfl;rw [b1];clear h hP b1 b7 hW;have q0:(p.length:Int)<=5864062014634:=by omega
 have q1:(0:Int)<=(p.length:Int):=by omega
 have dp:(Tryz.prog.info? 65).map (·.size)=some 4:=by rw [bI];simp [cp]
 go_enter Tryz.func19,Tryz.ntmps19
 go_upto_region 2 with fail
 have aY:w.grownBy ((w.alloc (.cells #[.slice X p.length D] 37)).alloc (.cells #[.slice none 0 0] 37)) none:=ir (ir (iu _ _));have bn:((w.alloc (.cells #[.slice X p.length D] 37)).alloc (.cells #[.slice none 0 0] 37)).heap[w.heap.size]?=some (.cells #[.slice X p.length D] 37 (0,0)):=by
  rw [Below.heap_alloc _ _ _ (by simp)];exact heap_alloc_new _ _
 have bg:((w.alloc (.cells #[.slice X p.length D] 37)).alloc (.cells #[.slice none 0 0] 37)).heap[w.heap.size+1]?=some (.cells #[.slice none 0 0] 37 (0,0)):=by
  have:=heap_alloc_new (w.alloc (.cells #[.slice X p.length D] 37)) (.cells #[.slice none 0 0] 37);simpa using this
 have hz:((w.alloc (.cells #[.slice X p.length D] 37)).alloc (.cells #[.slice none 0 0] 37)).heap.size=w.heap.size+2:=by simp
 generalize (w.alloc (.cells #[.slice X p.length D] 37)).alloc (.cells #[.slice none 0 0] 37)=w1 at aY bn bg hz ⊢;go_upto_region 3 with (at_make;refine wpList_make_full _ rfl _ _ _ rfl w1.heap.size 66 i1 _ 1 Tryz.underlying35 bj bE aZ .i64 .i64 _ _ (p.length+2) rfl rfl (by simp) (by simp) (by rw [a3];omega) (by unfold maxLen;omega) (by simp) ?_;intro O bV aN)
 have a7:O.heap[w1.heap.size]?=some (.cells (List.replicate (p.length+2) (Value.slice none 0 0)).toArray 66 (0,0)):=by
  rcases bV.2 with ⟨e,_⟩ | ⟨g',bf,cur,hv,_,hh,_,_,aX,htk⟩
  ·cases e
  ·simp only [Value.slice.injEq,Option.some.injEq,Addr.mk.injEq,true_and,and_true]at hv;obtain⟨rfl,rfl⟩:=hv;rw [hh];have F:cur.toList=List.replicate (p.length+2) (Value.slice none 0 0):=by
    rw [<-toList_madeCells_one];simp only [Value.cells,Nat.mul_one]at htk aX;rw [<-htk,List.take_of_length_le (by simp;omega)]
   rw [<-F]
 have b6:w1.heap.size<O.heap.size:=(Array.getElem?_eq_some_iff.1 a7).1;have bm:=ip aY aN;have ci:O.heap[w.heap.size]?=some (.cells #[.slice X p.length D] 37 (0,0)):=by rw [aN.block _ (by omega) (by simp)];exact bn
 have cv:O.heap[w.heap.size+1]?=some (.cells #[.slice none 0 0] 37 (0,0)):=by rw [aN.block _ (by omega) (by simp)];exact bg
 obtain⟨cw,bL⟩:=HH.out.new2 bm (g1:=w1.heap.size) (g2:=w.heap.size+1) (by omega) b6 (by omega) (by omega);have H0:Hid (PgIn B W O O b (setW (setW who w1.heap.size .lent) (w.heap.size+1) .lent) (setW (setW who w1.heap.size .lent) (w.heap.size+1) .lent) n f K s m [] q w1.heap.size (w.heap.size+1) p 0):=by
  refine⟨by simpa using cw,by simp,by simpa using a7,by rw [iO _ _ (by omega)];exact jD _ _ _,fun e=>?_,Fr.refl _ _ _,ip HW.out bm,cv,jD _ _ _,fun e=>?_,by omega⟩
  ·have:=(HH.out.le.lt _ (by simpa using e)).1;omega
  ·have:=(HH.out.le.lt _ (by simpa using e)).1;omega
 have bR:setW (setW who w1.heap.size .lent) (w.heap.size+1) .lent w.heap.size= .other:=by
  rw [iO _ _ (by omega),iO _ _ (by omega)];by_cases e:who w.heap.size= .other
  ·exact e
  ·exact absurd (HH.out.hs.1.dom w.heap.size e).2 (by omega)
 have bA:=il bL;have av:=il bR;have b2:=il ci;have a8:w.heap.size<O.heap.size/\w.heap.size+1<O.heap.size:=by omega
 clear aY bn bg bV aN a7 bm ci cv cw bL bR;rw [hz]at H0 bA av;obtain⟨d,aW⟩:∃ d,d=w.heap.size+2:=⟨_,rfl⟩;rw [<-aW]at H0 bA av;generalize setW (setW who d .lent) (w.heap.size+1) .lent=who2 at*;clear hz b6;go_upto_region 4 with fail
 rw [<-aW];have HGR:=il aW;clear aW;go_loopw [7] (fun v w'=>∃ (i:Nat) (LC1:List (Nat × List Ins × Value)) (who':Nat->Role) (f':Nat->Value),i<=p.length/\v= .int .i64 i/\Hid (PgIn B W O w' b who2 who' n f' K s m LC1 q d (w.heap.size+1) p i)) (fun v _=>p.length - (intOf v).toNat)
 case atStart=>exact⟨0,[],who2,f,Nat.zero_le _,rfl,H0⟩
 case round=>
  clear H0;obtain⟨i,LC1,ak,Q,hi,rfl,x⟩:=hrel;obtain⟨a,b4⟩:∃ a,a=wr:=⟨_,rfl⟩;rw [<-b4]at x ⊢;clear b4;have dE:=x.out.len hi;by_cases ad:i<p.length
  ·obtain⟨dC,bf,F,cl⟩:=db.out;obtain⟨I,Y,Z,rv,r1,r2⟩:=cl i ad;simp only [Value.agg.injEq,Array.mk.injEq,List.cons.injEq,Value.slice.injEq,and_true,true_and]at F;obtain⟨F,cQ⟩:=F;subst F cQ Z;have c7:p[i].length<=4398046510976:=cV.out _ (List.getElem_mem ad);obtain⟨z,y,rfl⟩:∃ z y,rv= .slice z p[i].length y:=⟨_,_,r2.choose_spec.choose_spec.1⟩;have d0:a.cell? ⟨I,Y+i,none⟩=some (.slice z p[i].length y):=iq x.out.base _ _ r1;have b9:=(x.out.fr.oth w.heap.size a8.1 av.out (fun e=>e)).1;have c0:a.cell? ⟨w.heap.size,0,none⟩=some (.slice (some ⟨I,Y,none⟩) p.length D):=by
    rw [World.cell?_of_block b9];have:=b2.out;simp [World.cell?,this]
   have cq:=il r1;have bv:=il r2;have de:Hid (p.take (i+1)=p.take i++[p[i]]):=List.take_succ_eq_append_getElem ad;clear r1 r2 cl b9;generalize p[i]=c at*;have t0:(0:Int)<=(i:Int):=by omega
   have t1:(i:Int)<p.length:=by omega
   have t2:(c.length:Int)<=4398046510976:=by omega
   have t3:(0:Int)<=(c.length:Int):=by omega
   go_upto_region 8 with (at_make;refine wpList_make_full _ rfl _ _ _ rfl a.heap.size 65 i0 _ 4 Tryz.underlying66 bI di cp .i64 .i64 _ _ (c.length+2) rfl rfl (by simp) (by simp) (by rw [cJ];omega) (by unfold maxLen;omega) (by simp) ?_;intro w6 cm aA)
   have dc:∃ cur,w6.heap[a.heap.size]?=some (.cells cur 65 (0,0))/\cur.toList=List.replicate ((c.length+2)*4) (.int .i64 0):=by
    rcases cm.2 with ⟨e,_⟩ | ⟨g',bf,cur,hv,_,hh,_,_,aX,htk⟩
    ·cases e
    ·simp only [Value.slice.injEq,Option.some.injEq,Addr.mk.injEq,true_and,and_true]at hv;obtain⟨rfl,rfl⟩:=hv;refine⟨cur,hh,?_⟩;rw [<-zU];simp only [Value.cells]at htk;rw [<-htk,List.take_of_length_le (by simp;omega)]
   obtain⟨cur,bY,bl⟩:=dc;have aX:cur.size=(c.length+2)*4:=by have:=congrArg List.length bl;simpa using this
   have cf:=ip x.out.base aA;have d6:w6.cell? ⟨I,Y+i,none⟩=some (.slice z c.length y):=iq aA _ _ d0;have c6:w6.cell? ⟨w.heap.size,0,none⟩=some (.slice (some ⟨I,Y,none⟩) p.length D):=iq aA _ _ c0;obtain⟨w7,dt,al,aj⟩:=tV w6 66 3 65 Tryz.underlying66 dp a.heap.size (c.length+2) (c.length+2) (.slice z c.length y) c (bv.out.pres (iq cf)) cur 65 bY (by omega) (by omega);rw [bl]at al;have aq:=il aA;clear cm aA d0 c0 bY bl;go_upto_region 9 with fail
   clear dt d6 c6;obtain⟨R,hR⟩:∃ R:Array Value,R=(kI c++(List.replicate ((c.length+2)*4) (Value.int .i64 0)).drop (c.length*4)).toArray:=⟨_,rfl⟩;rw [<-hR]at al;have dg:R.size=(c.length+2)*4:=by rw [hR];simp [ly];omega
   have bH:Hid ((R.setIfInBounds (c.length*4) (.int .i64 (-77000000))).setIfInBounds ((c.length+1)*4) (.int .i64 (-77000000))=kd c):=by
    unfold Hid;rw [hR];simp only [List.setIfInBounds_toArray,kd];rw [BU];rfl
   have aL:=heap_setCell_same w7 a.heap.size (c.length*4) R 65 (.int .i64 (-77000000)) al;have ar:=heap_setCell_same _ a.heap.size ((c.length+1)*4) _ 65 (.int .i64 (-77000000)) aL;rw [bH.out]at ar;have d7:∃ u,w7.cell? ⟨a.heap.size,c.length*4,none⟩=some u:=⟨R[c.length*4]'(by omega),by simp only [World.cell?,al];exact Array.getElem?_eq_getElem _⟩;have d8:∃ u,(w7.setCell ⟨a.heap.size,c.length*4,none⟩ (.int .i64 (-77000000))).cell? ⟨a.heap.size,(c.length+1)*4,none⟩=some u:=⟨(R.setIfInBounds (c.length*4) (.int .i64 (-77000000)))[(c.length+1)*4]'(by simp;omega),by simp only [World.cell?,aL];exact Array.getElem?_eq_getElem _⟩;obtain⟨u7,d7⟩:=d7;obtain⟨u8,d8⟩:=d8;have z7:w7.frozen? ⟨a.heap.size,c.length*4,none⟩=false:=by simp [World.frozen?,al]
   have z8:(w7.setCell ⟨a.heap.size,c.length*4,none⟩ (.int .i64 (-77000000))).frozen? ⟨a.heap.size,(c.length+1)*4,none⟩=false:=by simp [World.frozen?,aL]
   have bG:a.grownBy w7 none:=⟨aj.os.trans aq.out.os,aj.tape.trans aq.out.tape,aj.output.trans aq.out.output,Nat.le_trans aq.out.size aj.size,fun k hk _=>by
    rw [aj.block k (Nat.lt_of_lt_of_le hk aq.out.size) (by simp;omega)];exact aq.out.block k hk (by simp)⟩
   obtain⟨C,aQ⟩:∃ C,C=(w7.setCell ⟨a.heap.size,c.length*4,none⟩ (.int .i64 (-77000000))).setCell ⟨a.heap.size,(c.length+1)*4,none⟩ (.int .i64 (-77000000)):=⟨_,rfl⟩;have aM:a.grownBy C none:=by rw [aQ];exact iG (iG bG (Nat.le_refl _)) (Nat.le_refl _)
   rw [<-aQ]at ar;have cC:a.heap.size<C.heap.size:=(Array.getElem?_eq_some_iff.1 ar).1;have bW:=il aQ;clear aQ al aL aj hR dg bG bH aX cf;go_upto_region 11 with fail
   rw [<-bW.out];clear bW d7 d8 z7 z8 u7 u8;obtain⟨ch,bM⟩:=x.out.lx.new aM (g:=a.heap.size) (Nat.le_refl _) cC;have ai:=il ch;have cb:=il (x.out.fr.trans bM);have cY:=il ar;have b5:Hid (setW ak a.heap.size .lent a.heap.size= .lent):=jD _ _ _;have dx:d<a.heap.size:=(Array.getElem?_eq_some_iff.1 x.out.row).1;have bT:Hid (C.heap[d]?=some (.cells (LC1.map slC++List.replicate (p.length+2 - i) (Value.slice none 0 0)).toArray 66 (0,0))/\setW ak a.heap.size .lent d= .lent):=by
    refine⟨by rw [aM.block _ dx (by simp)];exact x.out.row,?_⟩;rw [iO _ _ (by omega)];exact x.out.wg
   have dd:Hid (a.heap.size∉s.map (·.1)++((m++LC1).map (·.1)++q.map (·.1))):=fun e=>by have:=(x.out.lx.le.lt _ e).1;omega
   have cK:=il (ip x.out.base aM);have cW:=il x.out.map;have dB:=il x.out.ng;have cF:=il x.out.nr;have cy:=il x.out.rg;have cU:w.heap.size+1<a.heap.size:=(Array.getElem?_eq_some_iff.1 x.out.res).1;have cu:Hid (C.heap[w.heap.size+1]?=some (.cells #[.slice none 0 0] 37 (0,0))/\setW ak a.heap.size .lent (w.heap.size+1)= .lent):=by
    refine⟨by rw [aM.block _ cU (by simp)];exact x.out.res,?_⟩;rw [iO _ _ (by omega)];exact x.out.wr
   have a4:=il (Ds s (m++LC1) q a.heap.size c (.slice z c.length y));have hE2:(EL s (m++LC1) q 2).length<=5864062014634:=by simp only [EL,List.length_map,List.length_append];omega
   have ds:(EL s (m++LC1) q 3).length<=5864062014634:=by simp only [EL,List.length_map,List.length_append];omega
   clear ch bM ar x;generalize setW ak a.heap.size .lent=who9 at*;generalize EL s (m++LC1) q=E at*;generalize c5:a.heap.size=gx at*;clear c5;have L:C.ownsRow B 66 1 (Q 2) (E 2).length (E 2):=ai.out.lr.r 2 (by omega);have c2:C.cell? ⟨b,2,none⟩=some (Q 2):=ai.out.cell (by omega);obtain⟨o1,o2,o3,P⟩:=iy L;rw [P]at L c2;have bw:=iC L;subst bw;have af:Hid (∀ {o:Obj} {g6 c6:Nat} {w6:World},w6.ownsRow B 66 1 (.slice (some ⟨g6,0,none⟩) ((E 2).length+1) c6) ((E 2).length+1) (E 2++[sl2 gx c.length])->
     (((Value.slice o1 (E 2).length o3).ownBlock=some g6/\(C.alloc o).grownBy w6 (some g6))\/(g6=C.heap.size+1/\(C.alloc o).grownBy w6 none))->
     HB w6 b Q/\∃ who' f',Lx B (w6.setCell ⟨b,2,none⟩ (.slice (some ⟨g6,0,none⟩) ((E 2).length+1) c6)) b who' n f' K (kF E 2 (E 2++[sl2 gx c.length])) s (m++LC1) q i/\
     Fr C (w6.setCell ⟨b,2,none⟩ (.slice (some ⟨g6,0,none⟩) ((E 2).length+1) c6)) who9 who' (fun _=>False)/\(∀ j,j≠2->f' j=Q j)/\(∀ g,who9 g= .lent->(w6.setCell ⟨b,2,none⟩ (.slice (some ⟨g6,0,none⟩) ((E 2).length+1) c6)).heap[g]?=C.heap[g]?/\who' g= .lent)):=by
    intro o g6 c6 w6 ax key;rw [<-P]at key;exact ai.out.push (by omega) ax key
   have da:B<=C.heap.size:=by have:=ai.out.low;omega
   have ay:=il L;have aw:=il P;have a6:(E 2).length+1<=maxLen:=by unfold maxLen;omega
   have cg:(E 3).length+1<=maxLen:=by unfold maxLen;omega
   clear L P;have ce:Hid (kF E 2 (E 2++[sl2 gx c.length]) 3=E 3):=vP _ _ (by omega);generalize bk:(E 2).length=N0 at*;generalize cd:E 2=L0 at*;clear bk cd;go_upto_region 12 with (at_builtin;go_must (refine iH rfl _ _ _ rfl B 66 i1 _ 1 24 Tryz.underlying35 bj bE aZ a3 rfl (by omega) (.slice o1 N0 o3) N0 L0 rfl (iK ay.out) ⟨C.heap.size,0,none⟩ 1 1 [sl2 gx c.length] rfl rfl (World.news_of_block (cs:= #[.slice (some ⟨gx,0,none⟩) (c.length+2) (c.length+2)]) (t:=66) (fr:=(0,0)) (heap_alloc_new C _)) (by simp [sl2,Value.oneCell']) (by omega) a6 (by omega) (by simp;omega) (C.heap.size+1) (by simp) ?_);intro a0 bC az ah ag bq;have ae:=(af.out ah ag).1;have T:az.cell? ⟨b,2,none⟩=some (.slice o1 N0 o3):=(by rw [ae.cell (by omega),aw.out]);have p7:=ae.frozen 2)
   obtain⟨_,N,S,M,ap,bb,V⟩:=af.out ah ag;generalize az.setCell ⟨b,2,none⟩ (.slice (some ⟨a0,0,none⟩) (N0+1) bC)=w11 at*;rw [<-ce.out]at ds cg;generalize kF E 2 (L0++[sl2 gx c.length])=E11 at*;have rM:w11.ownsRow B 66 1 (S 3) (E11 3).length (E11 3):=M.lr.r 3 (by omega);have c3:w11.cell? ⟨b,3,none⟩=some (S 3):=M.cell (by omega);obtain⟨m1,m2,m3,eM⟩:=iy rM;rw [eM]at rM c3;have cG:=iC rM;subst cG;have dD:Hid (∀ {o:Obj} {g6 c6:Nat} {w6:World},w6.ownsRow B 66 1 (.slice (some ⟨g6,0,none⟩) ((E11 3).length+1) c6) ((E11 3).length+1) (E11 3++[.slice z c.length y])->
     (((Value.slice m1 (E11 3).length m3).ownBlock=some g6/\(w11.drew.alloc o).grownBy w6 (some g6))\/(g6=w11.drew.heap.size+1/\(w11.drew.alloc o).grownBy w6 none))->
     HB w6 b S/\∃ who' f',Lx B (w6.setCell ⟨b,3,none⟩ (.slice (some ⟨g6,0,none⟩) ((E11 3).length+1) c6)) b who' n f' K (kF E11 3 (E11 3++[.slice z c.length y])) s (m++LC1) q i/\
     Fr w11.drew (w6.setCell ⟨b,3,none⟩ (.slice (some ⟨g6,0,none⟩) ((E11 3).length+1) c6)) N who' (fun _=>False)/\(∀ j,j≠3->f' j=S j)/\(∀ g,N g= .lent->(w6.setCell ⟨b,3,none⟩ (.slice (some ⟨g6,0,none⟩) ((E11 3).length+1) c6)).heap[g]?=w11.drew.heap[g]?/\who' g= .lent)):=by
    intro o g6 c6 w6 ax key;rw [<-eM]at key;exact(M.grown (iz (iu _ _))).push (by omega) ax key
   have hbase11:B<=w11.heap.size:=by have:=M.low;omega
   have bt:=cb.out.trans ap;have bh:W.grownBy w11 none:=ap.base cK.out b8 (fun g e=>(ai.out.hs.1.dom g e).1) (fun g e=>e.elim);have e0:w11.cell? ⟨w.heap.size,0,none⟩=some (.slice (some ⟨I,Y,none⟩) p.length D):=by
    rw [World.cell?_of_block (bt.oth w.heap.size a8.1 av.out (fun e=>e)).1];have:=b2.out;simp [World.cell?,this]
   have F:w11.cell? ⟨I,Y+i,none⟩=some (.slice z c.length y):=iq bh _ _ cq.out;have dM:=il rM;have cO:=il eM;have ba:=il M;have bP:=il bt;have du:=il bh;have br:=il (V gx b5.out);have bF:=il (V d bT.out.2);have b0:=il (V (w.heap.size+1) cu.out.2);have dj:Hid (∀ g o l aG,Value.slice z c.length y= .slice (some ⟨g,o,none⟩) l aG->0<l->g<W.heap.size):=by
    intro g o l aG Z hz;obtain⟨dC,bf,e4,h5⟩:=bv.out;simp only [Value.slice.injEq]at Z e4;obtain⟨g',o',e5,e6,_⟩:=h5 0 (by omega);rw [<-e4.1,Z.1]at e5;simp only [Option.some.injEq,Addr.mk.injEq,and_true]at e5;have:=World.block_lt_of_cell? W _ e6;simp only at this;omega
   clear rM eM ah ag ae T p7 bq c2 M ap bb V af ay aw ai cb ce bt bh b5;generalize cD:(E11 3).length=N1 at*;generalize hL1':E11 3=L1 at*;clear cD;refine iA (fun u=>u.cell? ⟨b,3,none⟩=some (.slice m1 N1 m3)/\u.cell? ⟨w.heap.size,0,none⟩=some (.slice (some ⟨I,Y,none⟩) p.length D)/\u.cell? ⟨I,Y+i,none⟩=some (.slice z c.length y)) 14 (by kernel_rfl) (by kernel_rfl) ⟨by simp [go_sem,c3],by simp [go_sem,e0],by simp [go_sem,F]⟩ ?_;intro A;have c8:=A.1;have cN:=A.2.1;have dH:=A.2.2;refine ij 0 ?v0 rfl (by kernel_rfl) (fun _ _ _ h=>h) (by rfl) ?y0 A ?_
   case y0=>(rintro u ⟨J,H,G⟩;go_simp;try rfl)
   simp only [Act.put,List.setIfInBounds_toArray];refine ij 1 ?v1 rfl (by kernel_rfl) (fun _ _ _ h=>h) (by rfl) ?y1 A ?_
   case y1=>(rintro u ⟨J,H,G⟩;go_simp;try rfl)
   simp only [Act.put];refine ij 2 ?v2 rfl (by kernel_rfl) (fun _ _ _ h=>h) (by rfl) ?y2 A ?_
   case y2=>(rintro u ⟨J,H,G⟩;go_simp;try rfl)
   simp only [Act.put];refine ij 3 ?v3 rfl (by kernel_rfl) (fun _ _ _ h=>h) (by rfl) ?y3 A ?_
   case y3=>(rintro u ⟨J,H,G⟩;go_simp;try rfl)
   simp only [Act.put];refine ij 4 ?v4 rfl (by kernel_rfl) (fun _ _ _ h=>h) (by rfl) ?y4 A ?_
   case y4=>(rintro u ⟨J,H,G⟩;go_simp;try rfl)
   simp only [Act.put];refine ij 5 ?v5 rfl (by kernel_rfl) (fun _ _ _ h=>h) (by rfl) ?y5 A ?_
   case y5=>(rintro u ⟨J,H,G⟩;go_simp;try rfl)
   simp only [Act.put];refine ij 6 ?v6 rfl (by kernel_rfl) (fun _ _ _ h=>h) (by rfl) ?y6 A ?_
   case y6=>(rintro u ⟨J,H,G⟩;go_simp;try rfl)
   simp only [Act.put];refine ij 7 ?v7 rfl (by kernel_rfl) (fun _ _ _ h=>h) (by rfl) ?y7 A ?_
   case y7=>(rintro u ⟨J,H,G⟩;go_simp;try rfl)
   simp only [Act.put];refine ij 8 ?v8 rfl (by kernel_rfl) (fun _ _ _ h=>h) (by rfl) ?y8 A ?_
   case y8=>(rintro u ⟨J,H,G⟩;go_simp;try rfl)
   simp only [Act.put];refine ij 9 ?v9 rfl (by kernel_rfl) (fun _ _ _ h=>h) (by rfl) ?y9 A ?_
   case y9=>(rintro u ⟨J,H,G⟩;go_simp;try rfl)
   simp only [Act.put];refine iw (i:=10) rfl (by kernel_rfl) (by kernel_rfl) (by rfl) ?_;intro K10 co;have bK:=il co;clear co;go_simp;refine bK.out _ _ ⟨iq (ir (iu _ _)) _ _ A.1,iq (ir (iu _ _)) _ _ A.2.1,iq (ir (iu _ _)) _ _ A.2.2⟩ ?_;clear bK;try simp only [Act.put,List.setIfInBounds_toArray]
   refine iw (i:=11) rfl (by kernel_rfl) (by kernel_rfl) (by rfl) ?_;intro K11 cx;have ct:=il cx;clear cx;refine rT (.tmp 60) (.tmp 66) 35 (by rfl) B 66 i1 _ 1 24 Tryz.underlying35 bj bE aZ a3 rfl (by omega) (.slice m1 N1 m3) N1 L1 (by rfl) (iK (w:=w11.drew) (show w11.drew.ownsRow _ _ _ _ _ _ from dM.out)) ⟨w11.heap.size,0,none⟩ 1 1 [.slice z c.length y] (by rfl) (by rfl) (World.news_of_block (cs:= #[.slice z c.length y]) (t:=66) (fr:=(0,0)) (heap_alloc_new w11.drew _)) (by simp [Value.oneCell']) (by omega) cg (by omega) (by simp;omega) (w11.heap.size+1) (by simp) ?_;intro dA dw a9 ck bS dz;obtain⟨be,aT,cA,aV,aJ,cZ,an⟩:=dD.out ck bS;have T:a9.cell? ⟨b,3,none⟩=some (.slice m1 N1 m3):=by rw [be.cell (by omega),cO.out]
   have df:N w.heap.size= .other:=(bP.out.oth w.heap.size a8.1 av.out (fun e=>e)).2;have dq:N I= .other:=by
    have ad:=World.block_lt_of_cell? W _ cq.out;simp only at ad;by_cases e:N I= .other
    ·exact e
    ·exact absurd (ba.out.hs.1.dom I e).1 (by omega)
   have bc:∀ g o v,N g= .other->g<w11.heap.size->w11.cell? ⟨g,o,none⟩=some v->a9.cell? ⟨g,o,none⟩=some v:=fun g o v h1 h2 h3=>by
    have h4:=(aJ.oth g h2 h1 (fun e=>e)).1;rw [Below.heap_setCell _ _ _ _ (fun e=>by simp only at e;subst e;rw [ba.out.hs.1.wb]at h1;cases h1)]at h4;rw [World.cell?_of_block h4];exact h3
   have q6:=bc _ _ _ df (World.block_lt_of_cell? w11 _ e0) e0;have q7:=bc _ _ _ dq (World.block_lt_of_cell? w11 _ F) F;have p7:=be.frozen 3;refine ct.out _ _ ⟨T,q6,q7⟩ ?_;clear ct;try simp only [Act.put,List.setIfInBounds_toArray]
   refine ij 12 ?v12 rfl (by kernel_rfl) (fun _ _ _ h=>h) (by rfl) ?y12 ⟨T,q6,q7⟩ ?_
   case y12=>(rintro u ⟨J,H,G⟩;go_simp;try rfl)
   simp only [Act.put];refine ij 13 ?v13 rfl (by kernel_rfl) (fun _ _ _ h=>h) (by rfl) ?y13 ⟨T,q6,q7⟩ ?_
   case y13=>(rintro u ⟨J,H,G⟩;go_simp;try rfl)
   simp only [Act.put];refine iI rfl (by kernel_rfl) (by kernel_rfl) (by rfl) ?_;go_simp;generalize a9.setCell ⟨b,3,none⟩ (.slice (some ⟨dA,0,none⟩) (N1+1) dw)=w13 at*;have aH:w13.heap[d]?=some (.cells (LC1.map slC++List.replicate (p.length+2 - i) (Value.slice none 0 0)).toArray 66 (0,0)):=by
    rw [(an d bF.out.2).1];show w11.heap[d]?=_
    rw [bF.out.1];exact bT.out.1
   have bi:W.grownBy w13 none:=(Fr.trans (Fr.grown (iz (iu _ _))) aJ).base du.out b8 (fun g e=>(ba.out.hs.1.dom g e).1) (fun g e=>e.elim);have a2:Hid (PgIn B W O (w13.setCell ⟨d,i,none⟩ (.slice (some ⟨gx,0,none⟩) c.length (c.length+2))) b who2 aT n cA K s m (LC1++[(gx,c,.slice z c.length y)]) q d (w.heap.size+1) p (i+1)):=by
    have U:=(an d bF.out.2).2;have cX:w13.heap[gx]?=some (.cells (kd c) 65 (0,0)):=by
     rw [(an gx br.out.2).1];show w11.heap[gx]?=_
     rw [br.out.1];exact cY.out
    have dG:valOther aT (.slice z c.length y):=fun g o l aG Z hz=>by
     have ad:=dj.out g o l aG Z hz;by_cases e:aT g= .other
     ·exact e
     ·exact absurd (aV.hs.1.dom g e).1 (by omega)
    have bu:=aV.addCode (LC1:=m++(LC1++[(gx,c,.slice z c.length y)])) cX (an gx br.out.2).2 (bv.out.pres (iq bi)) dG c7 dd.out (by rw [<-List.append_assoc];exact a4.out) (by rw [List.append_assoc]);have cz:d∉s.map (·.1)++((m++(LC1++[(gx,c,Value.slice z c.length y)])).map (·.1)++q.map (·.1)):=by
     have:=dB.out;simp only [List.map_append,List.map_cons,List.map_nil,List.mem_append,not_or,List.mem_cons,List.not_mem_nil,or_false]at this ⊢;exact⟨this.1,⟨this.2.1.1,this.2.1.2,by omega⟩,this.2.2⟩
    have dk:=(bP.out.trans (Fr.grown (iz (iu _ _)))).trans aJ;have dJ:w.heap.size+1∉s.map (·.1)++((m++(LC1++[(gx,c,Value.slice z c.length y)])).map (·.1)++q.map (·.1)):=by
     have:=cF.out;simp only [List.map_append,List.map_cons,List.map_nil,List.mem_append,not_or,List.mem_cons,List.not_mem_nil,or_false]at this ⊢;exact⟨this.1,⟨this.2.1.1,this.2.1.2,by omega⟩,this.2.2⟩
    have cr:=an (w.heap.size+1) b0.out.2;refine⟨bu.setOut U cz,?_,?_,U,cz,dk.trans (Fr.set (Or.inl (by rw [U];simp))),?_,?_,cr.2,dJ,cy.out⟩
    ·rw [List.map_append,cW.out,de.out];rfl
    ·rw [heap_setCell_same w13 d i _ _ _ aH,List.setIfInBounds_toArray,Bv _ _ _ _ (by simpa using dE) ad,List.map_append];rfl
    ·exact iG bi (by have:=(aV.hs.1.dom d (by rw [U];simp)).1;omega)
    ·rw [Below.heap_setCell _ _ _ _ (by simpa using cy.out),cr.1];show w11.heap[w.heap.size+1]?=_
     rw [b0.out.1];exact cu.out.1
   have k0:∃ u,w13.cell? ⟨d,i,none⟩=some u:=by
    have bX:i<(LC1.map slC++List.replicate (p.length+2 - i) (Value.slice none 0 0)).toArray.size:=by simp;omega
    exact⟨(LC1.map slC++List.replicate (p.length+2 - i) (Value.slice none 0 0)).toArray[i]'bX,by simp only [World.cell?,aH];exact Array.getElem?_eq_getElem bX⟩
   obtain⟨u13,k0⟩:=k0;have k1:w13.frozen? ⟨d,i,none⟩=false:=by simp [World.frozen?,aH]
   have k2:(i:Int)<(p.length:Int)+2:=by omega
   have k3:(c.length:Int)<=(c.length:Int)+2:=by omega
   clear ck bS dz be T p7 q6 q7 bc aV aJ cZ an aH bi e0 F c3 A c8 cN dH;go_wp2_with fail
   go_roundw
   case rel=>exact⟨i+1,_,aT,cA,by omega,by go_num,a2⟩
   case measure=>simp [intOf];omega
  ·have ei:i=p.length:=by omega
   have t1:(p.length:Int)<=(i:Int):=by omega
   have cR:Hid ((q.map (·.2)).sum=m.length):=by have:=x.out.lx.le.sum;unfold Hid;simp at this;omega
   have L:a.ownsRow B 35 1 (Q 4) (EL s (m++LC1) q 4).length (EL s (m++LC1) q 4):=x.out.lx.lr.r 4 (by omega);have c4:a.cell? ⟨b,4,none⟩=some (Q 4):=x.out.lx.cell (by omega);have hE4:(EL s (m++LC1) q 4).length<=1000:=by simp only [EL,List.length_map];exact dm
   have a4:=il (Fu s (m++LC1) q d p.length);obtain⟨o1,o2,o3,P⟩:=iy L;rw [P]at L c4;have bw:=iC L;subst bw;have da:B<=a.heap.size:=by have:=x.out.lx.low;omega
   have af:Hid (∀ {o:Obj} {g6 c6:Nat} {w6:World},w6.ownsRow B 35 1 (.slice (some ⟨g6,0,none⟩) ((EL s (m++LC1) q 4).length+1) c6) ((EL s (m++LC1) q 4).length+1) (EL s (m++LC1) q 4++[sl2 d p.length])->
     (((Value.slice o1 (EL s (m++LC1) q 4).length o3).ownBlock=some g6/\(a.alloc o).grownBy w6 (some g6))\/(g6=a.heap.size+1/\(a.alloc o).grownBy w6 none))->
     HB w6 b Q/\∃ who' f',Lx B (w6.setCell ⟨b,4,none⟩ (.slice (some ⟨g6,0,none⟩) ((EL s (m++LC1) q 4).length+1) c6)) b who' n f' K (kF (EL s (m++LC1) q) 4 (EL s (m++LC1) q 4++[sl2 d p.length])) s (m++LC1) q i/\
     Fr a (w6.setCell ⟨b,4,none⟩ (.slice (some ⟨g6,0,none⟩) ((EL s (m++LC1) q 4).length+1) c6)) ak who' (fun _=>False)/\(∀ j,j≠4->f' j=Q j)/\(∀ g,ak g= .lent->(w6.setCell ⟨b,4,none⟩ (.slice (some ⟨g6,0,none⟩) ((EL s (m++LC1) q 4).length+1) c6)).heap[g]?=a.heap[g]?/\who' g= .lent)):=by
    intro o g6 c6 w6 ax key;rw [<-P]at key;exact x.out.lx.push (by omega) ax key
   have ay:=il L;have aw:=il P;have a6:(EL s (m++LC1) q 4).length+1<=maxLen:=by unfold maxLen;omega
   clear L P;generalize bk:(EL s (m++LC1) q 4).length=N0 at*;generalize cd:EL s (m++LC1) q 4=L0 at*;clear bk;go_upto_region 15 with (at_builtin;go_must (refine iH rfl _ _ _ rfl B 35 i2 _ 1 24 Tryz.underlying41 dK c9 dv dl rfl (by omega) (.slice o1 N0 o3) N0 L0 rfl (iK ay.out) ⟨a.heap.size,0,none⟩ 1 1 [sl2 d p.length] rfl rfl (World.news_of_block (cs:= #[.slice (some ⟨d,0,none⟩) (p.length+2) (p.length+2)]) (t:=35) (fr:=(0,0)) (heap_alloc_new a _)) (by simp [sl2,Value.oneCell']) (by omega) a6 (by omega) (by simp;omega) (a.heap.size+1) (by simp) ?_);intro a0 bC az ah ag bq;have ae:=(af.out ah ag).1;have T:az.cell? ⟨b,4,none⟩=some (.slice o1 N0 o3):=(by rw [ae.cell (by omega),aw.out]);have p7:=ae.frozen 4)
   obtain⟨_,N,S,M,ap,bb,V⟩:=af.out ah ag;generalize az.setCell ⟨b,4,none⟩ (.slice (some ⟨a0,0,none⟩) (N0+1) bC)=w11 at*;have U:=V d x.out.wg;have aO:=V (w.heap.size+1) x.out.wr;have bd:w11.heap[d]?=some (.cells (jC LC1) 66 (0,0)):=by
    rw [U.1,x.out.row,ei];have Z:p.length+2 - p.length=2:=by omega
    rw [Z];rfl
   have aS:w11.heap[w.heap.size+1]?=some (.cells #[.slice none 0 0] 37 (0,0)):=by rw [aO.1];exact x.out.res
   have a2:Hid (Lx B (w11.setCell ⟨w.heap.size+1,0,none⟩ (.slice (some ⟨d,0,none⟩) p.length (p.length+2))) b N n S K (EL s (m++LC1) (q++[(d,p.length)])) s (m++LC1) (q++[(d,p.length)]) 0/\LC1.map (·.2.1)=p/\Fr w (w11.setCell ⟨w.heap.size+1,0,none⟩ (.slice (some ⟨d,0,none⟩) p.length (p.length+2))) who N (fun _=>False)/\(w11.setCell ⟨w.heap.size+1,0,none⟩ (.slice (some ⟨d,0,none⟩) p.length (p.length+2))).heap[d]?=some (.cells (jC LC1) 66 (0,0))):=by
    have cn:=M.le.addRow (g:=d) (by rw [cR.out,List.drop_left];exact bd) U.2 (by omega) x.out.ng;rw [ei]at cn;have bQ:=M.lr;rw [a4.out]at bQ;have bu:Lx B w11 b N n S K (EL s (m++LC1) (q++[(d,p.length)])) s (m++LC1) (q++[(d,p.length)]) 0:=⟨M.hs,bQ,cn⟩;refine⟨bu.setOut aO.2 ?_,?_,((bA.out.trans x.out.fr).trans ap).trans (Fr.set (Or.inl (by rw [aO.2];simp))),?_⟩
    ·have:=x.out.nr;have dF:=x.out.rg;simp only [List.map_append,List.map_cons,List.map_nil,List.mem_append,not_or,List.mem_cons,List.not_mem_nil,or_false]at this ⊢;exact⟨this.1,this.2.1,this.2.2,dF⟩
    ·have:=x.out.map;rw [ei,List.take_length]at this;exact this
    ·rw [Below.heap_setCell _ _ _ _ (by simpa using x.out.rg.symm)];exact bd
   have z0:w11.cell? ⟨w.heap.size+1,0,none⟩=some (.slice none 0 0):=by simp [World.cell?,aS]
   have z1:w11.frozen? ⟨w.heap.size+1,0,none⟩=false:=by simp [World.frozen?,aS]
   have z2:(w11.setCell ⟨w.heap.size+1,0,none⟩ (.slice (some ⟨d,0,none⟩) p.length (p.length+2))).cell? ⟨w.heap.size+1,0,none⟩=some (.slice (some ⟨d,0,none⟩) p.length (p.length+2)):=by
    have:=heap_setCell_same w11 (w.heap.size+1) 0 _ _ (.slice (some ⟨d,0,none⟩) p.length (p.length+2)) aS;simp [World.cell?,this]
   have z3:(p.length:Int)<=(p.length:Int)+2:=by omega
   clear ah ag ae T p7 bq c4 M ap bb V af ay aw U aO bd aS;go_wp2_with fail
   refine bodyPost_ret (v:= .agg #[.slice (some ⟨d,0,none⟩) p.length (p.length+2)]) ?_ rfl ?_
   ·simp [results,Tryz.results19,go_sem,z2]
   ·exact⟨d,LC1,N,S,rfl,a2.out⟩
theorem pD(c:List Ins)(v u:Value)(w:World)(z:CodeAt w v c)(B:CodeAt w u c)(hln:c.length<=4398046510976):
  Calls Tryz.prog 52 #[v,u] w fun e w'=>e= .returned (.bool true)/\ju w' w:=by
 obtain⟨ao,cap,rfl,hc⟩:=z;obtain⟨bo,dap,rfl,s⟩:=B;have y:=il hc;have x:=il s;clear hc s;have q9:(c.length:Int)<=4398046510976:=by omega
 go_enter Tryz.func52,Tryz.ntmps52
 go_wp2_with fail
 go_loopw [5] (fun i w'=>∃ k:Nat,k<=c.length/\i= .int .i64 k/\Hid (ju w' w)) (fun i _=>c.length - (intOf i).toNat)
 case atStart=>exact⟨0,Nat.zero_le _,rfl,il (jr _)⟩
 case round=>
  obtain⟨k,hk,rfl,b⟩:=hrel;obtain⟨d,r⟩:∃ d,d=wr:=⟨_,rfl⟩;rw [<-r]at b ⊢;clear r;have f:∀ a,d.cell? a=w.cell? a:=fun a=>by simp [World.cell?,b.out.1]
  by_cases m:k<c.length
  ·obtain⟨xg,xo,rfl,t,h,n,p⟩:=y.out k m;obtain⟨yg,yo,rfl,o,l,q,j⟩:=x.out k m;rw [<-f]at t h n p o l q j;have q2:(0:Int)<=(k:Int):=by omega
   have A:(k:Int)<c.length:=by omega
   clear f;generalize c[k]=i at*;obtain⟨i1,i2,i3,i4⟩:=i;simp only at t h n p o l q j;go_wp2_with fail
   go_quiet (fail)
   go_wp2_with fail
   go_roundw
   case rel=>exact⟨k+1,by omega,by go_num,il (jW b.out _)⟩
   case measure=>simp [intOf];omega
  ·have A:(c.length:Int)<=(k:Int):=by omega
   clear f;go_wp2_with fail
   go_ret;exact⟨rfl,b.out⟩
end
section
open Go.RowKit
structure Chg(w w':World)(S:Nat->Prop):Prop where
 os:w'.os=w.os
 tape:w'.tape=w.tape
 output:w'.output=w.output
 size:w.heap.size<=w'.heap.size
 blk:∀ g,g<w.heap.size->¬S g->w'.heap[g]?=w.heap[g]?
theorem Chg.refl(w:World)(S:Nat->Prop):Chg w w S:=⟨rfl,rfl,rfl,Nat.le_refl _,fun _ _ _=>rfl⟩
theorem Chg.below{w w1 w2:World}{S:Nat->Prop}(h:Chg w w1 S)(hb:Below w1.heap.size w1 w2):Chg w w2 S:=
 ⟨hb.os.trans h.os,hb.tape.trans h.tape,hb.output.trans h.output,Nat.le_trans h.size hb.size,fun g h1 h2=>by rw [hb.block g (Nat.lt_of_lt_of_le h1 h.size)];exact h.blk g h1 h2⟩
theorem Chg.set{w w1:World}{S:Nat->Prop}{g o:Nat}{v:Value}(h:Chg w w1 S)(hg:S g):Chg w (w1.setCell ⟨g,o,none⟩ v) S:=
 ⟨h.os,h.tape,h.output,by simpa using h.size,fun k h1 h2=>by rw [Below.heap_setCell _ _ _ _ (fun e=>by simp only at e;subst e;exact h2 hg)];exact h.blk k h1 h2⟩
theorem Chg.mono{w w1:World}{S S':Nat->Prop}(h:Chg w w1 S)(hs:∀ g,S g->S' g):Chg w w1 S':=⟨h.os,h.tape,h.output,h.size,fun k h1 h2=>h.blk k h1 (fun e=>h2 (hs k e))⟩
theorem Chg.cell{w a:World}{S:Nat->Prop}(h:Chg w a S){g o:Nat}{v:Value}(hc:w.cell? ⟨g,o,none⟩=some v)(b:¬S g):a.cell? ⟨g,o,none⟩=some v:=by
 have c:g<w.heap.size:=World.block_lt_of_cell? w _ hc;rw [World.cell?_of_block (h.blk g c b)];exact hc
theorem tU(l:List (Nat × List Ins × Value)):(jC l).size=l.length+2:=by simp [jC]
theorem vZ(l:List (Nat × List Ins × Value))(k:Nat)(a:k<l.length):(jC l)[k]?=some (slC l[k]):=by
 simp only [jC,List.getElem?_toArray];rw [List.getElem?_append_left (by simpa using a),List.getElem?_map,List.getElem?_eq_getElem a];rfl
theorem tQ(l:List (Nat × List Ins × Value)):(jC l)[l.length]?=some (.slice none 0 0):=by
 simp only [jC,List.getElem?_toArray];rw [List.getElem?_append_right (by simp)];simp
theorem tE(l:List (Nat × List Ins × Value)):(jC l)[l.length+1]?=some (.slice none 0 0):=by
 simp only [jC,List.getElem?_toArray];rw [List.getElem?_append_right (by simp)];simp
theorem tK(c:List Ins):(kd c).size=(c.length+2)*4:=by
 have:=ly c;unfold kI at this;simp only [kd,List.size_toArray,List.length_append,this,nK,List.length_cons,List.length_nil];omega
theorem kr(c:List Ins)(j:Nat)(hj:j<4):(kd c)[c.length*4+j]?=nK[j]?/\(kd c)[(c.length+1)*4+j]?=nK[j]?:=by
 have a:=ly c;unfold kI at a;simp only [kd,List.getElem?_toArray];generalize List.flatMap tX c=L at a ⊢;refine⟨?_,?_⟩
 ·rw [List.getElem?_append_right (by omega),List.getElem?_append_left (by simp [nK];omega)];congr 1;omega
 ·rw [List.getElem?_append_right (by omega),List.getElem?_append_right (by simp [nK];omega)];congr 1;simp [nK];omega
def Hz(B:Nat)(w:World)(b:Nat)(who:Nat->Role)(n:Int)(f:Nat->Value)(K:Nat->List (Value × Int)):Prop:=HsK B w b who n f K/\∀ k,k<5->f k= .slice none 0 0
theorem Hz.lx{B:Nat}{w:World}{b:Nat}{who:Nat->Role}{n:Int}{f:Nat->Value}{K:Nat->List (Value × Int)}(h:Hz B w b who n f K):Lx B w b who n f K (EL [] [] []) [] [] [] 0:=by
 refine⟨h.1,⟨fun k hk=>?_,fun k hk g e=>?_⟩,⟨fun x hx=>(by cases hx),fun x hx=>(by cases hx),fun j hj=>(by simp at hj),rfl,(by simp)⟩⟩
 ·have a:EL [] [] [] k=[]:=by
   rcases(by omega:k=0\/k=1\/k=2\/k=3\/k=4)with rfl | rfl | rfl | rfl | rfl<;>rfl
  rw [a,h.2 k hk];exact⟨rfl,Or.inl ⟨rfl,rfl⟩⟩
 ·rw [h.2 k hk]at e;cases e
theorem Lx.free{B:Nat}{w w':World}{b:Nat}{who:Nat->Role}{n:Int}{f:Nat->Value}{K:Nat->List (Value × Int)}{E:Nat->List Value}{p:List (Nat × List Int × Value)}{i:List (Nat × List Ins × Value)}{j:List (Nat × Nat)}{tail:Nat}
  (h:Lx B w b who n f K E p i j tail) {S:Nat->Prop} (hc:Chg w w' S) (c:∀ g,S g->who g= .lent):
  let w5:=((((w'.setCell ⟨b,4,none⟩ (.slice none 0 0)).setCell ⟨b,2,none⟩ (.slice none 0 0)).setCell ⟨b,3,none⟩ (.slice none 0 0)).setCell ⟨b,0,none⟩ (.slice none 0 0)).setCell ⟨b,1,none⟩ (.slice none 0 0)
  ∃ f',Hz B w5 b who n f' K/\Fr w w5 who who (fun _=>False):=by
 intro w5;have m:Hs B w' b who n f K (jp K):=h.hs.1.same hc.size (fun g h1 h2 h3=>hc.blk g h1 (fun e=>by rw [c g e]at h3;cases h3));have d:=((((m.setLent (o:=4) (by omega) (.slice none 0 0)).setLent (o:=2) (by omega) (.slice none 0 0)).setLent (o:=3) (by omega) (.slice none 0 0)).setLent (o:=0) (by omega) (.slice none 0 0)).setLent (o:=1) (by omega) (.slice none 0 0);have l:Fr w w' who who (fun _=>False):=⟨hc.os,hc.tape,hc.output,hc.size,fun g h1 h2 _=>⟨hc.blk g h1 (fun e=>by rw [c g e]at h2;cases h2),h2⟩⟩;have a:who b≠ .other\/False:=Or.inl (by rw [h.hs.1.wb];simp);refine⟨_,⟨⟨d,h.hs.2⟩,fun k hk=>?_⟩,((((l.trans (Fr.set a)).trans (Fr.set a)).trans (Fr.set a)).trans (Fr.set a)).trans (Fr.set a)⟩;rcases(by omega:k=0\/k=1\/k=2\/k=3\/k=4)with rfl | rfl | rfl | rfl | rfl<;>simp [lw]
end
end Go.Proofs.YtklenjmfalljgabGreatDoor
