/- The texts Hgj Hgk Hgl. -/
import Derived.Test.YtklenjmfalljgabGreatDoorM08
namespace Go.Proofs.YtklenjmfalljgabGreatDoor
set_option maxRecDepth 100000
set_option maxHeartbeats 8000000
section
open Go.RowKit
attribute [local go_sem] Go.World.cell?_alloc_some
theorem wy(n:Nat):(madeCells #[Value.int .i64 0,.int .i64 0,.int .i64 0,.int .i64 0] n).toList=List.replicate n (.int .i64 0):=by
 apply List.ext_getElem (by simp [madeCells]);intro i h1 a;simp only [madeCells,Array.toList_map,List.getElem_map,List.getElem_replicate];have:i<n:=by simpa using a
 simp only [Array.toList_range,List.getElem_range];rcases(by omega:i % 4=0\/i % 4=1\/i % 4=2\/i % 4=3)with h | h | h | h<;>simp [h]
theorem yR(c:List Ins):((codeL c++(List.replicate ((c.length+2)*4) (Value.int .i64 0)).drop (c.length*4)).set (c.length*4) (.int .i64 (-77000000))).set ((c.length+1)*4) (.int .i64 (-77000000))=codeL c++(insInk++insInk):=by
 have e:(List.replicate ((c.length+2)*4) (Value.int .i64 0)).drop (c.length*4)=List.replicate 8 (Value.int .i64 0):=by
  rw [List.drop_replicate];congr 1;omega
 have b:=jE c;rw [e,<-b,List.set_append,if_neg (by omega),Nat.sub_self,List.set_append,if_neg (by omega)];have a:(c.length+1)*4 - (codeL c).length=4:=by omega
 rw [a];rfl
theorem wj:((Tryz.prog.info? 65).map fun i=>(i.zero,i.size,i.bytes))=some (some (.agg #[.int .i64 0,.int .i64 0,.int .i64 0,.int .i64 0]),4,32):=by kernel_rfl
theorem tU:((Tryz.prog.info? 66).map fun i=>(i.zero,i.size,i.bytes))=some (some (.slice none 0 0),1,24):=by kernel_rfl
theorem tV:((Tryz.prog.info? 35).map fun i=>(i.zero,i.size,i.bytes))=some (some (.slice none 0 0),1,24):=by kernel_rfl
structure PgIn(B:Nat)(W w2 w':World)(b:Nat)(who2 who':Nat->Role)(n:Int)(f':Nat->Value)(K:Nat->List (Value × Int))(LI:List (Nat × List Int × Value))(LC LC1:List (Nat × List Ins × Value))(LR:List (Nat × Nat))(gr rb:Nat)(p:List (List Ins))(i:Nat):Prop where
 lx:Lx B w' b who' n f' K (EL LI (LC++LC1) LR) LI (LC++LC1) LR i
 map:LC1.map (·.2.1)=p.take i
 row:w'.heap[gr]?=some (.cells (LC1.map slC++List.replicate (p.length+2 - i) (Value.slice none 0 0)).toArray 66 (0,0))
 wg:who' gr= .lent
 ng:gr∉LI.map (·.1)++((LC++LC1).map (·.1)++LR.map (·.1))
 fr:Fr w2 w' who2 who' (fun _=>False)
 base:W.grownBy w' none
 res:w'.heap[rb]?=some (.cells #[.slice none 0 0] 37 (0,0))
 wr:who' rb= .lent
 nr:rb∉LI.map (·.1)++((LC++LC1).map (·.1)++LR.map (·.1))
 rg:rb≠gr
theorem PgIn.len{B:Nat}{W l w':World}{b:Nat}{o m:Nat->Role}{n:Int}{e:Nat->Value}{K:Nat->List (Value × Int)}{c:List (Nat × List Int × Value)}{a LC1:List (Nat × List Ins × Value)}{d:List (Nat × Nat)}{f k:Nat}{p:List (List Ins)}{i:Nat}
  (h:PgIn B W l w' b o m n e K c a LC1 d f k p i) (j:i<=p.length):LC1.length=i:=by
 have:=congrArg List.length h.map;simpa [Nat.min_eq_left j]using this
theorem yS(L:List Value)(v:Value)(P i:Nat)(c:L.length=i)(hi:i<P):(L++List.replicate (P+2 - i) (Value.slice none 0 0)).set i v=(L++[v])++List.replicate (P+2 - (i+1)) (Value.slice none 0 0):=by
 obtain⟨k,a⟩:∃ k,P+2 - i=k+1:=⟨P+2 - (i+1),by omega⟩;have b:P+2 - (i+1)=k:=by omega
 rw [a,b,List.set_append,if_neg (by omega),c,Nat.sub_self,List.replicate_succ,List.set_cons_zero,List.append_assoc];rfl
theorem kz(W:World)(B:Nat)(w:World)(b:Nat)(who:Nat->Role)(n:Int)(f:Nat->Value)(K:Nat->List (Value × Int))(s:List (Nat × List Int × Value))(d:List (Nat × List Ins × Value))(q:List (Nat × Nat))(pv:Value)(p:List (List Ins))
  (h:Lx B w b who n f K (EL s d q) s d q 0) (hW:W.grownBy w none) (cd:W.heap.size<=B) (hP:ProgAt W pv p) (hp:p.length<=5864062014634) (cr:∀ c∈p,c.length<=4398046510976) (hLC:d.length+p.length<=5864062014634) (da:q.length<=1000):
  Calls Tryz.prog 19 #[pt b,pv] w fun e w'=>∃ g LC1 who' f',e= .returned (.agg #[.slice (some ⟨g,0,none⟩) p.length (p.length+2)])/\Lx B w' b who' n f' K (EL s (d++LC1) (q++[(g,p.length)])) s (d++LC1) (q++[(g,p.length)]) 0/\LC1.map (·.2.1)=p/\Fr w w' who who' (fun _=>False)/\w'.heap[g]?=some (.cells (lentRows LC1) 66 (0,0)):=by
 obtain⟨i0,cj,dC,cA,dD⟩:=info_parts wj;obtain⟨i1,bq,bz,bA,bB⟩:=info_parts tU;obtain⟨i2,dj,dz,dA,dB⟩:=info_parts tV;have HH:=ij h;have HW:=ij hW;have cM:=ij hP;have cK:=ij cr;have hb:=h.low;obtain⟨Q,D,rfl⟩:=hP.form;have ct:pt b= .pointer (some ⟨b,0,none⟩):=rfl;rw [ct];clear h hP ct cr hW;have q0:(p.length:Int)<=5864062014634:=by omega
 have q1:(0:Int)<=(p.length:Int):=by omega
 have dx:(Tryz.prog.info? 65).map (·.size)=some 4:=by rw [cj];simp [cA]
 go_enter Tryz.func19,Tryz.ntmps19
 go_upto_region 2 with fail
 have bp:w.grownBy ((w.alloc (.cells #[.slice Q p.length D] 37)).alloc (.cells #[.slice none 0 0] 37)) none:=iq (iq (ir _ _));have bd:((w.alloc (.cells #[.slice Q p.length D] 37)).alloc (.cells #[.slice none 0 0] 37)).heap[w.heap.size]?=some (.cells #[.slice Q p.length D] 37 (0,0)):=by
  rw [Below.heap_alloc _ _ _ (by simp)];exact heap_alloc_new _ _
 have bi:((w.alloc (.cells #[.slice Q p.length D] 37)).alloc (.cells #[.slice none 0 0] 37)).heap[w.heap.size+1]?=some (.cells #[.slice none 0 0] 37 (0,0)):=by
  have:=heap_alloc_new (w.alloc (.cells #[.slice Q p.length D] 37)) (.cells #[.slice none 0 0] 37);simpa using this
 have hz:((w.alloc (.cells #[.slice Q p.length D] 37)).alloc (.cells #[.slice none 0 0] 37)).heap.size=w.heap.size+2:=by simp
 generalize (w.alloc (.cells #[.slice Q p.length D] 37)).alloc (.cells #[.slice none 0 0] 37)=w1 at bp bd bi hz ⊢;go_upto_region 3 with (at_make;refine wpList_make_full _ rfl _ _ _ rfl w1.heap.size 66 i1 _ 1 Tryz.underlying35 bq bz bA .i64 .i64 _ _ (p.length+2) rfl rfl (by simp) (by simp) (by rw [bB];omega) (by unfold maxLen;omega) (by simp) ?_;intro O cp aL)
 have bx:O.heap[w1.heap.size]?=some (.cells (List.replicate (p.length+2) (Value.slice none 0 0)).toArray 66 (0,0)):=by
  rcases cp.2 with ⟨e,_⟩ | ⟨g',a6,cur,hv,_,hh,_,_,aJ,htk⟩
  ·cases e
  ·simp only [Value.slice.injEq,Option.some.injEq,Addr.mk.injEq,true_and,and_true]at hv;obtain⟨rfl,rfl⟩:=hv;rw [hh];have F:cur.toList=List.replicate (p.length+2) (Value.slice none 0 0):=by
    rw [<-toList_madeCells_one];simp only [Value.cells,Nat.mul_one]at htk aJ;rw [<-htk,List.take_of_length_le (by simp;omega)]
   rw [<-F]
 have cv:w1.heap.size<O.heap.size:=(Array.getElem?_eq_some_iff.1 bx).1;have bf:=il bp aL;have b3:O.heap[w.heap.size]?=some (.cells #[.slice Q p.length D] 37 (0,0)):=by rw [aL.block _ (by omega) (by simp)];exact bd
 have b8:O.heap[w.heap.size+1]?=some (.cells #[.slice none 0 0] 37 (0,0)):=by rw [aL.block _ (by omega) (by simp)];exact bi
 obtain⟨cy,ch⟩:=HH.out.new2 bf (g1:=w1.heap.size) (g2:=w.heap.size+1) (by omega) cv (by omega) (by omega);have H0:Hid (PgIn B W O O b (setW (setW who w1.heap.size .lent) (w.heap.size+1) .lent) (setW (setW who w1.heap.size .lent) (w.heap.size+1) .lent) n f K s d [] q w1.heap.size (w.heap.size+1) p 0):=by
  refine⟨by simpa using cy,by simp,by simpa using bx,by rw [iJ _ _ (by omega)];exact iY _ _ _,fun e=>?_,Fr.refl _ _ _,il HW.out bf,b8,iY _ _ _,fun e=>?_,by omega⟩
  ·have:=(HH.out.le.lt _ (by simpa using e)).1;omega
  ·have:=(HH.out.le.lt _ (by simpa using e)).1;omega
 have cx:setW (setW who w1.heap.size .lent) (w.heap.size+1) .lent w.heap.size= .other:=by
  rw [iJ _ _ (by omega),iJ _ _ (by omega)];by_cases e:who w.heap.size= .other
  ·exact e
  ·exact absurd (HH.out.hs.1.dom w.heap.size e).2 (by omega)
 have aZ:=ij ch;have av:=ij cx;have bG:=ij b3;have bm:w.heap.size<O.heap.size/\w.heap.size+1<O.heap.size:=by omega
 clear bp bd bi cp aL bx bf b3 b8 cy ch cx;rw [hz]at H0 aZ av;obtain⟨m,aM⟩:∃ m,m=w.heap.size+2:=⟨_,rfl⟩;rw [<-aM]at H0 aZ av;generalize setW (setW who m .lent) (w.heap.size+1) .lent=who2 at*;clear hz cv;go_upto_region 4 with fail
 rw [<-aM];have HGR:=ij aM;clear aM;go_loopw [7] (fun v w'=>∃ (i:Nat) (LC1:List (Nat × List Ins × Value)) (who':Nat->Role) (f':Nat->Value),i<=p.length/\v= .int .i64 i/\Hid (PgIn B W O w' b who2 who' n f' K s d LC1 q m (w.heap.size+1) p i)) (fun v _=>p.length - (intOf v).toNat)
 case atStart=>exact⟨0,[],who2,f,Nat.zero_le _,rfl,H0⟩
 case round=>
  clear H0;obtain⟨i,LC1,aq,U,hi,rfl,x⟩:=hrel;obtain⟨a,cw⟩:∃ a,a=wr:=⟨_,rfl⟩;rw [<-cw]at x ⊢;clear cw;have c9:=x.out.len hi;by_cases ac:i<p.length
  ·obtain⟨cS,a6,F,cf⟩:=cM.out;obtain⟨L,Z,S,rv,r1,r2⟩:=cf i ac;simp only [Value.agg.injEq,Array.mk.injEq,List.cons.injEq,Value.slice.injEq,and_true,true_and]at F;obtain⟨F,cV⟩:=F;subst F cV S;have dr:p[i].length<=4398046510976:=cK.out _ (List.getElem_mem ac);obtain⟨y,z,rfl⟩:∃ y z,rv= .slice y p[i].length z:=⟨_,_,r2.choose_spec.choose_spec.1⟩;have d0:a.cell? ⟨L,Z+i,none⟩=some (.slice y p[i].length z):=ip x.out.base _ _ r1;have ce:=(x.out.fr.oth w.heap.size bm.1 av.out (fun e=>e)).1;have c0:a.cell? ⟨w.heap.size,0,none⟩=some (.slice (some ⟨L,Z,none⟩) p.length D):=by
    rw [World.cell?_of_block ce];have:=bG.out;simp [World.cell?,this]
   have bO:=ij r1;have a3:=ij r2;have cP:Hid (p.take (i+1)=p.take i++[p[i]]):=List.take_succ_eq_append_getElem ac;clear r1 r2 cf ce;generalize p[i]=c at*;have t0:(0:Int)<=(i:Int):=by omega
   have t1:(i:Int)<p.length:=by omega
   have t2:(c.length:Int)<=4398046510976:=by omega
   have t3:(0:Int)<=(c.length:Int):=by omega
   go_upto_region 8 with (at_make;refine wpList_make_full _ rfl _ _ _ rfl a.heap.size 65 i0 _ 4 Tryz.underlying66 cj dC cA .i64 .i64 _ _ (c.length+2) rfl rfl (by simp) (by simp) (by rw [dD];omega) (by unfold maxLen;omega) (by simp) ?_;intro w6 cq aw)
   have du:∃ cur,w6.heap[a.heap.size]?=some (.cells cur 65 (0,0))/\cur.toList=List.replicate ((c.length+2)*4) (.int .i64 0):=by
    rcases cq.2 with ⟨e,_⟩ | ⟨g',a6,cur,hv,_,hh,_,_,aJ,htk⟩
    ·cases e
    ·simp only [Value.slice.injEq,Option.some.injEq,Addr.mk.injEq,true_and,and_true]at hv;obtain⟨rfl,rfl⟩:=hv;refine⟨cur,hh,?_⟩;rw [<-wy];simp only [Value.cells]at htk;rw [<-htk,List.take_of_length_le (by simp;omega)]
   obtain⟨cur,cg,bo⟩:=du;have aJ:cur.size=(c.length+2)*4:=by have:=congrArg List.length bo;simpa using this
   have cb:=il x.out.base aw;have d6:w6.cell? ⟨L,Z+i,none⟩=some (.slice y c.length z):=ip aw _ _ d0;have c6:w6.cell? ⟨w.heap.size,0,none⟩=some (.slice (some ⟨L,Z,none⟩) p.length D):=ip aw _ _ c0;obtain⟨w7,dv,an,al⟩:=pH w6 66 3 65 Tryz.underlying66 dx a.heap.size (c.length+2) (c.length+2) (.slice y c.length z) c (a3.out.pres (ip cb)) cur 65 cg (by omega) (by omega);rw [bo]at an;have ai:=ij aw;clear cq aw d0 c0 cg bo;go_upto_region 9 with fail
   clear dv d6 c6;obtain⟨R,hR⟩:∃ R:Array Value,R=(codeL c++(List.replicate ((c.length+2)*4) (Value.int .i64 0)).drop (c.length*4)).toArray:=⟨_,rfl⟩;rw [<-hR]at an;have dc:R.size=(c.length+2)*4:=by rw [hR];simp [jE];omega
   have bR:Hid ((R.setIfInBounds (c.length*4) (.int .i64 (-77000000))).setIfInBounds ((c.length+1)*4) (.int .i64 (-77000000))=lentCode c):=by
    unfold Hid;rw [hR];simp only [List.setIfInBounds_toArray,lentCode];rw [yR];rfl
   have aQ:=heap_setCell_same w7 a.heap.size (c.length*4) R 65 (.int .i64 (-77000000)) an;have ay:=heap_setCell_same _ a.heap.size ((c.length+1)*4) _ 65 (.int .i64 (-77000000)) aQ;rw [bR.out]at ay;have d7:∃ u,w7.cell? ⟨a.heap.size,c.length*4,none⟩=some u:=⟨R[c.length*4]'(by omega),by simp only [World.cell?,an];exact Array.getElem?_eq_getElem _⟩;have d8:∃ u,(w7.setCell ⟨a.heap.size,c.length*4,none⟩ (.int .i64 (-77000000))).cell? ⟨a.heap.size,(c.length+1)*4,none⟩=some u:=⟨(R.setIfInBounds (c.length*4) (.int .i64 (-77000000)))[(c.length+1)*4]'(by simp;omega),by simp only [World.cell?,aQ];exact Array.getElem?_eq_getElem _⟩;obtain⟨u7,d7⟩:=d7;obtain⟨u8,d8⟩:=d8;have z7:w7.frozen? ⟨a.heap.size,c.length*4,none⟩=false:=by simp [World.frozen?,an]
   have z8:(w7.setCell ⟨a.heap.size,c.length*4,none⟩ (.int .i64 (-77000000))).frozen? ⟨a.heap.size,(c.length+1)*4,none⟩=false:=by simp [World.frozen?,aQ]
   have b4:a.grownBy w7 none:=⟨al.os.trans ai.out.os,al.tape.trans ai.out.tape,al.output.trans ai.out.output,Nat.le_trans ai.out.size al.size,fun k hk _=>by
    rw [al.block k (Nat.lt_of_lt_of_le hk ai.out.size) (by simp;omega)];exact ai.out.block k hk (by simp)⟩
   obtain⟨C,aR⟩:∃ C,C=(w7.setCell ⟨a.heap.size,c.length*4,none⟩ (.int .i64 (-77000000))).setCell ⟨a.heap.size,(c.length+1)*4,none⟩ (.int .i64 (-77000000)):=⟨_,rfl⟩;have aH:a.grownBy C none:=by rw [aR];exact iD (iD b4 (Nat.le_refl _)) (Nat.le_refl _)
   rw [<-aR]at ay;have dw:a.heap.size<C.heap.size:=(Array.getElem?_eq_some_iff.1 ay).1;have bT:=ij aR;clear aR an aQ al hR dc b4 bR aJ cb;go_upto_region 11 with fail
   rw [<-bT.out];clear bT d7 d8 z7 z8 u7 u8;obtain⟨cz,ci⟩:=x.out.lx.new aH (g:=a.heap.size) (Nat.le_refl _) dw;have aj:=ij cz;have bJ:=ij (x.out.fr.trans ci);have cC:=ij ay;have bM:Hid (setW aq a.heap.size .lent a.heap.size= .lent):=iY _ _ _;have dg:m<a.heap.size:=(Array.getElem?_eq_some_iff.1 x.out.row).1;have bS:Hid (C.heap[m]?=some (.cells (LC1.map slC++List.replicate (p.length+2 - i) (Value.slice none 0 0)).toArray 66 (0,0))/\setW aq a.heap.size .lent m= .lent):=by
    refine⟨by rw [aH.block _ dg (by simp)];exact x.out.row,?_⟩;rw [iJ _ _ (by omega)];exact x.out.wg
   have cH:Hid (a.heap.size∉s.map (·.1)++((d++LC1).map (·.1)++q.map (·.1))):=fun e=>by have:=(x.out.lx.le.lt _ e).1;omega
   have cD:=ij (il x.out.base aH);have cF:=ij x.out.map;have cI:=ij x.out.ng;have cG:=ij x.out.nr;have bQ:=ij x.out.rg;have ds:w.heap.size+1<a.heap.size:=(Array.getElem?_eq_some_iff.1 x.out.res).1;have bP:Hid (C.heap[w.heap.size+1]?=some (.cells #[.slice none 0 0] 37 (0,0))/\setW aq a.heap.size .lent (w.heap.size+1)= .lent):=by
    refine⟨by rw [aH.block _ ds (by simp)];exact x.out.res,?_⟩;rw [iJ _ _ (by omega)];exact x.out.wr
   have aY:=ij (zG s (d++LC1) q a.heap.size c (.slice y c.length z));have hE2:(EL s (d++LC1) q 2).length<=5864062014634:=by simp only [EL,List.length_map,List.length_append];omega
   have cZ:(EL s (d++LC1) q 3).length<=5864062014634:=by simp only [EL,List.length_map,List.length_append];omega
   clear cz ci ay x;generalize setW aq a.heap.size .lent=who9 at*;generalize EL s (d++LC1) q=E at*;generalize dh:a.heap.size=gx at*;clear dh;have M:C.ownsRow B 66 1 (U 2) (E 2).length (E 2):=aj.out.lr.r 2 (by omega);have c2:C.cell? ⟨b,2,none⟩=some (U 2):=aj.out.cell (by omega);obtain⟨o1,o2,o3,P⟩:=iw M;rw [P]at M c2;have bv:=iB M;subst bv;have aa:Hid (∀ {o:Obj} {g6 c6:Nat} {w6:World},w6.ownsRow B 66 1 (.slice (some ⟨g6,0,none⟩) ((E 2).length+1) c6) ((E 2).length+1) (E 2++[sl2 gx c.length])->
     (((Value.slice o1 (E 2).length o3).ownBlock=some g6/\(C.alloc o).grownBy w6 (some g6))\/(g6=C.heap.size+1/\(C.alloc o).grownBy w6 none))->
     HB w6 b U/\∃ who' f',Lx B (w6.setCell ⟨b,2,none⟩ (.slice (some ⟨g6,0,none⟩) ((E 2).length+1) c6)) b who' n f' K (setE E 2 (E 2++[sl2 gx c.length])) s (d++LC1) q i/\
     Fr C (w6.setCell ⟨b,2,none⟩ (.slice (some ⟨g6,0,none⟩) ((E 2).length+1) c6)) who9 who' (fun _=>False)/\(∀ j,j≠2->f' j=U j)/\(∀ g,who9 g= .lent->(w6.setCell ⟨b,2,none⟩ (.slice (some ⟨g6,0,none⟩) ((E 2).length+1) c6)).heap[g]?=C.heap[g]?/\who' g= .lent)):=by
    intro o g6 c6 w6 ax key;rw [<-P]at key;exact aj.out.push (by omega) ax key
   have dd:B<=C.heap.size:=by have:=aj.out.low;omega
   have au:=ij M;have ar:=ij P;have bc:(E 2).length+1<=maxLen:=by unfold maxLen;omega
   have b2:(E 3).length+1<=maxLen:=by unfold maxLen;omega
   clear M P;have bH:Hid (setE E 2 (E 2++[sl2 gx c.length]) 3=E 3):=rH _ _ (by omega);generalize bg:(E 2).length=N0 at*;generalize b7:E 2=L0 at*;clear bg b7;go_upto_region 12 with (at_builtin;go_must (refine iE rfl _ _ _ rfl B 66 i1 _ 1 24 Tryz.underlying35 bq bz bA bB rfl (by omega) (.slice o1 N0 o3) N0 L0 rfl (iG au.out) ⟨C.heap.size,0,none⟩ 1 1 [sl2 gx c.length] rfl rfl (World.news_of_block (cs:= #[.slice (some ⟨gx,0,none⟩) (c.length+2) (c.length+2)]) (t:=66) (fr:=(0,0)) (heap_alloc_new C _)) (by simp [sl2,Value.oneCell']) (by omega) bc (by omega) (by simp;omega) (C.heap.size+1) (by simp) ?_);intro bb a7 aB ad ae bt;have ab:=(aa.out ad ae).1;have Y:aB.cell? ⟨b,2,none⟩=some (.slice o1 N0 o3):=(by rw [ab.cell (by omega),ar.out]);have p7:=ab.frozen 2)
   obtain⟨_,N,T,J,ak,br,X⟩:=aa.out ad ae;generalize aB.setCell ⟨b,2,none⟩ (.slice (some ⟨bb,0,none⟩) (N0+1) a7)=w11 at*;rw [<-bH.out]at cZ b2;generalize setE E 2 (L0++[sl2 gx c.length])=E11 at*;have rM:w11.ownsRow B 66 1 (T 3) (E11 3).length (E11 3):=J.lr.r 3 (by omega);have c3:w11.cell? ⟨b,3,none⟩=some (T 3):=J.cell (by omega);obtain⟨m1,m2,m3,eM⟩:=iw rM;rw [eM]at rM c3;have dm:=iB rM;subst dm;have cL:Hid (∀ {o:Obj} {g6 c6:Nat} {w6:World},w6.ownsRow B 66 1 (.slice (some ⟨g6,0,none⟩) ((E11 3).length+1) c6) ((E11 3).length+1) (E11 3++[.slice y c.length z])->
     (((Value.slice m1 (E11 3).length m3).ownBlock=some g6/\(w11.drew.alloc o).grownBy w6 (some g6))\/(g6=w11.drew.heap.size+1/\(w11.drew.alloc o).grownBy w6 none))->
     HB w6 b T/\∃ who' f',Lx B (w6.setCell ⟨b,3,none⟩ (.slice (some ⟨g6,0,none⟩) ((E11 3).length+1) c6)) b who' n f' K (setE E11 3 (E11 3++[.slice y c.length z])) s (d++LC1) q i/\
     Fr w11.drew (w6.setCell ⟨b,3,none⟩ (.slice (some ⟨g6,0,none⟩) ((E11 3).length+1) c6)) N who' (fun _=>False)/\(∀ j,j≠3->f' j=T j)/\(∀ g,N g= .lent->(w6.setCell ⟨b,3,none⟩ (.slice (some ⟨g6,0,none⟩) ((E11 3).length+1) c6)).heap[g]?=w11.drew.heap[g]?/\who' g= .lent)):=by
    intro o g6 c6 w6 ax key;rw [<-eM]at key;exact(J.grown (iy (ir _ _))).push (by omega) ax key
   have hbase11:B<=w11.heap.size:=by have:=J.low;omega
   have be:=bJ.out.trans ak;have bj:W.grownBy w11 none:=ak.base cD.out cd (fun g e=>(aj.out.hs.1.dom g e).1) (fun g e=>e.elim);have e0:w11.cell? ⟨w.heap.size,0,none⟩=some (.slice (some ⟨L,Z,none⟩) p.length D):=by
    rw [World.cell?_of_block (be.oth w.heap.size bm.1 av.out (fun e=>e)).1];have:=bG.out;simp [World.cell?,this]
   have F:w11.cell? ⟨L,Z+i,none⟩=some (.slice y c.length z):=ip bj _ _ bO.out;have cN:=ij rM;have cE:=ij eM;have a4:=ij J;have bI:=ij be;have cR:=ij bj;have a1:=ij (X gx bM.out);have a2:=ij (X m bS.out.2);have bN:=ij (X (w.heap.size+1) bP.out.2);have cJ:Hid (∀ g o l aE,Value.slice y c.length z= .slice (some ⟨g,o,none⟩) l aE->0<l->g<W.heap.size):=by
    intro g o l aE S hz;obtain⟨cS,a6,e4,h5⟩:=a3.out;simp only [Value.slice.injEq]at S e4;obtain⟨g',o',e5,e6,_⟩:=h5 0 (by omega);rw [<-e4.1,S.1]at e5;simp only [Option.some.injEq,Addr.mk.injEq,and_true]at e5;have:=World.block_lt_of_cell? W _ e6;simp only at this;omega
   clear rM eM ad ae ab Y p7 bt c2 J ak br X aa au ar aj bJ bH be bj bM;generalize db:(E11 3).length=N1 at*;generalize hL1':E11 3=L1 at*;clear db;refine iz (fun u=>u.cell? ⟨b,3,none⟩=some (.slice m1 N1 m3)/\u.cell? ⟨w.heap.size,0,none⟩=some (.slice (some ⟨L,Z,none⟩) p.length D)/\u.cell? ⟨L,Z+i,none⟩=some (.slice y c.length z)) 14 (by kernel_rfl) (by kernel_rfl) ⟨by simp [go_sem,c3],by simp [go_sem,e0],by simp [go_sem,F]⟩ ?_;intro A;have c5:=A.1;have c7:=A.2.1;have c8:=A.2.2;refine ie 0 ?v0 rfl (by kernel_rfl) (fun _ _ _ h=>h) (by rfl) ?y0 A ?_
   case y0=>(rintro u ⟨G,H,I⟩;go_simp;try rfl)
   simp only [Act.put,List.setIfInBounds_toArray];refine ie 1 ?v1 rfl (by kernel_rfl) (fun _ _ _ h=>h) (by rfl) ?y1 A ?_
   case y1=>(rintro u ⟨G,H,I⟩;go_simp;try rfl)
   simp only [Act.put];refine ie 2 ?v2 rfl (by kernel_rfl) (fun _ _ _ h=>h) (by rfl) ?y2 A ?_
   case y2=>(rintro u ⟨G,H,I⟩;go_simp;try rfl)
   simp only [Act.put];refine ie 3 ?v3 rfl (by kernel_rfl) (fun _ _ _ h=>h) (by rfl) ?y3 A ?_
   case y3=>(rintro u ⟨G,H,I⟩;go_simp;try rfl)
   simp only [Act.put];refine ie 4 ?v4 rfl (by kernel_rfl) (fun _ _ _ h=>h) (by rfl) ?y4 A ?_
   case y4=>(rintro u ⟨G,H,I⟩;go_simp;try rfl)
   simp only [Act.put];refine ie 5 ?v5 rfl (by kernel_rfl) (fun _ _ _ h=>h) (by rfl) ?y5 A ?_
   case y5=>(rintro u ⟨G,H,I⟩;go_simp;try rfl)
   simp only [Act.put];refine ie 6 ?v6 rfl (by kernel_rfl) (fun _ _ _ h=>h) (by rfl) ?y6 A ?_
   case y6=>(rintro u ⟨G,H,I⟩;go_simp;try rfl)
   simp only [Act.put];refine ie 7 ?v7 rfl (by kernel_rfl) (fun _ _ _ h=>h) (by rfl) ?y7 A ?_
   case y7=>(rintro u ⟨G,H,I⟩;go_simp;try rfl)
   simp only [Act.put];refine ie 8 ?v8 rfl (by kernel_rfl) (fun _ _ _ h=>h) (by rfl) ?y8 A ?_
   case y8=>(rintro u ⟨G,H,I⟩;go_simp;try rfl)
   simp only [Act.put];refine ie 9 ?v9 rfl (by kernel_rfl) (fun _ _ _ h=>h) (by rfl) ?y9 A ?_
   case y9=>(rintro u ⟨G,H,I⟩;go_simp;try rfl)
   simp only [Act.put];refine iu (i:=10) rfl (by kernel_rfl) (by kernel_rfl) (by rfl) ?_;intro K10 b5;have bK:=ij b5;clear b5;go_simp;refine bK.out _ _ ⟨ip (iq (ir _ _)) _ _ A.1,ip (iq (ir _ _)) _ _ A.2.1,ip (iq (ir _ _)) _ _ A.2.2⟩ ?_;clear bK;try simp only [Act.put,List.setIfInBounds_toArray]
   refine iu (i:=11) rfl (by kernel_rfl) (by kernel_rfl) (by rfl) ?_;intro K11 b6;have bL:=ij b6;clear b6;refine nV (.tmp 60) (.tmp 66) 35 (by rfl) B 66 i1 _ 1 24 Tryz.underlying35 bq bz bA bB rfl (by omega) (.slice m1 N1 m3) N1 L1 (by rfl) (iG (w:=w11.drew) (show w11.drew.ownsRow _ _ _ _ _ _ from cN.out)) ⟨w11.heap.size,0,none⟩ 1 1 [.slice y c.length z] (by rfl) (by rfl) (World.news_of_block (cs:= #[.slice y c.length z]) (t:=66) (fr:=(0,0)) (heap_alloc_new w11.drew _)) (by simp [Value.oneCell']) (by omega) b2 (by omega) (by simp;omega) (w11.heap.size+1) (by simp) ?_;intro cX cT bF co cB dl;obtain⟨bl,aX,bZ,aS,aK,dk,am⟩:=cL.out co cB;have Y:bF.cell? ⟨b,3,none⟩=some (.slice m1 N1 m3):=by rw [bl.cell (by omega),cE.out]
   have dp:N w.heap.size= .other:=(bI.out.oth w.heap.size bm.1 av.out (fun e=>e)).2;have dq:N L= .other:=by
    have ac:=World.block_lt_of_cell? W _ bO.out;simp only at ac;by_cases e:N L= .other
    ·exact e
    ·exact absurd (a4.out.hs.1.dom L e).1 (by omega)
   have bn:∀ g o v,N g= .other->g<w11.heap.size->w11.cell? ⟨g,o,none⟩=some v->bF.cell? ⟨g,o,none⟩=some v:=fun g o v h1 h2 h3=>by
    have h4:=(aK.oth g h2 h1 (fun e=>e)).1;rw [Below.heap_setCell _ _ _ _ (fun e=>by simp only at e;subst e;rw [a4.out.hs.1.wb]at h1;cases h1)]at h4;rw [World.cell?_of_block h4];exact h3
   have q6:=bn _ _ _ dp (World.block_lt_of_cell? w11 _ e0) e0;have q7:=bn _ _ _ dq (World.block_lt_of_cell? w11 _ F) F;have p7:=bl.frozen 3;refine bL.out _ _ ⟨Y,q6,q7⟩ ?_;clear bL;try simp only [Act.put,List.setIfInBounds_toArray]
   refine ie 12 ?v12 rfl (by kernel_rfl) (fun _ _ _ h=>h) (by rfl) ?y12 ⟨Y,q6,q7⟩ ?_
   case y12=>(rintro u ⟨G,H,I⟩;go_simp;try rfl)
   simp only [Act.put];refine ie 13 ?v13 rfl (by kernel_rfl) (fun _ _ _ h=>h) (by rfl) ?y13 ⟨Y,q6,q7⟩ ?_
   case y13=>(rintro u ⟨G,H,I⟩;go_simp;try rfl)
   simp only [Act.put];refine iF rfl (by kernel_rfl) (by kernel_rfl) (by rfl) ?_;go_simp;generalize bF.setCell ⟨b,3,none⟩ (.slice (some ⟨cX,0,none⟩) (N1+1) cT)=w13 at*;have aP:w13.heap[m]?=some (.cells (LC1.map slC++List.replicate (p.length+2 - i) (Value.slice none 0 0)).toArray 66 (0,0)):=by
    rw [(am m a2.out.2).1];show w11.heap[m]?=_
    rw [a2.out.1];exact bS.out.1
   have bk:W.grownBy w13 none:=(Fr.trans (Fr.grown (iy (ir _ _))) aK).base cR.out cd (fun g e=>(a4.out.hs.1.dom g e).1) (fun g e=>e.elim);have a0:Hid (PgIn B W O (w13.setCell ⟨m,i,none⟩ (.slice (some ⟨gx,0,none⟩) c.length (c.length+2))) b who2 aX n bZ K s d (LC1++[(gx,c,.slice y c.length z)]) q m (w.heap.size+1) p (i+1)):=by
    have V:=(am m a2.out.2).2;have de:w13.heap[gx]?=some (.cells (lentCode c) 65 (0,0)):=by
     rw [(am gx a1.out.2).1];show w11.heap[gx]?=_
     rw [a1.out.1];exact cC.out
    have dy:valOther aX (.slice y c.length z):=fun g o l aE S hz=>by
     have ac:=cJ.out g o l aE S hz;by_cases e:aX g= .other
     ·exact e
     ·exact absurd (aS.hs.1.dom g e).1 (by omega)
    have bu:=aS.addCode (LC1:=d++(LC1++[(gx,c,.slice y c.length z)])) de (am gx a1.out.2).2 (a3.out.pres (ip bk)) dy dr cH.out (by rw [<-List.append_assoc];exact aY.out) (by rw [List.append_assoc]);have cn:m∉s.map (·.1)++((d++(LC1++[(gx,c,Value.slice y c.length z)])).map (·.1)++q.map (·.1)):=by
     have:=cI.out;simp only [List.map_append,List.map_cons,List.map_nil,List.mem_append,not_or,List.mem_cons,List.not_mem_nil,or_false]at this ⊢;exact⟨this.1,⟨this.2.1.1,this.2.1.2,by omega⟩,this.2.2⟩
    have df:=(bI.out.trans (Fr.grown (iy (ir _ _)))).trans aK;have dn:w.heap.size+1∉s.map (·.1)++((d++(LC1++[(gx,c,Value.slice y c.length z)])).map (·.1)++q.map (·.1)):=by
     have:=cG.out;simp only [List.map_append,List.map_cons,List.map_nil,List.mem_append,not_or,List.mem_cons,List.not_mem_nil,or_false]at this ⊢;exact⟨this.1,⟨this.2.1.1,this.2.1.2,by omega⟩,this.2.2⟩
    have cu:=am (w.heap.size+1) bN.out.2;refine⟨bu.setOut V cn,?_,?_,V,cn,df.trans (Fr.set (Or.inl (by rw [V];simp))),?_,?_,cu.2,dn,bQ.out⟩
    ·rw [List.map_append,cF.out,cP.out];rfl
    ·rw [heap_setCell_same w13 m i _ _ _ aP,List.setIfInBounds_toArray,yS _ _ _ _ (by simpa using c9) ac,List.map_append];rfl
    ·exact iD bk (by have:=(aS.hs.1.dom m (by rw [V];simp)).1;omega)
    ·rw [Below.heap_setCell _ _ _ _ (by simpa using bQ.out),cu.1];show w11.heap[w.heap.size+1]?=_
     rw [bN.out.1];exact bP.out.1
   have k0:∃ u,w13.cell? ⟨m,i,none⟩=some u:=by
    have cl:i<(LC1.map slC++List.replicate (p.length+2 - i) (Value.slice none 0 0)).toArray.size:=by simp;omega
    exact⟨(LC1.map slC++List.replicate (p.length+2 - i) (Value.slice none 0 0)).toArray[i]'cl,by simp only [World.cell?,aP];exact Array.getElem?_eq_getElem cl⟩
   obtain⟨u13,k0⟩:=k0;have k1:w13.frozen? ⟨m,i,none⟩=false:=by simp [World.frozen?,aP]
   have k2:(i:Int)<(p.length:Int)+2:=by omega
   have k3:(c.length:Int)<=(c.length:Int)+2:=by omega
   clear co cB dl bl Y p7 q6 q7 bn aS aK dk am aP bk e0 F c3 A c5 c7 c8;go_wp2_with fail
   go_roundw
   case rel=>exact⟨i+1,_,aX,bZ,by omega,by go_num,a0⟩
   case measure=>simp [intOf];omega
  ·have ei:i=p.length:=by omega
   have t1:(p.length:Int)<=(i:Int):=by omega
   have cO:Hid ((q.map (·.2)).sum=d.length):=by have:=x.out.lx.le.sum;unfold Hid;simp at this;omega
   have M:a.ownsRow B 35 1 (U 4) (EL s (d++LC1) q 4).length (EL s (d++LC1) q 4):=x.out.lx.lr.r 4 (by omega);have c4:a.cell? ⟨b,4,none⟩=some (U 4):=x.out.lx.cell (by omega);have hE4:(EL s (d++LC1) q 4).length<=1000:=by simp only [EL,List.length_map];exact da
   have aY:=ij (Bv s (d++LC1) q m p.length);obtain⟨o1,o2,o3,P⟩:=iw M;rw [P]at M c4;have bv:=iB M;subst bv;have dd:B<=a.heap.size:=by have:=x.out.lx.low;omega
   have aa:Hid (∀ {o:Obj} {g6 c6:Nat} {w6:World},w6.ownsRow B 35 1 (.slice (some ⟨g6,0,none⟩) ((EL s (d++LC1) q 4).length+1) c6) ((EL s (d++LC1) q 4).length+1) (EL s (d++LC1) q 4++[sl2 m p.length])->
     (((Value.slice o1 (EL s (d++LC1) q 4).length o3).ownBlock=some g6/\(a.alloc o).grownBy w6 (some g6))\/(g6=a.heap.size+1/\(a.alloc o).grownBy w6 none))->
     HB w6 b U/\∃ who' f',Lx B (w6.setCell ⟨b,4,none⟩ (.slice (some ⟨g6,0,none⟩) ((EL s (d++LC1) q 4).length+1) c6)) b who' n f' K (setE (EL s (d++LC1) q) 4 (EL s (d++LC1) q 4++[sl2 m p.length])) s (d++LC1) q i/\
     Fr a (w6.setCell ⟨b,4,none⟩ (.slice (some ⟨g6,0,none⟩) ((EL s (d++LC1) q 4).length+1) c6)) aq who' (fun _=>False)/\(∀ j,j≠4->f' j=U j)/\(∀ g,aq g= .lent->(w6.setCell ⟨b,4,none⟩ (.slice (some ⟨g6,0,none⟩) ((EL s (d++LC1) q 4).length+1) c6)).heap[g]?=a.heap[g]?/\who' g= .lent)):=by
    intro o g6 c6 w6 ax key;rw [<-P]at key;exact x.out.lx.push (by omega) ax key
   have au:=ij M;have ar:=ij P;have bc:(EL s (d++LC1) q 4).length+1<=maxLen:=by unfold maxLen;omega
   clear M P;generalize bg:(EL s (d++LC1) q 4).length=N0 at*;generalize b7:EL s (d++LC1) q 4=L0 at*;clear bg;go_upto_region 15 with (at_builtin;go_must (refine iE rfl _ _ _ rfl B 35 i2 _ 1 24 Tryz.underlying41 dj dz dA dB rfl (by omega) (.slice o1 N0 o3) N0 L0 rfl (iG au.out) ⟨a.heap.size,0,none⟩ 1 1 [sl2 m p.length] rfl rfl (World.news_of_block (cs:= #[.slice (some ⟨m,0,none⟩) (p.length+2) (p.length+2)]) (t:=35) (fr:=(0,0)) (heap_alloc_new a _)) (by simp [sl2,Value.oneCell']) (by omega) bc (by omega) (by simp;omega) (a.heap.size+1) (by simp) ?_);intro bb a7 aB ad ae bt;have ab:=(aa.out ad ae).1;have Y:aB.cell? ⟨b,4,none⟩=some (.slice o1 N0 o3):=(by rw [ab.cell (by omega),ar.out]);have p7:=ab.frozen 4)
   obtain⟨_,N,T,J,ak,br,X⟩:=aa.out ad ae;generalize aB.setCell ⟨b,4,none⟩ (.slice (some ⟨bb,0,none⟩) (N0+1) a7)=w11 at*;have V:=X m x.out.wg;have aO:=X (w.heap.size+1) x.out.wr;have bw:w11.heap[m]?=some (.cells (lentRows LC1) 66 (0,0)):=by
    rw [V.1,x.out.row,ei];have S:p.length+2 - p.length=2:=by omega
    rw [S];rfl
   have aN:w11.heap[w.heap.size+1]?=some (.cells #[.slice none 0 0] 37 (0,0)):=by rw [aO.1];exact x.out.res
   have a0:Hid (Lx B (w11.setCell ⟨w.heap.size+1,0,none⟩ (.slice (some ⟨m,0,none⟩) p.length (p.length+2))) b N n T K (EL s (d++LC1) (q++[(m,p.length)])) s (d++LC1) (q++[(m,p.length)]) 0/\LC1.map (·.2.1)=p/\Fr w (w11.setCell ⟨w.heap.size+1,0,none⟩ (.slice (some ⟨m,0,none⟩) p.length (p.length+2))) who N (fun _=>False)/\(w11.setCell ⟨w.heap.size+1,0,none⟩ (.slice (some ⟨m,0,none⟩) p.length (p.length+2))).heap[m]?=some (.cells (lentRows LC1) 66 (0,0))):=by
    have ck:=J.le.addRow (g:=m) (by rw [cO.out,List.drop_left];exact bw) V.2 (by omega) x.out.ng;rw [ei]at ck;have cm:=J.lr;rw [aY.out]at cm;have bu:Lx B w11 b N n T K (EL s (d++LC1) (q++[(m,p.length)])) s (d++LC1) (q++[(m,p.length)]) 0:=⟨J.hs,cm,ck⟩;refine⟨bu.setOut aO.2 ?_,?_,((aZ.out.trans x.out.fr).trans ak).trans (Fr.set (Or.inl (by rw [aO.2];simp))),?_⟩
    ·have:=x.out.nr;have dt:=x.out.rg;simp only [List.map_append,List.map_cons,List.map_nil,List.mem_append,not_or,List.mem_cons,List.not_mem_nil,or_false]at this ⊢;exact⟨this.1,this.2.1,this.2.2,dt⟩
    ·have:=x.out.map;rw [ei,List.take_length]at this;exact this
    ·rw [Below.heap_setCell _ _ _ _ (by simpa using x.out.rg.symm)];exact bw
   have z0:w11.cell? ⟨w.heap.size+1,0,none⟩=some (.slice none 0 0):=by simp [World.cell?,aN]
   have z1:w11.frozen? ⟨w.heap.size+1,0,none⟩=false:=by simp [World.frozen?,aN]
   have z2:(w11.setCell ⟨w.heap.size+1,0,none⟩ (.slice (some ⟨m,0,none⟩) p.length (p.length+2))).cell? ⟨w.heap.size+1,0,none⟩=some (.slice (some ⟨m,0,none⟩) p.length (p.length+2)):=by
    have:=heap_setCell_same w11 (w.heap.size+1) 0 _ _ (.slice (some ⟨m,0,none⟩) p.length (p.length+2)) aN;simp [World.cell?,this]
   have z3:(p.length:Int)<=(p.length:Int)+2:=by omega
   clear ad ae ab Y p7 bt c4 J ak br X aa au ar V aO bw aN;go_wp2_with fail
   refine bodyPost_ret (v:= .agg #[.slice (some ⟨m,0,none⟩) p.length (p.length+2)]) ?_ rfl ?_
   ·simp [results,Tryz.results19,go_sem,z2]
   ·exact⟨m,LC1,N,T,rfl,a0.out⟩
theorem mu(c:List Ins)(v u:Value)(w:World)(z:CodeAt w v c)(A:CodeAt w u c)(hln:c.length<=4398046510976):
  Calls Tryz.prog 52 #[v,u] w fun e w'=>e= .returned (.bool true)/\Like w' w:=by
 obtain⟨ao,cap,rfl,hc⟩:=z;obtain⟨bo,dap,rfl,h⟩:=A;have x:=ij hc;have y:=ij h;clear hc h;have q9:(c.length:Int)<=4398046510976:=by omega
 go_enter Tryz.func52,Tryz.ntmps52
 go_wp2_with fail
 go_loopw [5] (fun i w'=>∃ k:Nat,k<=c.length/\i= .int .i64 k/\Hid (Like w' w)) (fun i _=>c.length - (intOf i).toNat)
 case atStart=>exact⟨0,Nat.zero_le _,rfl,ij (iT _)⟩
 case round=>
  obtain⟨k,hk,rfl,b⟩:=hrel;obtain⟨f,l⟩:∃ f,f=wr:=⟨_,rfl⟩;rw [<-l]at b ⊢;clear l;have d:∀ a,f.cell? a=w.cell? a:=fun a=>by simp [World.cell?,b.out.1]
  by_cases j:k<c.length
  ·obtain⟨xg,xo,rfl,m,n,o,p⟩:=x.out k j;obtain⟨yg,yo,rfl,q,r,s,t⟩:=y.out k j;rw [<-d]at m n o p q r s t;have q2:(0:Int)<=(k:Int):=by omega
   have B:(k:Int)<c.length:=by omega
   clear d;generalize c[k]=i at*;obtain⟨i1,i2,i3,i4⟩:=i;simp only at m n o p q r s t;go_wp2_with fail
   go_quiet (fail)
   go_wp2_with fail
   go_roundw
   case rel=>exact⟨k+1,by omega,by go_num,ij (jb b.out _)⟩
   case measure=>simp [intOf];omega
  ·have B:(c.length:Int)<=(k:Int):=by omega
   clear d;go_wp2_with fail
   go_ret;exact⟨rfl,b.out⟩
end
section
open Go.RowKit
structure Chg(w w':World)(S:Nat->Prop):Prop where
 os:w'.os=w.os
 tape:w'.tape=w.tape
 output:w'.output=w.output
 size:w.heap.size<=w'.heap.size
 blk:∀ g,g<w.heap.size->¬S g->w'.heap[g]?=w.heap[g]?
theorem Chg.refl(w:World)(S:Nat->Prop):Chg w w S:=⟨rfl,rfl,rfl,Nat.le_refl _,fun _ _ _=>rfl⟩
theorem Chg.below{w w1 w2:World}{S:Nat->Prop}(h:Chg w w1 S)(hb:Below w1.heap.size w1 w2):Chg w w2 S:=
 ⟨hb.os.trans h.os,hb.tape.trans h.tape,hb.output.trans h.output,Nat.le_trans h.size hb.size,fun g h1 h2=>by rw [hb.block g (Nat.lt_of_lt_of_le h1 h.size)];exact h.blk g h1 h2⟩
theorem Chg.set{w w1:World}{S:Nat->Prop}{g o:Nat}{v:Value}(h:Chg w w1 S)(hg:S g):Chg w (w1.setCell ⟨g,o,none⟩ v) S:=
 ⟨h.os,h.tape,h.output,by simpa using h.size,fun k h1 h2=>by rw [Below.heap_setCell _ _ _ _ (fun e=>by simp only at e;subst e;exact h2 hg)];exact h.blk k h1 h2⟩
theorem Chg.mono{w w1:World}{S S':Nat->Prop}(h:Chg w w1 S)(hs:∀ g,S g->S' g):Chg w w1 S':=⟨h.os,h.tape,h.output,h.size,fun k h1 h2=>h.blk k h1 (fun e=>h2 (hs k e))⟩
theorem Chg.cell{w a:World}{S:Nat->Prop}(h:Chg w a S){g o:Nat}{v:Value}(hc:w.cell? ⟨g,o,none⟩=some v)(c:¬S g):a.cell? ⟨g,o,none⟩=some v:=by
 have b:g<w.heap.size:=World.block_lt_of_cell? w _ hc;rw [World.cell?_of_block (h.blk g b c)];exact hc
theorem pC(l:List (Nat × List Ins × Value)):(lentRows l).size=l.length+2:=by simp [lentRows]
theorem sC(l:List (Nat × List Ins × Value))(k:Nat)(a:k<l.length):(lentRows l)[k]?=some (slC l[k]):=by
 simp only [lentRows,List.getElem?_toArray];rw [List.getElem?_append_left (by simpa using a),List.getElem?_map,List.getElem?_eq_getElem a];rfl
theorem pA(l:List (Nat × List Ins × Value)):(lentRows l)[l.length]?=some (.slice none 0 0):=by
 simp only [lentRows,List.getElem?_toArray];rw [List.getElem?_append_right (by simp)];simp
theorem pB(l:List (Nat × List Ins × Value)):(lentRows l)[l.length+1]?=some (.slice none 0 0):=by
 simp only [lentRows,List.getElem?_toArray];rw [List.getElem?_append_right (by simp)];simp
theorem pz(c:List Ins):(lentCode c).size=(c.length+2)*4:=by
 have:=jE c;unfold codeL at this;simp only [lentCode,List.size_toArray,List.length_append,this,insInk,List.length_cons,List.length_nil];omega
theorem jj(c:List Ins)(j:Nat)(hj:j<4):(lentCode c)[c.length*4+j]?=insInk[j]?/\(lentCode c)[(c.length+1)*4+j]?=insInk[j]?:=by
 have a:=jE c;unfold codeL at a;simp only [lentCode,List.getElem?_toArray];generalize List.flatMap insL c=L at a ⊢;refine⟨?_,?_⟩
 ·rw [List.getElem?_append_right (by omega),List.getElem?_append_left (by simp [insInk];omega)];congr 1;omega
 ·rw [List.getElem?_append_right (by omega),List.getElem?_append_right (by simp [insInk];omega)];congr 1;simp [insInk];omega
def Hz(B:Nat)(w:World)(b:Nat)(who:Nat->Role)(n:Int)(f:Nat->Value)(K:Nat->List (Value × Int)):Prop:=HsK B w b who n f K/\∀ k,k<5->f k= .slice none 0 0
theorem Hz.lx{B:Nat}{w:World}{b:Nat}{who:Nat->Role}{n:Int}{f:Nat->Value}{K:Nat->List (Value × Int)}(h:Hz B w b who n f K):Lx B w b who n f K (EL [] [] []) [] [] [] 0:=by
 refine⟨h.1,⟨fun k hk=>?_,fun k hk g e=>?_⟩,⟨fun x hx=>(by cases hx),fun x hx=>(by cases hx),fun j hj=>(by simp at hj),rfl,(by simp)⟩⟩
 ·have a:EL [] [] [] k=[]:=by
   rcases(by omega:k=0\/k=1\/k=2\/k=3\/k=4)with rfl | rfl | rfl | rfl | rfl<;>rfl
  rw [a,h.2 k hk];exact⟨rfl,Or.inl ⟨rfl,rfl⟩⟩
 ·rw [h.2 k hk]at e;cases e
theorem Lx.free{B:Nat}{w w':World}{b:Nat}{who:Nat->Role}{n:Int}{f:Nat->Value}{K:Nat->List (Value × Int)}{E:Nat->List Value}{i:List (Nat × List Int × Value)}{d:List (Nat × List Ins × Value)}{j:List (Nat × Nat)}{tail:Nat}
  (h:Lx B w b who n f K E i d j tail) {S:Nat->Prop} (hc:Chg w w' S) (c:∀ g,S g->who g= .lent):
  let w5:=((((w'.setCell ⟨b,4,none⟩ (.slice none 0 0)).setCell ⟨b,2,none⟩ (.slice none 0 0)).setCell ⟨b,3,none⟩ (.slice none 0 0)).setCell ⟨b,0,none⟩ (.slice none 0 0)).setCell ⟨b,1,none⟩ (.slice none 0 0)
  ∃ f',Hz B w5 b who n f' K/\Fr w w5 who who (fun _=>False):=by
 intro w5;have m:Hs B w' b who n f K (marksOf K):=h.hs.1.same hc.size (fun g h1 h2 h3=>hc.blk g h1 (fun e=>by rw [c g e]at h3;cases h3));have p:=((((m.setLent (o:=4) (by omega) (.slice none 0 0)).setLent (o:=2) (by omega) (.slice none 0 0)).setLent (o:=3) (by omega) (.slice none 0 0)).setLent (o:=0) (by omega) (.slice none 0 0)).setLent (o:=1) (by omega) (.slice none 0 0);have l:Fr w w' who who (fun _=>False):=⟨hc.os,hc.tape,hc.output,hc.size,fun g h1 h2 _=>⟨hc.blk g h1 (fun e=>by rw [c g e]at h2;cases h2),h2⟩⟩;have a:who b≠ .other\/False:=Or.inl (by rw [h.hs.1.wb];simp);refine⟨_,⟨⟨p,h.hs.2⟩,fun k hk=>?_⟩,((((l.trans (Fr.set a)).trans (Fr.set a)).trans (Fr.set a)).trans (Fr.set a)).trans (Fr.set a)⟩;rcases(by omega:k=0\/k=1\/k=2\/k=3\/k=4)with rfl | rfl | rfl | rfl | rfl<;>simp [setF]
end
end Go.Proofs.YtklenjmfalljgabGreatDoor
