/- The texts Hgj Hgk Hgl Hgm Hgn Hgd0 Hgv Hgd1 Hgd2. -/
import Derived.Test.YtklenjmfalljgabGreatDoorM09
import Derived.ChangeKeysEq
namespace Go.Proofs.YtklenjmfalljgabGreatDoor
set_option maxRecDepth 100000
set_option maxHeartbeats 8000000
section
open Go.RowKit
attribute [local go_sem] Go.World.cell?_alloc_some
theorem wy(n:Nat):(madeCells #[Value.int .i64 0,.int .i64 0,.int .i64 0,.int .i64 0] n).toList=List.replicate n (.int .i64 0):=by
 apply List.ext_getElem (by simp [madeCells]);intro i h1 a;simp only [madeCells,Array.toList_map,List.getElem_map,List.getElem_replicate];have:i<n:=by simpa using a
 simp only [Array.toList_range,List.getElem_range];rcases(by omega:i % 4=0\/i % 4=1\/i % 4=2\/i % 4=3)with h | h | h | h<;>simp [h]
theorem yR(c:List Ins):((codeL c++(List.replicate ((c.length+2)*4) (Value.int .i64 0)).drop (c.length*4)).set (c.length*4) (.int .i64 (-77000000))).set ((c.length+1)*4) (.int .i64 (-77000000))=codeL c++(insInk++insInk):=by
 have e:(List.replicate ((c.length+2)*4) (Value.int .i64 0)).drop (c.length*4)=List.replicate 8 (Value.int .i64 0):=by
  rw [List.drop_replicate];congr 1;omega
 have b:=jE c;rw [e,<-b,List.set_append,if_neg (by omega),Nat.sub_self,List.set_append,if_neg (by omega)];have a:(c.length+1)*4 - (codeL c).length=4:=by omega
 rw [a];rfl
theorem wj:((Tryz.prog.info? 65).map fun i=>(i.zero,i.size,i.bytes))=some (some (.agg #[.int .i64 0,.int .i64 0,.int .i64 0,.int .i64 0]),4,32):=by kernel_rfl
theorem tU:((Tryz.prog.info? 66).map fun i=>(i.zero,i.size,i.bytes))=some (some (.slice none 0 0),1,24):=by kernel_rfl
theorem tV:((Tryz.prog.info? 35).map fun i=>(i.zero,i.size,i.bytes))=some (some (.slice none 0 0),1,24):=by kernel_rfl
structure PgIn(B:Nat)(W w2 w':World)(b:Nat)(who2 who':Nat->Role)(n:Int)(f':Nat->Value)(K:Nat->List (Value × Int))(LI:List (Nat × List Int × Value))(LC LC1:List (Nat × List Ins × Value))(LR:List (Nat × Nat))(gr rb:Nat)(p:List (List Ins))(i:Nat):Prop where
 lx:Lx B w' b who' n f' K (EL LI (LC++LC1) LR) LI (LC++LC1) LR i
 map:LC1.map (·.2.1)=p.take i
 row:w'.heap[gr]?=some (.cells (LC1.map slC++List.replicate (p.length+2 - i) (Value.slice none 0 0)).toArray 66 (0,0))
 wg:who' gr= .lent
 ng:gr∉LI.map (·.1)++((LC++LC1).map (·.1)++LR.map (·.1))
 fr:Fr w2 w' who2 who' (fun _=>False)
 base:W.grownBy w' none
 res:w'.heap[rb]?=some (.cells #[.slice none 0 0] 37 (0,0))
 wr:who' rb= .lent
 nr:rb∉LI.map (·.1)++((LC++LC1).map (·.1)++LR.map (·.1))
 rg:rb≠gr
theorem PgIn.len{B:Nat}{W l w':World}{b:Nat}{o m:Nat->Role}{n:Int}{e:Nat->Value}{K:Nat->List (Value × Int)}{c:List (Nat × List Int × Value)}{a LC1:List (Nat × List Ins × Value)}{d:List (Nat × Nat)}{f k:Nat}{p:List (List Ins)}{i:Nat}
  (h:PgIn B W l w' b o m n e K c a LC1 d f k p i) (j:i<=p.length):LC1.length=i:=by
 have:=congrArg List.length h.map;simpa [Nat.min_eq_left j]using this
theorem yS(L:List Value)(v:Value)(P i:Nat)(c:L.length=i)(hi:i<P):(L++List.replicate (P+2 - i) (Value.slice none 0 0)).set i v=(L++[v])++List.replicate (P+2 - (i+1)) (Value.slice none 0 0):=by
 obtain⟨k,a⟩:∃ k,P+2 - i=k+1:=⟨P+2 - (i+1),by omega⟩;have b:P+2 - (i+1)=k:=by omega
 rw [a,b,List.set_append,if_neg (by omega),c,Nat.sub_self,List.replicate_succ,List.set_cons_zero,List.append_assoc];rfl
theorem kz(W:World)(B:Nat)(w:World)(b:Nat)(who:Nat->Role)(n:Int)(f:Nat->Value)(K:Nat->List (Value × Int))(s:List (Nat × List Int × Value))(d:List (Nat × List Ins × Value))(q:List (Nat × Nat))(pv:Value)(p:List (List Ins))
  (h:Lx B w b who n f K (EL s d q) s d q 0) (hW:W.grownBy w none) (cd:W.heap.size<=B) (hP:ProgAt W pv p) (hp:p.length<=5864062014634) (cr:∀ c∈p,c.length<=4398046510976) (hLC:d.length+p.length<=5864062014634) (da:q.length<=1000):
  Calls Tryz.prog 19 #[pt b,pv] w fun e w'=>∃ g LC1 who' f',e= .returned (.agg #[.slice (some ⟨g,0,none⟩) p.length (p.length+2)])/\Lx B w' b who' n f' K (EL s (d++LC1) (q++[(g,p.length)])) s (d++LC1) (q++[(g,p.length)]) 0/\LC1.map (·.2.1)=p/\Fr w w' who who' (fun _=>False)/\w'.heap[g]?=some (.cells (lentRows LC1) 66 (0,0)):=by
 obtain⟨i0,cj,dC,cA,dD⟩:=info_parts wj;obtain⟨i1,bq,bz,bA,bB⟩:=info_parts tU;obtain⟨i2,dj,dz,dA,dB⟩:=info_parts tV;have HH:=ij h;have HW:=ij hW;have cM:=ij hP;have cK:=ij cr;have hb:=h.low;obtain⟨Q,D,rfl⟩:=hP.form;have ct:pt b= .pointer (some ⟨b,0,none⟩):=rfl;rw [ct];clear h hP ct cr hW;have q0:(p.length:Int)<=5864062014634:=by omega
 have q1:(0:Int)<=(p.length:Int):=by omega
 have dx:(Tryz.prog.info? 65).map (·.size)=some 4:=by rw [cj];simp [cA]
 go_enter Tryz.func19,Tryz.ntmps19
 go_upto_region 2 with fail
 have bp:w.grownBy ((w.alloc (.cells #[.slice Q p.length D] 37)).alloc (.cells #[.slice none 0 0] 37)) none:=iq (iq (ir _ _));have bd:((w.alloc (.cells #[.slice Q p.length D] 37)).alloc (.cells #[.slice none 0 0] 37)).heap[w.heap.size]?=some (.cells #[.slice Q p.length D] 37 (0,0)):=by
  rw [Below.heap_alloc _ _ _ (by simp)];exact heap_alloc_new _ _
 have bi:((w.alloc (.cells #[.slice Q p.length D] 37)).alloc (.cells #[.slice none 0 0] 37)).heap[w.heap.size+1]?=some (.cells #[.slice none 0 0] 37 (0,0)):=by
  have:=heap_alloc_new (w.alloc (.cells #[.slice Q p.length D] 37)) (.cells #[.slice none 0 0] 37);simpa using this
 have hz:((w.alloc (.cells #[.slice Q p.length D] 37)).alloc (.cells #[.slice none 0 0] 37)).heap.size=w.heap.size+2:=by simp
 generalize (w.alloc (.cells #[.slice Q p.length D] 37)).alloc (.cells #[.slice none 0 0] 37)=w1 at bp bd bi hz ⊢;go_upto_region 3 with (at_make;refine wpList_make_full _ rfl _ _ _ rfl w1.heap.size 66 i1 _ 1 Tryz.underlying35 bq bz bA .i64 .i64 _ _ (p.length+2) rfl rfl (by simp) (by simp) (by rw [bB];omega) (by unfold maxLen;omega) (by simp) ?_;intro O cp aL)
 have bx:O.heap[w1.heap.size]?=some (.cells (List.replicate (p.length+2) (Value.slice none 0 0)).toArray 66 (0,0)):=by
  rcases cp.2 with ⟨e,_⟩ | ⟨g',a6,cur,hv,_,hh,_,_,aJ,htk⟩
  ·cases e
  ·simp only [Value.slice.injEq,Option.some.injEq,Addr.mk.injEq,true_and,and_true]at hv;obtain⟨rfl,rfl⟩:=hv;rw [hh];have F:cur.toList=List.replicate (p.length+2) (Value.slice none 0 0):=by
    rw [<-toList_madeCells_one];simp only [Value.cells,Nat.mul_one]at htk aJ;rw [<-htk,List.take_of_length_le (by simp;omega)]
   rw [<-F]
 have cv:w1.heap.size<O.heap.size:=(Array.getElem?_eq_some_iff.1 bx).1;have bf:=il bp aL;have b3:O.heap[w.heap.size]?=some (.cells #[.slice Q p.length D] 37 (0,0)):=by rw [aL.block _ (by omega) (by simp)];exact bd
 have b8:O.heap[w.heap.size+1]?=some (.cells #[.slice none 0 0] 37 (0,0)):=by rw [aL.block _ (by omega) (by simp)];exact bi
 obtain⟨cy,ch⟩:=HH.out.new2 bf (g1:=w1.heap.size) (g2:=w.heap.size+1) (by omega) cv (by omega) (by omega);have H0:Hid (PgIn B W O O b (setW (setW who w1.heap.size .lent) (w.heap.size+1) .lent) (setW (setW who w1.heap.size .lent) (w.heap.size+1) .lent) n f K s d [] q w1.heap.size (w.heap.size+1) p 0):=by
  refine⟨by simpa using cy,by simp,by simpa using bx,by rw [iJ _ _ (by omega)];exact iY _ _ _,fun e=>?_,Fr.refl _ _ _,il HW.out bf,b8,iY _ _ _,fun e=>?_,by omega⟩
  ·have:=(HH.out.le.lt _ (by simpa using e)).1;omega
  ·have:=(HH.out.le.lt _ (by simpa using e)).1;omega
 have cx:setW (setW who w1.heap.size .lent) (w.heap.size+1) .lent w.heap.size= .other:=by
  rw [iJ _ _ (by omega),iJ _ _ (by omega)];by_cases e:who w.heap.size= .other
  ·exact e
  ·exact absurd (HH.out.hs.1.dom w.heap.size e).2 (by omega)
 have aZ:=ij ch;have av:=ij cx;have bG:=ij b3;have bm:w.heap.size<O.heap.size/\w.heap.size+1<O.heap.size:=by omega
 clear bp bd bi cp aL bx bf b3 b8 cy ch cx;rw [hz]at H0 aZ av;obtain⟨m,aM⟩:∃ m,m=w.heap.size+2:=⟨_,rfl⟩;rw [<-aM]at H0 aZ av;generalize setW (setW who m .lent) (w.heap.size+1) .lent=who2 at*;clear hz cv;go_upto_region 4 with fail
 rw [<-aM];have HGR:=ij aM;clear aM;go_loopw [7] (fun v w'=>∃ (i:Nat) (LC1:List (Nat × List Ins × Value)) (who':Nat->Role) (f':Nat->Value),i<=p.length/\v= .int .i64 i/\Hid (PgIn B W O w' b who2 who' n f' K s d LC1 q m (w.heap.size+1) p i)) (fun v _=>p.length - (intOf v).toNat)
 case atStart=>exact⟨0,[],who2,f,Nat.zero_le _,rfl,H0⟩
 case round=>
  clear H0;obtain⟨i,LC1,aq,U,hi,rfl,x⟩:=hrel;obtain⟨a,cw⟩:∃ a,a=wr:=⟨_,rfl⟩;rw [<-cw]at x ⊢;clear cw;have c9:=x.out.len hi;by_cases ac:i<p.length
  ·obtain⟨cS,a6,F,cf⟩:=cM.out;obtain⟨L,Z,S,rv,r1,r2⟩:=cf i ac;simp only [Value.agg.injEq,Array.mk.injEq,List.cons.injEq,Value.slice.injEq,and_true,true_and]at F;obtain⟨F,cV⟩:=F;subst F cV S;have dr:p[i].length<=4398046510976:=cK.out _ (List.getElem_mem ac);obtain⟨y,z,rfl⟩:∃ y z,rv= .slice y p[i].length z:=⟨_,_,r2.choose_spec.choose_spec.1⟩;have d0:a.cell? ⟨L,Z+i,none⟩=some (.slice y p[i].length z):=ip x.out.base _ _ r1;have ce:=(x.out.fr.oth w.heap.size bm.1 av.out (fun e=>e)).1;have c0:a.cell? ⟨w.heap.size,0,none⟩=some (.slice (some ⟨L,Z,none⟩) p.length D):=by
    rw [World.cell?_of_block ce];have:=bG.out;simp [World.cell?,this]
   have bO:=ij r1;have a3:=ij r2;have cP:Hid (p.take (i+1)=p.take i++[p[i]]):=List.take_succ_eq_append_getElem ac;clear r1 r2 cf ce;generalize p[i]=c at*;have t0:(0:Int)<=(i:Int):=by omega
   have t1:(i:Int)<p.length:=by omega
   have t2:(c.length:Int)<=4398046510976:=by omega
   have t3:(0:Int)<=(c.length:Int):=by omega
   go_upto_region 8 with (at_make;refine wpList_make_full _ rfl _ _ _ rfl a.heap.size 65 i0 _ 4 Tryz.underlying66 cj dC cA .i64 .i64 _ _ (c.length+2) rfl rfl (by simp) (by simp) (by rw [dD];omega) (by unfold maxLen;omega) (by simp) ?_;intro w6 cq aw)
   have du:∃ cur,w6.heap[a.heap.size]?=some (.cells cur 65 (0,0))/\cur.toList=List.replicate ((c.length+2)*4) (.int .i64 0):=by
    rcases cq.2 with ⟨e,_⟩ | ⟨g',a6,cur,hv,_,hh,_,_,aJ,htk⟩
    ·cases e
    ·simp only [Value.slice.injEq,Option.some.injEq,Addr.mk.injEq,true_and,and_true]at hv;obtain⟨rfl,rfl⟩:=hv;refine⟨cur,hh,?_⟩;rw [<-wy];simp only [Value.cells]at htk;rw [<-htk,List.take_of_length_le (by simp;omega)]
   obtain⟨cur,cg,bo⟩:=du;have aJ:cur.size=(c.length+2)*4:=by have:=congrArg List.length bo;simpa using this
   have cb:=il x.out.base aw;have d6:w6.cell? ⟨L,Z+i,none⟩=some (.slice y c.length z):=ip aw _ _ d0;have c6:w6.cell? ⟨w.heap.size,0,none⟩=some (.slice (some ⟨L,Z,none⟩) p.length D):=ip aw _ _ c0;obtain⟨w7,dv,an,al⟩:=pH w6 66 3 65 Tryz.underlying66 dx a.heap.size (c.length+2) (c.length+2) (.slice y c.length z) c (a3.out.pres (ip cb)) cur 65 cg (by omega) (by omega);rw [bo]at an;have ai:=ij aw;clear cq aw d0 c0 cg bo;go_upto_region 9 with fail
   clear dv d6 c6;obtain⟨R,hR⟩:∃ R:Array Value,R=(codeL c++(List.replicate ((c.length+2)*4) (Value.int .i64 0)).drop (c.length*4)).toArray:=⟨_,rfl⟩;rw [<-hR]at an;have dc:R.size=(c.length+2)*4:=by rw [hR];simp [jE];omega
   have bR:Hid ((R.setIfInBounds (c.length*4) (.int .i64 (-77000000))).setIfInBounds ((c.length+1)*4) (.int .i64 (-77000000))=lentCode c):=by
    unfold Hid;rw [hR];simp only [List.setIfInBounds_toArray,lentCode];rw [yR];rfl
   have aQ:=heap_setCell_same w7 a.heap.size (c.length*4) R 65 (.int .i64 (-77000000)) an;have ay:=heap_setCell_same _ a.heap.size ((c.length+1)*4) _ 65 (.int .i64 (-77000000)) aQ;rw [bR.out]at ay;have d7:∃ u,w7.cell? ⟨a.heap.size,c.length*4,none⟩=some u:=⟨R[c.length*4]'(by omega),by simp only [World.cell?,an];exact Array.getElem?_eq_getElem _⟩;have d8:∃ u,(w7.setCell ⟨a.heap.size,c.length*4,none⟩ (.int .i64 (-77000000))).cell? ⟨a.heap.size,(c.length+1)*4,none⟩=some u:=⟨(R.setIfInBounds (c.length*4) (.int .i64 (-77000000)))[(c.length+1)*4]'(by simp;omega),by simp only [World.cell?,aQ];exact Array.getElem?_eq_getElem _⟩;obtain⟨u7,d7⟩:=d7;obtain⟨u8,d8⟩:=d8;have z7:w7.frozen? ⟨a.heap.size,c.length*4,none⟩=false:=by simp [World.frozen?,an]
   have z8:(w7.setCell ⟨a.heap.size,c.length*4,none⟩ (.int .i64 (-77000000))).frozen? ⟨a.heap.size,(c.length+1)*4,none⟩=false:=by simp [World.frozen?,aQ]
   have b4:a.grownBy w7 none:=⟨al.os.trans ai.out.os,al.tape.trans ai.out.tape,al.output.trans ai.out.output,Nat.le_trans ai.out.size al.size,fun k hk _=>by
    rw [al.block k (Nat.lt_of_lt_of_le hk ai.out.size) (by simp;omega)];exact ai.out.block k hk (by simp)⟩
   obtain⟨C,aR⟩:∃ C,C=(w7.setCell ⟨a.heap.size,c.length*4,none⟩ (.int .i64 (-77000000))).setCell ⟨a.heap.size,(c.length+1)*4,none⟩ (.int .i64 (-77000000)):=⟨_,rfl⟩;have aH:a.grownBy C none:=by rw [aR];exact iD (iD b4 (Nat.le_refl _)) (Nat.le_refl _)
   rw [<-aR]at ay;have dw:a.heap.size<C.heap.size:=(Array.getElem?_eq_some_iff.1 ay).1;have bT:=ij aR;clear aR an aQ al hR dc b4 bR aJ cb;go_upto_region 11 with fail
   rw [<-bT.out];clear bT d7 d8 z7 z8 u7 u8;obtain⟨cz,ci⟩:=x.out.lx.new aH (g:=a.heap.size) (Nat.le_refl _) dw;have aj:=ij cz;have bJ:=ij (x.out.fr.trans ci);have cC:=ij ay;have bM:Hid (setW aq a.heap.size .lent a.heap.size= .lent):=iY _ _ _;have dg:m<a.heap.size:=(Array.getElem?_eq_some_iff.1 x.out.row).1;have bS:Hid (C.heap[m]?=some (.cells (LC1.map slC++List.replicate (p.length+2 - i) (Value.slice none 0 0)).toArray 66 (0,0))/\setW aq a.heap.size .lent m= .lent):=by
    refine⟨by rw [aH.block _ dg (by simp)];exact x.out.row,?_⟩;rw [iJ _ _ (by omega)];exact x.out.wg
   have cH:Hid (a.heap.size∉s.map (·.1)++((d++LC1).map (·.1)++q.map (·.1))):=fun e=>by have:=(x.out.lx.le.lt _ e).1;omega
   have cD:=ij (il x.out.base aH);have cF:=ij x.out.map;have cI:=ij x.out.ng;have cG:=ij x.out.nr;have bQ:=ij x.out.rg;have ds:w.heap.size+1<a.heap.size:=(Array.getElem?_eq_some_iff.1 x.out.res).1;have bP:Hid (C.heap[w.heap.size+1]?=some (.cells #[.slice none 0 0] 37 (0,0))/\setW aq a.heap.size .lent (w.heap.size+1)= .lent):=by
    refine⟨by rw [aH.block _ ds (by simp)];exact x.out.res,?_⟩;rw [iJ _ _ (by omega)];exact x.out.wr
   have aY:=ij (zG s (d++LC1) q a.heap.size c (.slice y c.length z));have hE2:(EL s (d++LC1) q 2).length<=5864062014634:=by simp only [EL,List.length_map,List.length_append];omega
   have cZ:(EL s (d++LC1) q 3).length<=5864062014634:=by simp only [EL,List.length_map,List.length_append];omega
   clear cz ci ay x;generalize setW aq a.heap.size .lent=who9 at*;generalize EL s (d++LC1) q=E at*;generalize dh:a.heap.size=gx at*;clear dh;have M:C.ownsRow B 66 1 (U 2) (E 2).length (E 2):=aj.out.lr.r 2 (by omega);have c2:C.cell? ⟨b,2,none⟩=some (U 2):=aj.out.cell (by omega);obtain⟨o1,o2,o3,P⟩:=iw M;rw [P]at M c2;have bv:=iB M;subst bv;have aa:Hid (∀ {o:Obj} {g6 c6:Nat} {w6:World},w6.ownsRow B 66 1 (.slice (some ⟨g6,0,none⟩) ((E 2).length+1) c6) ((E 2).length+1) (E 2++[sl2 gx c.length])->
     (((Value.slice o1 (E 2).length o3).ownBlock=some g6/\(C.alloc o).grownBy w6 (some g6))\/(g6=C.heap.size+1/\(C.alloc o).grownBy w6 none))->
     HB w6 b U/\∃ who' f',Lx B (w6.setCell ⟨b,2,none⟩ (.slice (some ⟨g6,0,none⟩) ((E 2).length+1) c6)) b who' n f' K (setE E 2 (E 2++[sl2 gx c.length])) s (d++LC1) q i/\
     Fr C (w6.setCell ⟨b,2,none⟩ (.slice (some ⟨g6,0,none⟩) ((E 2).length+1) c6)) who9 who' (fun _=>False)/\(∀ j,j≠2->f' j=U j)/\(∀ g,who9 g= .lent->(w6.setCell ⟨b,2,none⟩ (.slice (some ⟨g6,0,none⟩) ((E 2).length+1) c6)).heap[g]?=C.heap[g]?/\who' g= .lent)):=by
    intro o g6 c6 w6 ax key;rw [<-P]at key;exact aj.out.push (by omega) ax key
   have dd:B<=C.heap.size:=by have:=aj.out.low;omega
   have au:=ij M;have ar:=ij P;have bc:(E 2).length+1<=maxLen:=by unfold maxLen;omega
   have b2:(E 3).length+1<=maxLen:=by unfold maxLen;omega
   clear M P;have bH:Hid (setE E 2 (E 2++[sl2 gx c.length]) 3=E 3):=rH _ _ (by omega);generalize bg:(E 2).length=N0 at*;generalize b7:E 2=L0 at*;clear bg b7;go_upto_region 12 with (at_builtin;go_must (refine iE rfl _ _ _ rfl B 66 i1 _ 1 24 Tryz.underlying35 bq bz bA bB rfl (by omega) (.slice o1 N0 o3) N0 L0 rfl (iG au.out) ⟨C.heap.size,0,none⟩ 1 1 [sl2 gx c.length] rfl rfl (World.news_of_block (cs:= #[.slice (some ⟨gx,0,none⟩) (c.length+2) (c.length+2)]) (t:=66) (fr:=(0,0)) (heap_alloc_new C _)) (by simp [sl2,Value.oneCell']) (by omega) bc (by omega) (by simp;omega) (C.heap.size+1) (by simp) ?_);intro bb a7 aB ad ae bt;have ab:=(aa.out ad ae).1;have Y:aB.cell? ⟨b,2,none⟩=some (.slice o1 N0 o3):=(by rw [ab.cell (by omega),ar.out]);have p7:=ab.frozen 2)
   obtain⟨_,N,T,J,ak,br,X⟩:=aa.out ad ae;generalize aB.setCell ⟨b,2,none⟩ (.slice (some ⟨bb,0,none⟩) (N0+1) a7)=w11 at*;rw [<-bH.out]at cZ b2;generalize setE E 2 (L0++[sl2 gx c.length])=E11 at*;have rM:w11.ownsRow B 66 1 (T 3) (E11 3).length (E11 3):=J.lr.r 3 (by omega);have c3:w11.cell? ⟨b,3,none⟩=some (T 3):=J.cell (by omega);obtain⟨m1,m2,m3,eM⟩:=iw rM;rw [eM]at rM c3;have dm:=iB rM;subst dm;have cL:Hid (∀ {o:Obj} {g6 c6:Nat} {w6:World},w6.ownsRow B 66 1 (.slice (some ⟨g6,0,none⟩) ((E11 3).length+1) c6) ((E11 3).length+1) (E11 3++[.slice y c.length z])->
     (((Value.slice m1 (E11 3).length m3).ownBlock=some g6/\(w11.drew.alloc o).grownBy w6 (some g6))\/(g6=w11.drew.heap.size+1/\(w11.drew.alloc o).grownBy w6 none))->
     HB w6 b T/\∃ who' f',Lx B (w6.setCell ⟨b,3,none⟩ (.slice (some ⟨g6,0,none⟩) ((E11 3).length+1) c6)) b who' n f' K (setE E11 3 (E11 3++[.slice y c.length z])) s (d++LC1) q i/\
     Fr w11.drew (w6.setCell ⟨b,3,none⟩ (.slice (some ⟨g6,0,none⟩) ((E11 3).length+1) c6)) N who' (fun _=>False)/\(∀ j,j≠3->f' j=T j)/\(∀ g,N g= .lent->(w6.setCell ⟨b,3,none⟩ (.slice (some ⟨g6,0,none⟩) ((E11 3).length+1) c6)).heap[g]?=w11.drew.heap[g]?/\who' g= .lent)):=by
    intro o g6 c6 w6 ax key;rw [<-eM]at key;exact(J.grown (iy (ir _ _))).push (by omega) ax key
   have hbase11:B<=w11.heap.size:=by have:=J.low;omega
   have be:=bJ.out.trans ak;have bj:W.grownBy w11 none:=ak.base cD.out cd (fun g e=>(aj.out.hs.1.dom g e).1) (fun g e=>e.elim);have e0:w11.cell? ⟨w.heap.size,0,none⟩=some (.slice (some ⟨L,Z,none⟩) p.length D):=by
    rw [World.cell?_of_block (be.oth w.heap.size bm.1 av.out (fun e=>e)).1];have:=bG.out;simp [World.cell?,this]
   have F:w11.cell? ⟨L,Z+i,none⟩=some (.slice y c.length z):=ip bj _ _ bO.out;have cN:=ij rM;have cE:=ij eM;have a4:=ij J;have bI:=ij be;have cR:=ij bj;have a1:=ij (X gx bM.out);have a2:=ij (X m bS.out.2);have bN:=ij (X (w.heap.size+1) bP.out.2);have cJ:Hid (∀ g o l aE,Value.slice y c.length z= .slice (some ⟨g,o,none⟩) l aE->0<l->g<W.heap.size):=by
    intro g o l aE S hz;obtain⟨cS,a6,e4,h5⟩:=a3.out;simp only [Value.slice.injEq]at S e4;obtain⟨g',o',e5,e6,_⟩:=h5 0 (by omega);rw [<-e4.1,S.1]at e5;simp only [Option.some.injEq,Addr.mk.injEq,and_true]at e5;have:=World.block_lt_of_cell? W _ e6;simp only at this;omega
   clear rM eM ad ae ab Y p7 bt c2 J ak br X aa au ar aj bJ bH be bj bM;generalize db:(E11 3).length=N1 at*;generalize hL1':E11 3=L1 at*;clear db;refine iz (fun u=>u.cell? ⟨b,3,none⟩=some (.slice m1 N1 m3)/\u.cell? ⟨w.heap.size,0,none⟩=some (.slice (some ⟨L,Z,none⟩) p.length D)/\u.cell? ⟨L,Z+i,none⟩=some (.slice y c.length z)) 14 (by kernel_rfl) (by kernel_rfl) ⟨by simp [go_sem,c3],by simp [go_sem,e0],by simp [go_sem,F]⟩ ?_;intro A;have c5:=A.1;have c7:=A.2.1;have c8:=A.2.2;refine ie 0 ?v0 rfl (by kernel_rfl) (fun _ _ _ h=>h) (by rfl) ?y0 A ?_
   case y0=>(rintro u ⟨G,H,I⟩;go_simp;try rfl)
   simp only [Act.put,List.setIfInBounds_toArray];refine ie 1 ?v1 rfl (by kernel_rfl) (fun _ _ _ h=>h) (by rfl) ?y1 A ?_
   case y1=>(rintro u ⟨G,H,I⟩;go_simp;try rfl)
   simp only [Act.put];refine ie 2 ?v2 rfl (by kernel_rfl) (fun _ _ _ h=>h) (by rfl) ?y2 A ?_
   case y2=>(rintro u ⟨G,H,I⟩;go_simp;try rfl)
   simp only [Act.put];refine ie 3 ?v3 rfl (by kernel_rfl) (fun _ _ _ h=>h) (by rfl) ?y3 A ?_
   case y3=>(rintro u ⟨G,H,I⟩;go_simp;try rfl)
   simp only [Act.put];refine ie 4 ?v4 rfl (by kernel_rfl) (fun _ _ _ h=>h) (by rfl) ?y4 A ?_
   case y4=>(rintro u ⟨G,H,I⟩;go_simp;try rfl)
   simp only [Act.put];refine ie 5 ?v5 rfl (by kernel_rfl) (fun _ _ _ h=>h) (by rfl) ?y5 A ?_
   case y5=>(rintro u ⟨G,H,I⟩;go_simp;try rfl)
   simp only [Act.put];refine ie 6 ?v6 rfl (by kernel_rfl) (fun _ _ _ h=>h) (by rfl) ?y6 A ?_
   case y6=>(rintro u ⟨G,H,I⟩;go_simp;try rfl)
   simp only [Act.put];refine ie 7 ?v7 rfl (by kernel_rfl) (fun _ _ _ h=>h) (by rfl) ?y7 A ?_
   case y7=>(rintro u ⟨G,H,I⟩;go_simp;try rfl)
   simp only [Act.put];refine ie 8 ?v8 rfl (by kernel_rfl) (fun _ _ _ h=>h) (by rfl) ?y8 A ?_
   case y8=>(rintro u ⟨G,H,I⟩;go_simp;try rfl)
   simp only [Act.put];refine ie 9 ?v9 rfl (by kernel_rfl) (fun _ _ _ h=>h) (by rfl) ?y9 A ?_
   case y9=>(rintro u ⟨G,H,I⟩;go_simp;try rfl)
   simp only [Act.put];refine iu (i:=10) rfl (by kernel_rfl) (by kernel_rfl) (by rfl) ?_;intro K10 b5;have bK:=ij b5;clear b5;go_simp;refine bK.out _ _ ⟨ip (iq (ir _ _)) _ _ A.1,ip (iq (ir _ _)) _ _ A.2.1,ip (iq (ir _ _)) _ _ A.2.2⟩ ?_;clear bK;try simp only [Act.put,List.setIfInBounds_toArray]
   refine iu (i:=11) rfl (by kernel_rfl) (by kernel_rfl) (by rfl) ?_;intro K11 b6;have bL:=ij b6;clear b6;refine nV (.tmp 60) (.tmp 66) 35 (by rfl) B 66 i1 _ 1 24 Tryz.underlying35 bq bz bA bB rfl (by omega) (.slice m1 N1 m3) N1 L1 (by rfl) (iG (w:=w11.drew) (show w11.drew.ownsRow _ _ _ _ _ _ from cN.out)) ⟨w11.heap.size,0,none⟩ 1 1 [.slice y c.length z] (by rfl) (by rfl) (World.news_of_block (cs:= #[.slice y c.length z]) (t:=66) (fr:=(0,0)) (heap_alloc_new w11.drew _)) (by simp [Value.oneCell']) (by omega) b2 (by omega) (by simp;omega) (w11.heap.size+1) (by simp) ?_;intro cX cT bF co cB dl;obtain⟨bl,aX,bZ,aS,aK,dk,am⟩:=cL.out co cB;have Y:bF.cell? ⟨b,3,none⟩=some (.slice m1 N1 m3):=by rw [bl.cell (by omega),cE.out]
   have dp:N w.heap.size= .other:=(bI.out.oth w.heap.size bm.1 av.out (fun e=>e)).2;have dq:N L= .other:=by
    have ac:=World.block_lt_of_cell? W _ bO.out;simp only at ac;by_cases e:N L= .other
    ·exact e
    ·exact absurd (a4.out.hs.1.dom L e).1 (by omega)
   have bn:∀ g o v,N g= .other->g<w11.heap.size->w11.cell? ⟨g,o,none⟩=some v->bF.cell? ⟨g,o,none⟩=some v:=fun g o v h1 h2 h3=>by
    have h4:=(aK.oth g h2 h1 (fun e=>e)).1;rw [Below.heap_setCell _ _ _ _ (fun e=>by simp only at e;subst e;rw [a4.out.hs.1.wb]at h1;cases h1)]at h4;rw [World.cell?_of_block h4];exact h3
   have q6:=bn _ _ _ dp (World.block_lt_of_cell? w11 _ e0) e0;have q7:=bn _ _ _ dq (World.block_lt_of_cell? w11 _ F) F;have p7:=bl.frozen 3;refine bL.out _ _ ⟨Y,q6,q7⟩ ?_;clear bL;try simp only [Act.put,List.setIfInBounds_toArray]
   refine ie 12 ?v12 rfl (by kernel_rfl) (fun _ _ _ h=>h) (by rfl) ?y12 ⟨Y,q6,q7⟩ ?_
   case y12=>(rintro u ⟨G,H,I⟩;go_simp;try rfl)
   simp only [Act.put];refine ie 13 ?v13 rfl (by kernel_rfl) (fun _ _ _ h=>h) (by rfl) ?y13 ⟨Y,q6,q7⟩ ?_
   case y13=>(rintro u ⟨G,H,I⟩;go_simp;try rfl)
   simp only [Act.put];refine iF rfl (by kernel_rfl) (by kernel_rfl) (by rfl) ?_;go_simp;generalize bF.setCell ⟨b,3,none⟩ (.slice (some ⟨cX,0,none⟩) (N1+1) cT)=w13 at*;have aP:w13.heap[m]?=some (.cells (LC1.map slC++List.replicate (p.length+2 - i) (Value.slice none 0 0)).toArray 66 (0,0)):=by
    rw [(am m a2.out.2).1];show w11.heap[m]?=_
    rw [a2.out.1];exact bS.out.1
   have bk:W.grownBy w13 none:=(Fr.trans (Fr.grown (iy (ir _ _))) aK).base cR.out cd (fun g e=>(a4.out.hs.1.dom g e).1) (fun g e=>e.elim);have a0:Hid (PgIn B W O (w13.setCell ⟨m,i,none⟩ (.slice (some ⟨gx,0,none⟩) c.length (c.length+2))) b who2 aX n bZ K s d (LC1++[(gx,c,.slice y c.length z)]) q m (w.heap.size+1) p (i+1)):=by
    have V:=(am m a2.out.2).2;have de:w13.heap[gx]?=some (.cells (lentCode c) 65 (0,0)):=by
     rw [(am gx a1.out.2).1];show w11.heap[gx]?=_
     rw [a1.out.1];exact cC.out
    have dy:valOther aX (.slice y c.length z):=fun g o l aE S hz=>by
     have ac:=cJ.out g o l aE S hz;by_cases e:aX g= .other
     ·exact e
     ·exact absurd (aS.hs.1.dom g e).1 (by omega)
    have bu:=aS.addCode (LC1:=d++(LC1++[(gx,c,.slice y c.length z)])) de (am gx a1.out.2).2 (a3.out.pres (ip bk)) dy dr cH.out (by rw [<-List.append_assoc];exact aY.out) (by rw [List.append_assoc]);have cn:m∉s.map (·.1)++((d++(LC1++[(gx,c,Value.slice y c.length z)])).map (·.1)++q.map (·.1)):=by
     have:=cI.out;simp only [List.map_append,List.map_cons,List.map_nil,List.mem_append,not_or,List.mem_cons,List.not_mem_nil,or_false]at this ⊢;exact⟨this.1,⟨this.2.1.1,this.2.1.2,by omega⟩,this.2.2⟩
    have df:=(bI.out.trans (Fr.grown (iy (ir _ _)))).trans aK;have dn:w.heap.size+1∉s.map (·.1)++((d++(LC1++[(gx,c,Value.slice y c.length z)])).map (·.1)++q.map (·.1)):=by
     have:=cG.out;simp only [List.map_append,List.map_cons,List.map_nil,List.mem_append,not_or,List.mem_cons,List.not_mem_nil,or_false]at this ⊢;exact⟨this.1,⟨this.2.1.1,this.2.1.2,by omega⟩,this.2.2⟩
    have cu:=am (w.heap.size+1) bN.out.2;refine⟨bu.setOut V cn,?_,?_,V,cn,df.trans (Fr.set (Or.inl (by rw [V];simp))),?_,?_,cu.2,dn,bQ.out⟩
    ·rw [List.map_append,cF.out,cP.out];rfl
    ·rw [heap_setCell_same w13 m i _ _ _ aP,List.setIfInBounds_toArray,yS _ _ _ _ (by simpa using c9) ac,List.map_append];rfl
    ·exact iD bk (by have:=(aS.hs.1.dom m (by rw [V];simp)).1;omega)
    ·rw [Below.heap_setCell _ _ _ _ (by simpa using bQ.out),cu.1];show w11.heap[w.heap.size+1]?=_
     rw [bN.out.1];exact bP.out.1
   have k0:∃ u,w13.cell? ⟨m,i,none⟩=some u:=by
    have cl:i<(LC1.map slC++List.replicate (p.length+2 - i) (Value.slice none 0 0)).toArray.size:=by simp;omega
    exact⟨(LC1.map slC++List.replicate (p.length+2 - i) (Value.slice none 0 0)).toArray[i]'cl,by simp only [World.cell?,aP];exact Array.getElem?_eq_getElem cl⟩
   obtain⟨u13,k0⟩:=k0;have k1:w13.frozen? ⟨m,i,none⟩=false:=by simp [World.frozen?,aP]
   have k2:(i:Int)<(p.length:Int)+2:=by omega
   have k3:(c.length:Int)<=(c.length:Int)+2:=by omega
   clear co cB dl bl Y p7 q6 q7 bn aS aK dk am aP bk e0 F c3 A c5 c7 c8;go_wp2_with fail
   go_roundw
   case rel=>exact⟨i+1,_,aX,bZ,by omega,by go_num,a0⟩
   case measure=>simp [intOf];omega
  ·have ei:i=p.length:=by omega
   have t1:(p.length:Int)<=(i:Int):=by omega
   have cO:Hid ((q.map (·.2)).sum=d.length):=by have:=x.out.lx.le.sum;unfold Hid;simp at this;omega
   have M:a.ownsRow B 35 1 (U 4) (EL s (d++LC1) q 4).length (EL s (d++LC1) q 4):=x.out.lx.lr.r 4 (by omega);have c4:a.cell? ⟨b,4,none⟩=some (U 4):=x.out.lx.cell (by omega);have hE4:(EL s (d++LC1) q 4).length<=1000:=by simp only [EL,List.length_map];exact da
   have aY:=ij (Bv s (d++LC1) q m p.length);obtain⟨o1,o2,o3,P⟩:=iw M;rw [P]at M c4;have bv:=iB M;subst bv;have dd:B<=a.heap.size:=by have:=x.out.lx.low;omega
   have aa:Hid (∀ {o:Obj} {g6 c6:Nat} {w6:World},w6.ownsRow B 35 1 (.slice (some ⟨g6,0,none⟩) ((EL s (d++LC1) q 4).length+1) c6) ((EL s (d++LC1) q 4).length+1) (EL s (d++LC1) q 4++[sl2 m p.length])->
     (((Value.slice o1 (EL s (d++LC1) q 4).length o3).ownBlock=some g6/\(a.alloc o).grownBy w6 (some g6))\/(g6=a.heap.size+1/\(a.alloc o).grownBy w6 none))->
     HB w6 b U/\∃ who' f',Lx B (w6.setCell ⟨b,4,none⟩ (.slice (some ⟨g6,0,none⟩) ((EL s (d++LC1) q 4).length+1) c6)) b who' n f' K (setE (EL s (d++LC1) q) 4 (EL s (d++LC1) q 4++[sl2 m p.length])) s (d++LC1) q i/\
     Fr a (w6.setCell ⟨b,4,none⟩ (.slice (some ⟨g6,0,none⟩) ((EL s (d++LC1) q 4).length+1) c6)) aq who' (fun _=>False)/\(∀ j,j≠4->f' j=U j)/\(∀ g,aq g= .lent->(w6.setCell ⟨b,4,none⟩ (.slice (some ⟨g6,0,none⟩) ((EL s (d++LC1) q 4).length+1) c6)).heap[g]?=a.heap[g]?/\who' g= .lent)):=by
    intro o g6 c6 w6 ax key;rw [<-P]at key;exact x.out.lx.push (by omega) ax key
   have au:=ij M;have ar:=ij P;have bc:(EL s (d++LC1) q 4).length+1<=maxLen:=by unfold maxLen;omega
   clear M P;generalize bg:(EL s (d++LC1) q 4).length=N0 at*;generalize b7:EL s (d++LC1) q 4=L0 at*;clear bg;go_upto_region 15 with (at_builtin;go_must (refine iE rfl _ _ _ rfl B 35 i2 _ 1 24 Tryz.underlying41 dj dz dA dB rfl (by omega) (.slice o1 N0 o3) N0 L0 rfl (iG au.out) ⟨a.heap.size,0,none⟩ 1 1 [sl2 m p.length] rfl rfl (World.news_of_block (cs:= #[.slice (some ⟨m,0,none⟩) (p.length+2) (p.length+2)]) (t:=35) (fr:=(0,0)) (heap_alloc_new a _)) (by simp [sl2,Value.oneCell']) (by omega) bc (by omega) (by simp;omega) (a.heap.size+1) (by simp) ?_);intro bb a7 aB ad ae bt;have ab:=(aa.out ad ae).1;have Y:aB.cell? ⟨b,4,none⟩=some (.slice o1 N0 o3):=(by rw [ab.cell (by omega),ar.out]);have p7:=ab.frozen 4)
   obtain⟨_,N,T,J,ak,br,X⟩:=aa.out ad ae;generalize aB.setCell ⟨b,4,none⟩ (.slice (some ⟨bb,0,none⟩) (N0+1) a7)=w11 at*;have V:=X m x.out.wg;have aO:=X (w.heap.size+1) x.out.wr;have bw:w11.heap[m]?=some (.cells (lentRows LC1) 66 (0,0)):=by
    rw [V.1,x.out.row,ei];have S:p.length+2 - p.length=2:=by omega
    rw [S];rfl
   have aN:w11.heap[w.heap.size+1]?=some (.cells #[.slice none 0 0] 37 (0,0)):=by rw [aO.1];exact x.out.res
   have a0:Hid (Lx B (w11.setCell ⟨w.heap.size+1,0,none⟩ (.slice (some ⟨m,0,none⟩) p.length (p.length+2))) b N n T K (EL s (d++LC1) (q++[(m,p.length)])) s (d++LC1) (q++[(m,p.length)]) 0/\LC1.map (·.2.1)=p/\Fr w (w11.setCell ⟨w.heap.size+1,0,none⟩ (.slice (some ⟨m,0,none⟩) p.length (p.length+2))) who N (fun _=>False)/\(w11.setCell ⟨w.heap.size+1,0,none⟩ (.slice (some ⟨m,0,none⟩) p.length (p.length+2))).heap[m]?=some (.cells (lentRows LC1) 66 (0,0))):=by
    have ck:=J.le.addRow (g:=m) (by rw [cO.out,List.drop_left];exact bw) V.2 (by omega) x.out.ng;rw [ei]at ck;have cm:=J.lr;rw [aY.out]at cm;have bu:Lx B w11 b N n T K (EL s (d++LC1) (q++[(m,p.length)])) s (d++LC1) (q++[(m,p.length)]) 0:=⟨J.hs,cm,ck⟩;refine⟨bu.setOut aO.2 ?_,?_,((aZ.out.trans x.out.fr).trans ak).trans (Fr.set (Or.inl (by rw [aO.2];simp))),?_⟩
    ·have:=x.out.nr;have dt:=x.out.rg;simp only [List.map_append,List.map_cons,List.map_nil,List.mem_append,not_or,List.mem_cons,List.not_mem_nil,or_false]at this ⊢;exact⟨this.1,this.2.1,this.2.2,dt⟩
    ·have:=x.out.map;rw [ei,List.take_length]at this;exact this
    ·rw [Below.heap_setCell _ _ _ _ (by simpa using x.out.rg.symm)];exact bw
   have z0:w11.cell? ⟨w.heap.size+1,0,none⟩=some (.slice none 0 0):=by simp [World.cell?,aN]
   have z1:w11.frozen? ⟨w.heap.size+1,0,none⟩=false:=by simp [World.frozen?,aN]
   have z2:(w11.setCell ⟨w.heap.size+1,0,none⟩ (.slice (some ⟨m,0,none⟩) p.length (p.length+2))).cell? ⟨w.heap.size+1,0,none⟩=some (.slice (some ⟨m,0,none⟩) p.length (p.length+2)):=by
    have:=heap_setCell_same w11 (w.heap.size+1) 0 _ _ (.slice (some ⟨m,0,none⟩) p.length (p.length+2)) aN;simp [World.cell?,this]
   have z3:(p.length:Int)<=(p.length:Int)+2:=by omega
   clear ad ae ab Y p7 bt c4 J ak br X aa au ar V aO bw aN;go_wp2_with fail
   refine bodyPost_ret (v:= .agg #[.slice (some ⟨m,0,none⟩) p.length (p.length+2)]) ?_ rfl ?_
   ·simp [results,Tryz.results19,go_sem,z2]
   ·exact⟨m,LC1,N,T,rfl,a0.out⟩
theorem mu(c:List Ins)(v u:Value)(w:World)(z:CodeAt w v c)(A:CodeAt w u c)(hln:c.length<=4398046510976):
  Calls Tryz.prog 52 #[v,u] w fun e w'=>e= .returned (.bool true)/\Like w' w:=by
 obtain⟨ao,cap,rfl,hc⟩:=z;obtain⟨bo,dap,rfl,h⟩:=A;have x:=ij hc;have y:=ij h;clear hc h;have q9:(c.length:Int)<=4398046510976:=by omega
 go_enter Tryz.func52,Tryz.ntmps52
 go_wp2_with fail
 go_loopw [5] (fun i w'=>∃ k:Nat,k<=c.length/\i= .int .i64 k/\Hid (Like w' w)) (fun i _=>c.length - (intOf i).toNat)
 case atStart=>exact⟨0,Nat.zero_le _,rfl,ij (iT _)⟩
 case round=>
  obtain⟨k,hk,rfl,b⟩:=hrel;obtain⟨f,l⟩:∃ f,f=wr:=⟨_,rfl⟩;rw [<-l]at b ⊢;clear l;have d:∀ a,f.cell? a=w.cell? a:=fun a=>by simp [World.cell?,b.out.1]
  by_cases j:k<c.length
  ·obtain⟨xg,xo,rfl,m,n,o,p⟩:=x.out k j;obtain⟨yg,yo,rfl,q,r,s,t⟩:=y.out k j;rw [<-d]at m n o p q r s t;have q2:(0:Int)<=(k:Int):=by omega
   have B:(k:Int)<c.length:=by omega
   clear d;generalize c[k]=i at*;obtain⟨i1,i2,i3,i4⟩:=i;simp only at m n o p q r s t;go_wp2_with fail
   go_quiet (fail)
   go_wp2_with fail
   go_roundw
   case rel=>exact⟨k+1,by omega,by go_num,ij (jb b.out _)⟩
   case measure=>simp [intOf];omega
  ·have B:(c.length:Int)<=(k:Int):=by omega
   clear d;go_wp2_with fail
   go_ret;exact⟨rfl,b.out⟩
end
section
open Go.RowKit
structure Chg(w w':World)(S:Nat->Prop):Prop where
 os:w'.os=w.os
 tape:w'.tape=w.tape
 output:w'.output=w.output
 size:w.heap.size<=w'.heap.size
 blk:∀ g,g<w.heap.size->¬S g->w'.heap[g]?=w.heap[g]?
theorem Chg.refl(w:World)(S:Nat->Prop):Chg w w S:=⟨rfl,rfl,rfl,Nat.le_refl _,fun _ _ _=>rfl⟩
theorem Chg.below{w w1 w2:World}{S:Nat->Prop}(h:Chg w w1 S)(hb:Below w1.heap.size w1 w2):Chg w w2 S:=
 ⟨hb.os.trans h.os,hb.tape.trans h.tape,hb.output.trans h.output,Nat.le_trans h.size hb.size,fun g h1 h2=>by rw [hb.block g (Nat.lt_of_lt_of_le h1 h.size)];exact h.blk g h1 h2⟩
theorem Chg.set{w w1:World}{S:Nat->Prop}{g o:Nat}{v:Value}(h:Chg w w1 S)(hg:S g):Chg w (w1.setCell ⟨g,o,none⟩ v) S:=
 ⟨h.os,h.tape,h.output,by simpa using h.size,fun k h1 h2=>by rw [Below.heap_setCell _ _ _ _ (fun e=>by simp only at e;subst e;exact h2 hg)];exact h.blk k h1 h2⟩
theorem Chg.mono{w w1:World}{S S':Nat->Prop}(h:Chg w w1 S)(hs:∀ g,S g->S' g):Chg w w1 S':=⟨h.os,h.tape,h.output,h.size,fun k h1 h2=>h.blk k h1 (fun e=>h2 (hs k e))⟩
theorem Chg.cell{w a:World}{S:Nat->Prop}(h:Chg w a S){g o:Nat}{v:Value}(hc:w.cell? ⟨g,o,none⟩=some v)(c:¬S g):a.cell? ⟨g,o,none⟩=some v:=by
 have b:g<w.heap.size:=World.block_lt_of_cell? w _ hc;rw [World.cell?_of_block (h.blk g b c)];exact hc
theorem pC(l:List (Nat × List Ins × Value)):(lentRows l).size=l.length+2:=by simp [lentRows]
theorem sC(l:List (Nat × List Ins × Value))(k:Nat)(a:k<l.length):(lentRows l)[k]?=some (slC l[k]):=by
 simp only [lentRows,List.getElem?_toArray];rw [List.getElem?_append_left (by simpa using a),List.getElem?_map,List.getElem?_eq_getElem a];rfl
theorem pA(l:List (Nat × List Ins × Value)):(lentRows l)[l.length]?=some (.slice none 0 0):=by
 simp only [lentRows,List.getElem?_toArray];rw [List.getElem?_append_right (by simp)];simp
theorem pB(l:List (Nat × List Ins × Value)):(lentRows l)[l.length+1]?=some (.slice none 0 0):=by
 simp only [lentRows,List.getElem?_toArray];rw [List.getElem?_append_right (by simp)];simp
theorem pz(c:List Ins):(lentCode c).size=(c.length+2)*4:=by
 have:=jE c;unfold codeL at this;simp only [lentCode,List.size_toArray,List.length_append,this,insInk,List.length_cons,List.length_nil];omega
theorem jj(c:List Ins)(j:Nat)(hj:j<4):(lentCode c)[c.length*4+j]?=insInk[j]?/\(lentCode c)[(c.length+1)*4+j]?=insInk[j]?:=by
 have a:=jE c;unfold codeL at a;simp only [lentCode,List.getElem?_toArray];generalize List.flatMap insL c=L at a ⊢;refine⟨?_,?_⟩
 ·rw [List.getElem?_append_right (by omega),List.getElem?_append_left (by simp [insInk];omega)];congr 1;omega
 ·rw [List.getElem?_append_right (by omega),List.getElem?_append_right (by simp [insInk];omega)];congr 1;simp [insInk];omega
def Hz(B:Nat)(w:World)(b:Nat)(who:Nat->Role)(n:Int)(f:Nat->Value)(K:Nat->List (Value × Int)):Prop:=HsK B w b who n f K/\∀ k,k<5->f k= .slice none 0 0
theorem Hz.lx{B:Nat}{w:World}{b:Nat}{who:Nat->Role}{n:Int}{f:Nat->Value}{K:Nat->List (Value × Int)}(h:Hz B w b who n f K):Lx B w b who n f K (EL [] [] []) [] [] [] 0:=by
 refine⟨h.1,⟨fun k hk=>?_,fun k hk g e=>?_⟩,⟨fun x hx=>(by cases hx),fun x hx=>(by cases hx),fun j hj=>(by simp at hj),rfl,(by simp)⟩⟩
 ·have a:EL [] [] [] k=[]:=by
   rcases(by omega:k=0\/k=1\/k=2\/k=3\/k=4)with rfl | rfl | rfl | rfl | rfl<;>rfl
  rw [a,h.2 k hk];exact⟨rfl,Or.inl ⟨rfl,rfl⟩⟩
 ·rw [h.2 k hk]at e;cases e
theorem Lx.free{B:Nat}{w w':World}{b:Nat}{who:Nat->Role}{n:Int}{f:Nat->Value}{K:Nat->List (Value × Int)}{E:Nat->List Value}{i:List (Nat × List Int × Value)}{d:List (Nat × List Ins × Value)}{j:List (Nat × Nat)}{tail:Nat}
  (h:Lx B w b who n f K E i d j tail) {S:Nat->Prop} (hc:Chg w w' S) (c:∀ g,S g->who g= .lent):
  let w5:=((((w'.setCell ⟨b,4,none⟩ (.slice none 0 0)).setCell ⟨b,2,none⟩ (.slice none 0 0)).setCell ⟨b,3,none⟩ (.slice none 0 0)).setCell ⟨b,0,none⟩ (.slice none 0 0)).setCell ⟨b,1,none⟩ (.slice none 0 0)
  ∃ f',Hz B w5 b who n f' K/\Fr w w5 who who (fun _=>False):=by
 intro w5;have m:Hs B w' b who n f K (marksOf K):=h.hs.1.same hc.size (fun g h1 h2 h3=>hc.blk g h1 (fun e=>by rw [c g e]at h3;cases h3));have p:=((((m.setLent (o:=4) (by omega) (.slice none 0 0)).setLent (o:=2) (by omega) (.slice none 0 0)).setLent (o:=3) (by omega) (.slice none 0 0)).setLent (o:=0) (by omega) (.slice none 0 0)).setLent (o:=1) (by omega) (.slice none 0 0);have l:Fr w w' who who (fun _=>False):=⟨hc.os,hc.tape,hc.output,hc.size,fun g h1 h2 _=>⟨hc.blk g h1 (fun e=>by rw [c g e]at h2;cases h2),h2⟩⟩;have a:who b≠ .other\/False:=Or.inl (by rw [h.hs.1.wb];simp);refine⟨_,⟨⟨p,h.hs.2⟩,fun k hk=>?_⟩,((((l.trans (Fr.set a)).trans (Fr.set a)).trans (Fr.set a)).trans (Fr.set a)).trans (Fr.set a)⟩;rcases(by omega:k=0\/k=1\/k=2\/k=3\/k=4)with rfl | rfl | rfl | rfl | rfl<;>simp [setF]
end
section
open Go.RowKit
attribute [local go_sem] Go.World.cell?_alloc_some
theorem kX{w:World}{B:Nat}{T:TypeId}{v:Value}{E:List Value}(h:w.ownsRow B T 1 v E.length E){i:Nat}(a:i<E.length):∃ g cap,v= .slice (some ⟨g,0,none⟩) E.length cap/\w.cell? ⟨g,i,none⟩=some E[i]:=by
 obtain⟨g,cap,e,_,_⟩:=h.form (by omega);refine⟨g,cap,e,?_⟩;rw [e]at h;rw [h.cellAt i (by omega),List.getElem?_eq_getElem a]
theorem mq{l:List Nat}(h:l.Nodup){i:Nat}(b:i<l.length):l[i]∉l.take i:=by
 intro c;have a:=h;rw [<-List.take_append_drop i l,List.nodup_append]at a;exact a.2.2 _ c _ (by rw [List.drop_eq_getElem_cons b];exact List.mem_cons_self) rfl
theorem m9(B:Nat)(w:World)(b:Nat)(who:Nat->Role)(n:Int)(f:Nat->Value)(K:Nat->List (Value × Int))(t:List (Nat × List Int × Value))(c:List (Nat × List Ins × Value))(l:List (Nat × Nat))
  (h:Lx B w b who n f K (EL t c l) t c l 0) (hLI:t.length<=1000) (hLC:c.length<=5864062014634) (hLR:l.length<=1000):
  Calls Tryz.prog 21 #[pt b] w fun e w'=>e= .returned (.bool true)/\∃ f',Hz B w' b who n f' K/\Fr w w' who who (fun _=>False):=by
 have HX:=ij h;have bK:pt b= .pointer (some ⟨b,0,none⟩):=rfl;rw [bK];have c0:=h.cell (o:=0) (by omega);have c1:=h.cell (o:=1) (by omega);have c2:=h.cell (o:=2) (by omega);have c3:=h.cell (o:=3) (by omega);have c4:=h.cell (o:=4) (by omega);have r0:w.ownsRow B 39 1 (f 0) (EL t c l 0).length (EL t c l 0):=h.lr.r 0 (by omega);have r1:w.ownsRow B 39 1 (f 1) (EL t c l 1).length (EL t c l 1):=h.lr.r 1 (by omega);have r2:w.ownsRow B 66 1 (f 2) (EL t c l 2).length (EL t c l 2):=h.lr.r 2 (by omega);have Q:w.ownsRow B 66 1 (f 3) (EL t c l 3).length (EL t c l 3):=h.lr.r 3 (by omega);have r4:w.ownsRow B 35 1 (f 4) (EL t c l 4).length (EL t c l 4):=h.lr.r 4 (by omega);have l0:(EL t c l 0).length=t.length:=by simp [EL]
 have l1:(EL t c l 1).length=t.length:=by simp [EL]
 have l2:(EL t c l 2).length=c.length:=by simp [EL]
 have l3:(EL t c l 3).length=c.length:=by simp [EL]
 have l4:(EL t c l 4).length=l.length:=by simp [EL]
 have wr:=h.lr.wr;have b7:=ij r0;have b8:=ij r1;have b9:=ij r2;have bB:=ij Q;have ca:=ij r4;obtain⟨a0,b0,d0,e0⟩:=iw r0;obtain⟨a1,b1,d1,e1⟩:=iw r1;obtain⟨a2,b2,d2,M⟩:=iw r2;obtain⟨a3,b3,d3,J⟩:=iw Q;obtain⟨a4,b4,d4,e4⟩:=iw r4;have cm:b0=t.length:=by rw [e0]at r0;have:=iB r0;omega
 have cn:b1=t.length:=by rw [e1]at r1;have:=iB r1;omega
 have co:b2=c.length:=by rw [M]at r2;have:=iB r2;omega
 have cp:b3=c.length:=by rw [J]at Q;have:=iB Q;omega
 have cq:b4=l.length:=by rw [e4]at r4;have:=iB r4;omega
 subst cm cn co cp cq;rw [e0]at c0;rw [e1]at c1;rw [M]at c2;rw [J]at c3;rw [e4]at c4;have ba:=ij e0;have bu:=ij e1;have bv:=ij M;have aX:=ij J;have bw:=ij e4;have bU:=ij c0;have bV:=ij c1;have bW:=ij c2;have bt:=ij c3;have bX:=ij c4;have aE:=ij wr;have HL:=ij h.le.lt;have aG:=ij h.le.nd;have bb:Hid (∀ g,(g∈l.map (·.1)\/g∈c.map (·.1)\/g∈t.map (·.1))->who g= .lent):=fun g e=>(h.le.lt g (by
  rcases e with e | e | e
  ·exact List.mem_append.2 (Or.inr (List.mem_append.2 (Or.inr e)))
  ·exact List.mem_append.2 (Or.inr (List.mem_append.2 (Or.inl e)))
  ·exact List.mem_append.2 (Or.inl e))).2
 have a9:Hid (who b= .hands):=h.hs.1.wb;clear h bK r0 r1 r2 Q r4 l0 l1 l2 l3 l4 e0 e1 M J e4 wr c0 c1 c2 c3 c4;have q0:(t.length:Int)<=1000:=by omega
 have q1:(c.length:Int)<=5864062014634:=by omega
 have q2:(l.length:Int)<=1000:=by omega
 go_enter Tryz.func21,Tryz.ntmps21
 go_wp2_with fail
 go_loopw [3,4,5] (fun ok cv iv w'=>∃ i off:Nat,i<=l.length/\ok= .bool true/\cv= .int .i64 off/\Hid (((l.take i).map (·.2)).sum=off)/\iv= .int .i64 i/\Hid (Chg w w' (fun g=>g∈(l.take i).map (·.1)))) (fun _ _ iv _=>l.length - (intOf iv).toNat)
 case atStart=>exact⟨0,0,Nat.zero_le _,rfl,rfl,ij rfl,rfl,ij (Chg.refl _ _)⟩
 case round=>
  obtain⟨i,off,hi,rfl,rfl,bA,rfl,A⟩:=hrel;obtain⟨w5,bL⟩:∃ w5,w5=wr:=⟨_,rfl⟩;rw [<-bL]at A ⊢;clear bL;have I:∀ g,g∈(l.take i).map (·.1)->who g= .lent:=fun g e=>bb.out g (Or.inl (by
   obtain⟨x,hx,rfl⟩:=List.mem_map.1 e;exact List.mem_map.2 ⟨x,List.mem_of_mem_take hx,rfl⟩))
  have Z:¬b∈(l.take i).map (·.1):=fun e=>by have:=I b e;rw [a9.out]at this;cases this
  have k4:=A.out.cell bX.out Z;by_cases E:i<l.length
  ·obtain⟨g4,cp4,e4,r4⟩:=kX ca.out (i:=i) (by simp [EL];exact E);have bk:w.cell? ⟨g4,i,none⟩=some (sl2 l[i].1 l[i].2):=by simpa [EL]using r4
   rw [bw.out]at e4;simp only [Value.slice.injEq]at e4;obtain⟨cj,ck,cl⟩:=e4;clear ck;subst cj cl;have cw:who g4= .lrow 4:=aE.out 4 (by omega) g4 (by rw [bw.out];rfl);have k5:=A.out.cell bk (fun e=>by have:=I g4 e;rw [cw]at this;cases this);obtain⟨aA,cx,cu⟩:=HX.out.le.lr i E;have bl:=HX.out.le.row_in i E;have aM:¬l[i].1∈(l.take i).map (·.1):=by
    have af:(l.map (·.1)).Nodup:=by
     have:=aG.out;rw [List.nodup_append]at this;have F:=this.2.1;rw [List.nodup_append]at F;exact F.2.1
    have:=mq af (i:=i) (by simpa using E);rw [<-List.map_take]at this;simpa using this
   have bc:Hid (((l.take (i+1)).map (·.2)).sum=((l.take i).map (·.2)).sum+l[i].2):=by
    unfold Hid;rw [List.take_succ_eq_append_getElem E,List.map_append,List.sum_append];simp
   have W:Hid ((l.take (i+1)).map (·.1)=(l.take i).map (·.1)++[l[i].1]):=by
    unfold Hid;rw [List.take_succ_eq_append_getElem E,List.map_append];rfl
   have bG:l[i].1∈l.map (·.1):=List.mem_map.2 ⟨_,List.getElem_mem E,rfl⟩;have b5:Hid (l[i].1∉c.map (·.1)):=fun e=>by
    have:=aG.out;rw [List.nodup_append]at this;have F:=this.2.1;rw [List.nodup_append]at F;exact F.2.2 _ e _ bG rfl
   have cc:Hid (∀ g,g∈(l.take i).map (·.1)->g∉c.map (·.1)):=fun g e M=>by
    have:=aG.out;rw [List.nodup_append]at this;have F:=this.2.1;rw [List.nodup_append]at F;obtain⟨x,hx,rfl⟩:=List.mem_map.1 e;exact F.2.2 _ M _ (List.mem_map.2 ⟨x,List.mem_of_mem_take hx,rfl⟩) rfl
   have bF:=bA.out;rw [bF]at aA bl bc;generalize l[i]=x at*;obtain⟨g,m⟩:=x;simp only at bk k5 aA cx cu bl aM bc W b5;clear bk bG bF;have bj:((c.drop off).take m).length=m:=by rw [List.length_take,List.length_drop];omega
   have k6:w5.cell? ⟨g,m,none⟩=some (.slice none 0 0):=A.out.cell (by simp only [World.cell?,aA];have:=pA ((c.drop off).take m);rw [bj]at this;exact this) aM;have k7:w5.cell? ⟨g,m+1,none⟩=some (.slice none 0 0):=A.out.cell (by simp only [World.cell?,aA];have:=pB ((c.drop off).take m);rw [bj]at this;exact this) aM;have cb:Hid (∀ k (U:k<m),w.cell? ⟨g,k,none⟩=some (slC (c[off+k]'(Nat.lt_of_lt_of_le (Nat.add_lt_add_left U off) bl)))):=fun k U=>by
    simp only [World.cell?,aA];rw [sC _ k (by omega)];simp
   have br:=ij aA;have t0:(0:Int)<=(i:Int):=by omega
   have t1:(i:Int)<l.length:=by omega
   have t2:(m:Int)<=5864062014634:=by omega
   have t3:(0:Int)<=(m:Int):=by omega
   have t4:(off:Int)+m<=c.length:=by omega
   have t5:(m:Int)<(m:Int)+2:=by omega
   have t6:(m:Int)+1<(m:Int)+2:=by omega
   unfold sl2 at k5;clear aA bj;go_wp2_with fail
   go_loopw [3,4,8] (fun ok cv kv w'=>∃ k q:Nat,k<=m/\ok= .bool true/\cv= .int .i64 q/\Hid (off+k=q)/\kv= .int .i64 k/\Hid (Chg w w' (fun g=>g∈(l.take i).map (·.1)))) (fun _ _ kv _=>m - (intOf kv).toNat)
   case atStart=>exact⟨0,off,Nat.zero_le _,rfl,rfl,ij rfl,rfl,A⟩
   case round=>
    clear k4 k5 k6 k7;obtain⟨k,q,U,rfl,rfl,aY,rfl,ac⟩:=hrel;obtain⟨z,ar⟩:∃ z,z=wr:=⟨_,rfl⟩;rw [<-ar]at ac ⊢;clear ar;by_cases cs:k<m
    ·have bJ:=aY.out;have hy:q<c.length:=by omega
     obtain⟨N,bC,J,Q⟩:=kX bB.out (i:=q) (by simp [EL];omega);have aq:w.cell? ⟨N,q,none⟩=some c[q].2.2:=by simpa [EL]using Q
     rw [aX.out]at J;simp only [Value.slice.injEq]at J;obtain⟨aJ,aK,aL⟩:=J;clear aK;subst aJ aL;have aP:who N= .lrow 3:=aE.out 3 (by omega) N (by rw [aX.out];rfl);have m3:=ac.out.cell bt.out Z;have m4:=ac.out.cell aq (fun e=>by have:=I N e;rw [aP]at this;cases this);have m5:=ac.out.cell (cb.out k cs) aM;simp only [bJ]at m5;obtain⟨T,y2,y3,y4,y5⟩:=HX.out.le.lc c[q] (List.getElem_mem hy);have av:¬c[q].1∈(l.take i).map (·.1):=fun e=>cc.out _ e (List.mem_map.2 ⟨_,List.getElem_mem hy,rfl⟩)
     have X:CodeAt z (slC c[q]) c[q].2.1:=lE (by rw [ac.out.blk _ (Array.getElem?_eq_some_iff.1 T).1 av];exact T) _;have O:CodeAt z c[q].2.2 c[q].2.1:=mD y3 y4 (fun g' h1 F=>ac.out.blk g' h1 (fun e=>by have:=I g' e;rw [F]at this;cases this));generalize c[q]=y at*;obtain⟨v,s,yv⟩:=y;simp only [slC]at m4 m5 X O y5;obtain⟨ya,yb,rfl⟩:∃ ya yb,yv= .slice ya s.length yb:=⟨_,_,O.choose_spec.choose_spec.1⟩;have al:∀ (d:Nat) (D:Array Obj),Calls Tryz.prog 52 #[.slice (some ⟨v,0,none⟩) s.length (s.length+2),.slice ya s.length yb] (Sort.grow (redrawn z d) D) fun e w''=>e= .returned (.bool true)/\∃ p:Regrown,w''=Sort.grow (redrawn z p.d) p.os:=by
      intro d D;have ad:=js (below_regrown z d D);refine Calls.regrown_of ((mu s _ _ _ (CodeAt.pres X (ip ad)) (CodeAt.pres O (ip ad)) y5).mono ?_);rintro e w' ⟨rfl,hl⟩;refine⟨by simp,?_⟩;have:=iH (r:=none) hl;exact⟨this.os,this.tape,this.output,this.size,fun k U=>this.block k U (by simp)⟩
     have n3:=fun d D=>cell_regrown m3 d D
     have n4:=fun d D=>cell_regrown m4 d D
     have n5:=fun d D=>cell_regrown m5 d D
     have s0:(0:Int)<=(k:Int):=by omega
     have s1:(k:Int)<m:=by omega
     have s2:(k:Int)<(m:Int)+2:=by omega
     have s3:(0:Int)<=(q:Int):=by omega
     have s4:(q:Int)<c.length:=by omega
     clear X O T y2 y3 y4 Q aq;clear bJ hy av;go_wp2_with fail
     refine wp_region_quiet_below (by kernel_rfl) (by kernel_rfl) ?_;repeat (quiet_step (exact al _ _))
     refine wpQuiet_nil ?_;intro H P;obtain⟨⟨dq,aT⟩,P⟩:=P;have S:=below_regrown z dq aT;rw [<-P]at S;have bZ:=ij (ac.out.below S);clear P al n3 n4 n5 S m3 m4 m5;go_wp2_with fail
     go_roundw
     case rel=>exact⟨k+1,q+1,by omega,rfl,by go_num,ij (by have:=aY.out;omega),by go_num,bZ⟩
     case measure=>simp [intOf];omega
    ·have ct:k=m:=by omega
     have u1:(m:Int)<=(k:Int):=by omega
     have HQ:Hid (((l.take (i+1)).map (·.2)).sum=q):=by unfold Hid;rw [bc.out];have:=aY.out;omega
     have ak:Hid (Chg w z (fun g'=>g'∈(l.take (i+1)).map (·.1))/\∃ R:Array Value,R.size=m+2/\z.heap[g]?=some (.cells R 66 (0,0))):=by
      refine⟨ac.out.mono (fun g' e=>by rw [W.out];exact List.mem_append.2 (Or.inl e)),_,?_,by rw [ac.out.blk g (Array.getElem?_eq_some_iff.1 br.out).1 aM];exact br.out⟩;rw [pC,List.length_take,List.length_drop];omega
     have ap:g∈(l.take (i+1)).map (·.1):=by rw [W.out];exact List.mem_append.2 (Or.inr (by simp))
     clear ac ct aY;go_wp2_with fail
     go_loopw [10] (fun kv w'=>∃ k:Nat,k<=m+2/\kv= .int .i64 k/\Hid (Chg w w' (fun g'=>g'∈(l.take (i+1)).map (·.1))/\∃ R:Array Value,R.size=m+2/\w'.heap[g]?=some (.cells R 66 (0,0)))) (fun kv _=>m+2 - (intOf kv).toNat)
     case atStart=>exact⟨0,by omega,rfl,ak⟩
     case round=>
      clear ak;obtain⟨k,U,rfl,V⟩:=hrel;obtain⟨C,au⟩:∃ C,C=wr:=⟨_,rfl⟩;rw [<-au]at V ⊢;clear au;by_cases bH:k<m+2
      ·obtain⟨ao,R,an,G⟩:=V.out;obtain⟨u,y0⟩:∃ u,C.cell? ⟨g,k,none⟩=some u:=⟨R[k]'(by omega),by simp only [World.cell?,G];exact Array.getElem?_eq_getElem _⟩;have T:C.frozen? ⟨g,k,none⟩=false:=by simp [World.frozen?,G]
       have aH:Hid (Chg w (C.setCell ⟨g,k,none⟩ (.slice none 0 0)) (fun g'=>g'∈(l.take (i+1)).map (·.1))/\∃ R:Array Value,R.size=m+2/\(C.setCell ⟨g,k,none⟩ (.slice none 0 0)).heap[g]?=some (.cells R 66 (0,0))):=
        ⟨ao.set ap,R.setIfInBounds k (.slice none 0 0),by simpa using an,heap_setCell_same C g k R _ _ G⟩
       have z0:(0:Int)<=(k:Int):=by omega
       have z1:(k:Int)<(m:Int)+2:=by omega
       clear G an ao;go_wp2_with fail
       go_roundw
       case rel=>exact⟨k+1,by omega,by go_num,aH⟩
       case measure=>simp [intOf];omega
      ·have z1:(m:Int)+2<=(k:Int):=by omega
       go_wp2_with fail
       go_roundw
       case rel=>exact⟨i+1,q,by omega,rfl,rfl,HQ,by go_num,ij V.out.1⟩
       case measure=>simp [intOf];omega
  ·have ei:i=l.length:=by omega
   have t1:(l.length:Int)<=(i:Int):=by omega
   have bx:Hid (Chg w w5 (fun g=>g∈l.map (·.1)\/g∈(c.take 0).map (·.1))):=by
    have:=A.out;rw [ei,List.take_length]at this;exact this.mono (fun g e=>Or.inl e)
   clear A I Z bA ei;go_wp2_with fail
   go_loopw [3,11] (fun ok iv w'=>∃ j:Nat,j<=c.length/\ok= .bool true/\iv= .int .i64 j/\Hid (Chg w w' (fun g=>g∈l.map (·.1)\/g∈(c.take j).map (·.1)))) (fun _ iv _=>c.length - (intOf iv).toNat)
   case atStart=>exact⟨0,Nat.zero_le _,rfl,rfl,bx⟩
   case round=>
    clear bx k4;obtain⟨j,hj,rfl,rfl,A⟩:=hrel;obtain⟨z,ar⟩:∃ z,z=wr:=⟨_,rfl⟩;rw [<-ar]at A ⊢;clear ar;have I:∀ g,(g∈l.map (·.1)\/g∈(c.take j).map (·.1))->who g= .lent:=fun g e=>bb.out g (by
     rcases e with e | e
     ·exact Or.inl e
     ·obtain⟨x,hx,rfl⟩:=List.mem_map.1 e;exact Or.inr (Or.inl (List.mem_map.2 ⟨x,List.mem_of_mem_take hx,rfl⟩)))
    have Z:¬(b∈l.map (·.1)\/b∈(c.take j).map (·.1)):=fun e=>by have:=I b e;rw [a9.out]at this;cases this
    have k2:=A.out.cell bW.out Z;by_cases E:j<c.length
    ·obtain⟨g2,ci,M,r2⟩:=kX b9.out (i:=j) (by simp [EL];exact E);have aO:w.cell? ⟨g2,j,none⟩=some (sl2 c[j].1 c[j].2.1.length):=by simpa [EL]using r2
     rw [bv.out]at M;simp only [Value.slice.injEq]at M;obtain⟨bg,bh,bi⟩:=M;clear bh;subst bg bi;obtain⟨N,bC,J,Q⟩:=kX bB.out (i:=j) (by simp [EL];exact E);have aq:w.cell? ⟨N,j,none⟩=some c[j].2.2:=by simpa [EL]using Q
     rw [aX.out]at J;simp only [Value.slice.injEq]at J;obtain⟨aJ,aK,aL⟩:=J;clear aK;subst aJ aL;have bm:who g2= .lrow 2:=aE.out 2 (by omega) g2 (by rw [bv.out];rfl);have aP:who N= .lrow 3:=aE.out 3 (by omega) N (by rw [aX.out];rfl);have m2:=A.out.cell aO (fun e=>by have:=I g2 e;rw [bm]at this;cases this);have m3:=A.out.cell bt.out Z;have m4:=A.out.cell aq (fun e=>by have:=I N e;rw [aP]at this;cases this);obtain⟨T,y2,y3,y4,y5⟩:=HX.out.le.lc c[j] (List.getElem_mem E);have av:¬(c[j].1∈l.map (·.1)\/c[j].1∈(c.take j).map (·.1)):=by
      have af:=aG.out;rw [List.nodup_append]at af;have F:=af.2.1;rw [List.nodup_append]at F;rintro(e | e)
      ·exact F.2.2 _ (List.mem_map.2 ⟨_,List.getElem_mem E,rfl⟩) _ e rfl
      ·have:=mq F.1 (i:=j) (by simpa using E);rw [<-List.map_take]at this;exact this (by simpa using e)
     have ae:z.heap[c[j].1]?=some (.cells (lentCode c[j].2.1) 65 (0,0)):=by rw [A.out.blk _ (Array.getElem?_eq_some_iff.1 T).1 av];exact T
     have X:CodeAt z (slC c[j]) c[j].2.1:=lE ae _;have O:CodeAt z c[j].2.2 c[j].2.1:=mD y3 y4 (fun g' h1 F=>A.out.blk g' h1 (fun e=>by have:=I g' e;rw [F]at this;cases this));have W:Hid ((c.take (j+1)).map (·.1)=(c.take j).map (·.1)++[c[j].1]):=by
      unfold Hid;rw [List.take_succ_eq_append_getElem E,List.map_append];rfl
     generalize c[j]=y at*;obtain⟨v,s,yv⟩:=y;simp only [slC,sl2]at m2 m4 X O y5 ae W;obtain⟨ya,yb,rfl⟩:∃ ya yb,yv= .slice ya s.length yb:=⟨_,_,O.choose_spec.choose_spec.1⟩;have al:∀ (d:Nat) (D:Array Obj),Calls Tryz.prog 52 #[.slice (some ⟨v,0,none⟩) s.length (s.length+2),.slice ya s.length yb] (Sort.grow (redrawn z d) D) fun e w''=>e= .returned (.bool true)/\∃ p:Regrown,w''=Sort.grow (redrawn z p.d) p.os:=by
      intro d D;have ad:=js (below_regrown z d D);refine Calls.regrown_of ((mu s _ _ _ (CodeAt.pres X (ip ad)) (CodeAt.pres O (ip ad)) y5).mono ?_);rintro e w' ⟨rfl,hl⟩;refine⟨by simp,?_⟩;have:=iH (r:=none) hl;exact⟨this.os,this.tape,this.output,this.size,fun k U=>this.block k U (by simp)⟩
     have n3:=fun d D=>cell_regrown m3 d D
     have n4:=fun d D=>cell_regrown m4 d D
     have s0:(0:Int)<=(j:Int):=by omega
     have s1:(j:Int)<c.length:=by omega
     have s2:(s.length:Int)<=4398046510976:=by omega
     have s3:(0:Int)<=(s.length:Int):=by omega
     have s4:(s.length:Int)<=(s.length:Int)+2:=by omega
     have s5:(s.length:Int)<(s.length:Int)+2:=by omega
     have s6:(s.length:Int)+1<(s.length:Int)+2:=by omega
     have ay:=ij ae;clear X O T y2 y3 y4 r2 Q aO aq ae av;go_wp2_with fail
     refine wp_region_quiet_below (by kernel_rfl) (by kernel_rfl) ?_;repeat (quiet_step (exact al _ _))
     refine wpQuiet_nil ?_;intro H P;obtain⟨⟨dq,aT⟩,P⟩:=P;have S:=below_regrown z dq aT;rw [<-P]at S;have L:H.heap[v]?=some (.cells (lentCode s) 65 (0,0)):=by rw [S.block v (Array.getElem?_eq_some_iff.1 ay.out).1];exact ay.out
     have p0:H.cell? ⟨v,s.length*4,none⟩=some (.int .i64 (-77000000)):=by simp only [World.cell?,L];exact(jj s 0 (by omega)).1
     have p1:H.cell? ⟨v,s.length*4+1,none⟩=some (.int .i64 0):=by simp only [World.cell?,L];exact(jj s 1 (by omega)).1
     have p2:H.cell? ⟨v,s.length*4+2,none⟩=some (.int .i64 0):=by simp only [World.cell?,L];exact(jj s 2 (by omega)).1
     have p3:H.cell? ⟨v,s.length*4+3,none⟩=some (.int .i64 0):=by simp only [World.cell?,L];exact(jj s 3 (by omega)).1
     have p4:H.cell? ⟨v,(s.length+1)*4,none⟩=some (.int .i64 (-77000000)):=by simp only [World.cell?,L];exact(jj s 0 (by omega)).2
     have p5:H.cell? ⟨v,(s.length+1)*4+1,none⟩=some (.int .i64 0):=by simp only [World.cell?,L];exact(jj s 1 (by omega)).2
     have p6:H.cell? ⟨v,(s.length+1)*4+2,none⟩=some (.int .i64 0):=by simp only [World.cell?,L];exact(jj s 2 (by omega)).2
     have p7:H.cell? ⟨v,(s.length+1)*4+3,none⟩=some (.int .i64 0):=by simp only [World.cell?,L];exact(jj s 3 (by omega)).2
     have ak:Hid (Chg w H (fun g=>g∈l.map (·.1)\/g∈(c.take (j+1)).map (·.1))/\∃ R:Array Value,R.size=(s.length+2)*4/\H.heap[v]?=some (.cells R 65 (0,0))):=
      ⟨(A.out.below S).mono (fun g e=>e.imp id (fun e=>by rw [W.out];exact List.mem_append.2 (Or.inl e))),_,pz s,L⟩
     have ap:v∈l.map (·.1)\/v∈(c.take (j+1)).map (·.1):=Or.inr (by rw [W.out];exact List.mem_append.2 (Or.inr (by simp)));clear P al n3 n4 S m2 m3 m4 k2 L ay;go_wp2_with fail
     clear p0 p1 p2 p3 p4 p5 p6 p7;go_loopw [15] (fun kv w'=>∃ k:Nat,k<=s.length+2/\kv= .int .i64 k/\Hid (Chg w w' (fun g=>g∈l.map (·.1)\/g∈(c.take (j+1)).map (·.1))/\∃ R:Array Value,R.size=(s.length+2)*4/\w'.heap[v]?=some (.cells R 65 (0,0)))) (fun kv _=>s.length+2 - (intOf kv).toNat)
     case atStart=>exact⟨0,by omega,rfl,ak⟩
     case round=>
      clear ak;obtain⟨k,U,rfl,V⟩:=hrel;obtain⟨C,au⟩:∃ C,C=wr:=⟨_,rfl⟩;rw [<-au]at V ⊢;clear au;by_cases bH:k<s.length+2
      ·obtain⟨ao,R,an,G⟩:=V.out;obtain⟨u0,y0⟩:∃ u,C.cell? ⟨v,k*4,none⟩=some u:=⟨R[k*4]'(by omega),by simp only [World.cell?,G];exact Array.getElem?_eq_getElem _⟩;obtain⟨u1,T⟩:∃ u,C.cell? ⟨v,k*4+1,none⟩=some u:=⟨R[k*4+1]'(by omega),by simp only [World.cell?,G];exact Array.getElem?_eq_getElem _⟩;obtain⟨u2,y2⟩:∃ u,C.cell? ⟨v,k*4+2,none⟩=some u:=⟨R[k*4+2]'(by omega),by simp only [World.cell?,G];exact Array.getElem?_eq_getElem _⟩;obtain⟨u3,y3⟩:∃ u,C.cell? ⟨v,k*4+3,none⟩=some u:=⟨R[k*4+3]'(by omega),by simp only [World.cell?,G];exact Array.getElem?_eq_getElem _⟩;have v0:C.frozen? ⟨v,k*4,none⟩=false:=by simp [World.frozen?,G]
       have v1:C.frozen? ⟨v,k*4+1,none⟩=false:=by simp [World.frozen?,G]
       have v2:C.frozen? ⟨v,k*4+2,none⟩=false:=by simp [World.frozen?,G]
       have v3:C.frozen? ⟨v,k*4+3,none⟩=false:=by simp [World.frozen?,G]
       have aH:Hid (Chg w ((((C.setCell ⟨v,k*4,none⟩ (.int .i64 1)).setCell ⟨v,k*4+1,none⟩ (.int .i64 0)).setCell ⟨v,k*4+2,none⟩ (.int .i64 0)).setCell ⟨v,k*4+3,none⟩ (.int .i64 99)) (fun g=>g∈l.map (·.1)\/g∈(c.take (j+1)).map (·.1))/\
         ∃ R:Array Value,R.size=(s.length+2)*4/\((((C.setCell ⟨v,k*4,none⟩ (.int .i64 1)).setCell ⟨v,k*4+1,none⟩ (.int .i64 0)).setCell ⟨v,k*4+2,none⟩ (.int .i64 0)).setCell ⟨v,k*4+3,none⟩ (.int .i64 99)).heap[v]?=some (.cells R 65 (0,0))):=by
        refine⟨(((ao.set ap).set ap).set ap).set ap,_,?_,heap_setCell_same _ v _ _ _ _ (heap_setCell_same _ v _ _ _ _ (heap_setCell_same _ v _ _ _ _ (heap_setCell_same C v _ R _ _ G)))⟩;simpa using an
       have z0:(0:Int)<=(k:Int):=by omega
       have z1:(k:Int)<(s.length:Int)+2:=by omega
       clear G an ao;go_wp2_with fail
       go_roundw
       case rel=>exact⟨k+1,by omega,by go_num,aH⟩
       case measure=>simp [intOf];omega
      ·have z1:(s.length:Int)+2<=(k:Int):=by omega
       go_wp2_with fail
       go_roundw
       case rel=>exact⟨j+1,by omega,rfl,by go_num,ij V.out.1⟩
       case measure=>simp [intOf];omega
    ·have ej:j=c.length:=by omega
     have t2:(c.length:Int)<=(j:Int):=by omega
     have bz:Hid (Chg w z (fun g=>(g∈l.map (·.1)\/g∈c.map (·.1))\/g∈(t.take 0).map (·.1))):=by
      have:=A.out;rw [ej,List.take_length]at this;exact this.mono (fun g e=>Or.inl e)
     clear A I Z ej;go_wp2_with fail
     go_loopw [3,16] (fun ok iv w'=>∃ j:Nat,j<=t.length/\ok= .bool true/\iv= .int .i64 j/\Hid (Chg w w' (fun g=>(g∈l.map (·.1)\/g∈c.map (·.1))\/g∈(t.take j).map (·.1)))) (fun _ iv _=>t.length - (intOf iv).toNat)
     case atStart=>exact⟨0,Nat.zero_le _,rfl,rfl,bz⟩
     case round=>
      clear bz k2;obtain⟨j,hj,rfl,rfl,A⟩:=hrel;obtain⟨z,ar⟩:∃ z,z=wr:=⟨_,rfl⟩;rw [<-ar]at A ⊢;clear ar;have I:∀ g,((g∈l.map (·.1)\/g∈c.map (·.1))\/g∈(t.take j).map (·.1))->who g= .lent:=fun g e=>bb.out g (by
       rcases e with (e | e) | e
       ·exact Or.inl e
       ·exact Or.inr (Or.inl e)
       ·obtain⟨x,hx,rfl⟩:=List.mem_map.1 e;exact Or.inr (Or.inr (List.mem_map.2 ⟨x,List.mem_of_mem_take hx,rfl⟩)))
      have Z:¬((b∈l.map (·.1)\/b∈c.map (·.1))\/b∈(t.take j).map (·.1)):=fun e=>by have:=I b e;rw [a9.out]at this;cases this
      have k0:=A.out.cell bU.out Z;by_cases E:j<t.length
      ·obtain⟨g2,ci,M,r2⟩:=kX b7.out (i:=j) (by simp [EL];exact E);have aO:w.cell? ⟨g2,j,none⟩=some (sl2 t[j].1 t[j].2.1.length):=by simpa [EL]using r2
       rw [ba.out]at M;simp only [Value.slice.injEq]at M;obtain⟨bg,bh,bi⟩:=M;clear bh;subst bg bi;obtain⟨N,bC,J,Q⟩:=kX b8.out (i:=j) (by simp [EL];exact E);have aq:w.cell? ⟨N,j,none⟩=some t[j].2.2:=by simpa [EL]using Q
       rw [bu.out]at J;simp only [Value.slice.injEq]at J;obtain⟨aJ,aK,aL⟩:=J;clear aK;subst aJ aL;have bm:who g2= .lrow 0:=aE.out 0 (by omega) g2 (by rw [ba.out];rfl);have aP:who N= .lrow 1:=aE.out 1 (by omega) N (by rw [bu.out];rfl);have m2:=A.out.cell aO (fun e=>by have:=I g2 e;rw [bm]at this;cases this);have m3:=A.out.cell bV.out Z;have m4:=A.out.cell aq (fun e=>by have:=I N e;rw [aP]at this;cases this);obtain⟨T,y2,y3,y4,y5⟩:=HX.out.le.li t[j] (List.getElem_mem E);have av:¬((t[j].1∈l.map (·.1)\/t[j].1∈c.map (·.1))\/t[j].1∈(t.take j).map (·.1)):=by
        have af:=aG.out;rw [List.nodup_append]at af;have hm:t[j].1∈t.map (·.1):=List.mem_map.2 ⟨_,List.getElem_mem E,rfl⟩;rintro((e | e) | e)
        ·exact af.2.2 _ hm _ (List.mem_append.2 (Or.inr e)) rfl
        ·exact af.2.2 _ hm _ (List.mem_append.2 (Or.inl e)) rfl
        ·have:=mq af.1 (i:=j) (by simpa using E);rw [<-List.map_take]at this;exact this (by simpa using e)
       have ae:z.heap[t[j].1]?=some (.cells (lentRow t[j].2.1) 3 (0,0)):=by rw [A.out.blk _ (Array.getElem?_eq_some_iff.1 T).1 av];exact T
       have X:=jQ ae;have O:IntsAt z.heap.size z t[j].2.2 t[j].2.1:=oM y3 y4 A.out.size (fun g' h1 F=>A.out.blk g' h1 (fun e=>by have:=I g' e;rw [F]at this;cases this));have W:Hid ((t.take (j+1)).map (·.1)=(t.take j).map (·.1)++[t[j].1]):=by
        unfold Hid;rw [List.take_succ_eq_append_getElem E,List.map_append];rfl
       generalize t[j]=y at*;obtain⟨v,s,yv⟩:=y;simp only [sl2]at m2 m4 X O y5 ae W;obtain⟨ya,yb,rfl⟩:=O.form;have al:∀ (d:Nat) (D:Array Obj),Calls Tryz.prog 30 #[.slice (some ⟨v,0,none⟩) s.length (s.length+2),.slice ya s.length yb] (Sort.grow (redrawn z d) D) fun e w''=>e= .returned (.bool true)/\∃ p:Regrown,w''=Sort.grow (redrawn z p.d) p.os:=by
        intro d D;have ad:=js (below_regrown z d D);refine Calls.regrown_of ((pi s s _ _ _ ((X.pres (ip ad)).mono ad.size) ((O.pres (ip ad)).mono ad.size) (by omega)).mono ?_);rintro e w' ⟨rfl,hl⟩;refine⟨by simp,?_⟩;have:=iH (r:=none) hl;exact⟨this.os,this.tape,this.output,this.size,fun k U=>this.block k U (by simp)⟩
       have n3:=fun d D=>cell_regrown m3 d D
       have n4:=fun d D=>cell_regrown m4 d D
       have s0:(0:Int)<=(j:Int):=by omega
       have s1:(j:Int)<t.length:=by omega
       have s2:(s.length:Int)<=17592186043904:=by omega
       have s3:(0:Int)<=(s.length:Int):=by omega
       have s4:(s.length:Int)<=(s.length:Int)+2:=by omega
       have s5:(s.length:Int)<(s.length:Int)+2:=by omega
       have s6:(s.length:Int)+1<(s.length:Int)+2:=by omega
       have ay:=ij ae;clear X O T y2 y3 y4 r2 Q aO aq ae av;go_wp2_with fail
       refine wp_region_quiet_below (by kernel_rfl) (by kernel_rfl) ?_;repeat (quiet_step (exact al _ _))
       refine wpQuiet_nil ?_;intro H P;obtain⟨⟨dq,aT⟩,P⟩:=P;have S:=below_regrown z dq aT;rw [<-P]at S;have L:H.heap[v]?=some (.cells (lentRow s) 3 (0,0)):=by rw [S.block v (Array.getElem?_eq_some_iff.1 ay.out).1];exact ay.out
       have p0:H.cell? ⟨v,s.length,none⟩=some (.int .i64 (-77000000)):=by simp only [World.cell?,L];exact qX s
       have p1:H.cell? ⟨v,s.length+1,none⟩=some (.int .i64 (-77000000)):=by simp only [World.cell?,L];exact qY s
       have ak:Hid (Chg w H (fun g=>(g∈l.map (·.1)\/g∈c.map (·.1))\/g∈(t.take (j+1)).map (·.1))/\∃ R:Array Value,R.size=s.length+2/\H.heap[v]?=some (.cells R 3 (0,0))):=
        ⟨(A.out.below S).mono (fun g e=>e.imp id (fun e=>by rw [W.out];exact List.mem_append.2 (Or.inl e))),_,sB s,L⟩
       have ap:(v∈l.map (·.1)\/v∈c.map (·.1))\/v∈(t.take (j+1)).map (·.1):=Or.inr (by rw [W.out];exact List.mem_append.2 (Or.inr (by simp)));clear P al n3 n4 S m2 m3 m4 k0 L ay;go_wp2_with fail
       clear p0 p1;go_loopw [20] (fun kv w'=>∃ k:Nat,k<=s.length+2/\kv= .int .i64 k/\Hid (Chg w w' (fun g=>(g∈l.map (·.1)\/g∈c.map (·.1))\/g∈(t.take (j+1)).map (·.1))/\∃ R:Array Value,R.size=s.length+2/\w'.heap[v]?=some (.cells R 3 (0,0)))) (fun kv _=>s.length+2 - (intOf kv).toNat)
       case atStart=>exact⟨0,by omega,rfl,ak⟩
       case round=>
        clear ak;obtain⟨k,U,rfl,V⟩:=hrel;obtain⟨C,au⟩:∃ C,C=wr:=⟨_,rfl⟩;rw [<-au]at V ⊢;clear au;by_cases bH:k<s.length+2
        ·obtain⟨ao,R,an,G⟩:=V.out;obtain⟨u0,y0⟩:∃ u,C.cell? ⟨v,k,none⟩=some u:=⟨R[k]'(by omega),by simp only [World.cell?,G];exact Array.getElem?_eq_getElem _⟩;have v0:C.frozen? ⟨v,k,none⟩=false:=by simp [World.frozen?,G]
         have aH:Hid (Chg w (C.setCell ⟨v,k,none⟩ (.int .i64 3)) (fun g=>(g∈l.map (·.1)\/g∈c.map (·.1))\/g∈(t.take (j+1)).map (·.1))/\∃ R:Array Value,R.size=s.length+2/\(C.setCell ⟨v,k,none⟩ (.int .i64 3)).heap[v]?=some (.cells R 3 (0,0))):=
          ⟨ao.set ap,R.setIfInBounds k (.int .i64 3),by simpa using an,heap_setCell_same C v k R _ _ G⟩
         have z0:(0:Int)<=(k:Int):=by omega
         have z1:(k:Int)<(s.length:Int)+2:=by omega
         clear G an ao;go_wp2_with fail
         go_roundw
         case rel=>exact⟨k+1,by omega,by go_num,aH⟩
         case measure=>simp [intOf];omega
        ·have z1:(s.length:Int)+2<=(k:Int):=by omega
         go_wp2_with fail
         go_roundw
         case rel=>exact⟨j+1,by omega,rfl,by go_num,ij V.out.1⟩
         case measure=>simp [intOf];omega
      ·have t3:(t.length:Int)<=(j:Int):=by omega
       have Y:HB z b f:=HX.out.hs.1.blk.same (A.out.blk b HX.out.low.2 Z);have bY:=ij (HX.out.free A.out I);have x4:z.cell? ⟨b,4,none⟩=some (f 4):=Y.cell (by omega);have x2:z.cell? ⟨b,2,none⟩=some (f 2):=Y.cell (by omega);have x3:z.cell? ⟨b,3,none⟩=some (f 3):=Y.cell (by omega);have x0:z.cell? ⟨b,0,none⟩=some (f 0):=Y.cell (by omega);have x1:z.cell? ⟨b,1,none⟩=some (f 1):=Y.cell (by omega);rw [ba.out]at x0;have f4:=Y.frozen 4;have f2:=Y.frozen 2;have f3:=Y.frozen 3;have f0:=Y.frozen 0;have f1:=Y.frozen 1;clear Y k0;go_wp2_with fail
       go_ret;obtain⟨f',h1,F⟩:=bY.out;exact⟨rfl,⟨f',h1⟩,F⟩
end
section
open Go.RowKit
theorem zf(a b c d:Int)(w:World):(Op.equalIn 10000 28 (.agg #[.int .i64 a,.int .i64 b,.int .i64 c,.int .i64 d]) (.agg #[.int .i64 a,.int .i64 b,.int .i64 c,.int .i64 d])).run Tryz.prog w= .ok true w:=by
 obtain⟨i0,h,hz0,k,hz2⟩:=info_parts ji;have hc:Tryz.prog.cellsOf 3=1:=by simp [Program.cellsOf,h,k]
 have f:Tryz.prog.plainKey 3=true:=by simp [Program.plainKey,Tryz.underlying3]
 rw [show (10000:Nat)=9999+1 from rfl,run_equalIn_array w 9999 _ _ (n:=4) (e:=3) (by first | exact Tryz.underlying28 | kernel_rfl) h,hc];have j:∀ (d:Nat) (v:Int),(Op.equalIn (d+1) 3 (.int .i64 v) (.int .i64 v)).run Tryz.prog w= .ok true w:=fun d v=>by
  rw [run_equalIn_int w d _ _ .i64 v v Tryz.underlying3];simp
 have i:=j 9998;simp only [Nat.reduceAdd]at i;have l:=run_part_plain w f (xs:= #[.int .i64 a,.int .i64 b,.int .i64 c,.int .i64 d]) (off:=0) rfl;have m:=run_part_plain w f (xs:= #[.int .i64 a,.int .i64 b,.int .i64 c,.int .i64 d]) (off:=1) rfl;have o:=run_part_plain w f (xs:= #[.int .i64 a,.int .i64 b,.int .i64 c,.int .i64 d]) (off:=2) rfl;have p:=run_part_plain w f (xs:= #[.int .i64 a,.int .i64 b,.int .i64 c,.int .i64 d]) (off:=3) rfl;simp [List.range,List.range.loop,Op.eqItems,Sem.run_bind,l,m,o,p,i,Result.andThen_ok]
attribute [local go_sem] Go.World.cell?_alloc_some zf
theorem lQ{c:Nat}{w:World}{who:Nat->Role}{v:Value}{m:Int}(h:KeptC c w who (v,m))(hc:c≠4):∃ xa xl xc,v= .slice xa xl xc/\xl<=1000/\∀ j,j<xl->∃ g,xa=some ⟨g,0,none⟩/\∀ t u,(elC m c)[t]?=some u->w.cell? ⟨g,j*(elC m c).length+t,none⟩=some u:=by
 rcases h with e | ⟨g,len,cap,e,hl,hin⟩
 ·exact⟨none,0,0,e,by omega,fun j hj=>by omega⟩
 ·exact⟨some ⟨g,0,none⟩,len,cap,e,hl,fun j hj=>⟨g,rfl,(jX hc).1 hin j hj⟩⟩
theorem t8{w:World}{who:Nat->Role}{v:Value}{m:Int}(h:KeptC 4 w who (v,m)):∃ xa xl xc,v= .slice xa xl xc/\xl<=1000/\∀ j,j<xl->∃ g g' cap',xa=some ⟨g,0,none⟩/\w.cell? ⟨g,j,none⟩=some (.slice (some ⟨g',0,none⟩) 1 cap')/\w.heap[g']?=some (.cells (elC m 3).toArray 65 (0,0)):=by
 rcases h with e | ⟨g,len,cap,e,hl,hin⟩
 ·exact⟨none,0,0,e,by omega,fun j hj=>by omega⟩
 ·refine⟨some ⟨g,0,none⟩,len,cap,e,hl,fun j hj=>?_⟩;obtain⟨g',cap',a,b,_⟩:=kl.1 hin j hj;exact⟨g,g',cap',rfl,a,b⟩
theorem lI{w:World}{B:Nat}{T:TypeId}{v u:Value}{L:List (Value × Int)}(a:w.ownsRow B T 1 v L.length (L.map (·.1)))(b:w.ownsRow B 3 1 u L.length (ints (L.map (·.2)))){i:Nat}(f:i<L.length):
  ∃ g c g' c',v= .slice (some ⟨g,0,none⟩) L.length c/\u= .slice (some ⟨g',0,none⟩) L.length c'/\w.cell? ⟨g,i,none⟩=some L[i].1/\w.cell? ⟨g',i,none⟩=some (.int .i64 L[i].2):=by
 obtain⟨g,c,e,_,_⟩:=a.form (by omega);obtain⟨g',c',d,_,_⟩:=b.form (by omega);refine⟨g,c,g',c',e,d,?_,?_⟩
 ·rw [e]at a;rw [a.cellAt i (by omega)];simp [f]
 ·rw [d]at b;rw [b.cellAt i (by omega)];simp [ints,f]
theorem mK(B:Nat)(w:World)(b:Nat)(who:Nat->Role)(n:Int)(f:Nat->Value)(K:Nat->List (Value × Int))(s:HsK B w b who n f K)(S:∀ c,c<5->(K c).length<=6000000000000):
  Calls Tryz.prog 27 #[pt b] w fun e w'=>e= .returned (.bool true)/\Like w' w:=by
 have HH:=ij s;have aT:pt b= .pointer (some ⟨b,0,none⟩):=rfl;rw [aT];have hK0:=S 0 (by omega);have V:w.ownsRow B 39 1 (f 6) (K 0).length ((K 0).map (·.1)):=s.1.lst 0 (by omega);have aa:w.ownsRow B 3 1 (f 7) (K 0).length (ints ((K 0).map (·.2))):=by have:=s.1.mrk 0 (by omega);simpa [marksOf]using this
 have bj:=ij V;have bo:=ij aa;have ar:=s.1.blk.cell (o:=6) (by omega);have ay:=s.1.blk.cell (o:=7) (by omega);obtain⟨bL,lb0,aU,aD⟩:=iw V;obtain⟨ma0,mb0,bQ,aI⟩:=iw aa;rw [aD]at ar V;rw [aI]at ay aa;have bB:=iB V;have bG:=iB aa;subst bB bG;have aN:=ij ar;have aZ:=ij ay;have a4:=ij aD;have a9:=ij aI;have be:=ij (fun x hx=>(s.1.kept 0 (by omega) x hx).1);clear V aa ar ay aD aI;have hK1:=S 1 (by omega);have W:w.ownsRow B 27 1 (f 8) (K 1).length ((K 1).map (·.1)):=s.1.lst 1 (by omega);have ab:w.ownsRow B 3 1 (f 9) (K 1).length (ints ((K 1).map (·.2))):=by have:=s.1.mrk 1 (by omega);simpa [marksOf]using this
 have bk:=ij W;have bp:=ij ab;have au:=s.1.blk.cell (o:=8) (by omega);have az:=s.1.blk.cell (o:=9) (by omega);obtain⟨bM,lb1,aV,aE⟩:=iw W;obtain⟨ma1,mb1,bR,aJ⟩:=iw ab;rw [aE]at au W;rw [aJ]at az ab;have bC:=iB W;have bH:=iB ab;subst bC bH;have aO:=ij au;have a0:=ij az;have a5:=ij aE;have ba:=ij aJ;have bf:=ij (fun x hx=>(s.1.kept 1 (by omega) x hx).1);clear W ab au az aE aJ;have hK2:=S 2 (by omega);have X:w.ownsRow B 29 1 (f 10) (K 2).length ((K 2).map (·.1)):=s.1.lst 2 (by omega);have ac:w.ownsRow B 3 1 (f 11) (K 2).length (ints ((K 2).map (·.2))):=by have:=s.1.mrk 2 (by omega);simpa [marksOf]using this
 have bl:=ij X;have bq:=ij ac;have av:=s.1.blk.cell (o:=10) (by omega);have aA:=s.1.blk.cell (o:=11) (by omega);obtain⟨bN,lb2,aW,aF⟩:=iw X;obtain⟨ma2,mb2,bS,aK⟩:=iw ac;rw [aF]at av X;rw [aK]at aA ac;have bD:=iB X;have bI:=iB ac;subst bD bI;have aP:=ij av;have a1:=ij aA;have a6:=ij aF;have bb:=ij aK;have bg:=ij (fun x hx=>(s.1.kept 2 (by omega) x hx).1);clear X ac av aA aF aK;have hK3:=S 3 (by omega);have Y:w.ownsRow B 66 1 (f 12) (K 3).length ((K 3).map (·.1)):=s.1.lst 3 (by omega);have ad:w.ownsRow B 3 1 (f 13) (K 3).length (ints ((K 3).map (·.2))):=by have:=s.1.mrk 3 (by omega);simpa [marksOf]using this
 have bm:=ij Y;have br:=ij ad;have aw:=s.1.blk.cell (o:=12) (by omega);have aB:=s.1.blk.cell (o:=13) (by omega);obtain⟨bO,lb3,aX,aG⟩:=iw Y;obtain⟨ma3,mb3,bT,aL⟩:=iw ad;rw [aG]at aw Y;rw [aL]at aB ad;have bE:=iB Y;have bJ:=iB ad;subst bE bJ;have aQ:=ij aw;have a2:=ij aB;have a7:=ij aG;have bc:=ij aL;have bh:=ij (fun x hx=>(s.1.kept 3 (by omega) x hx).1);clear Y ad aw aB aG aL;have hK4:=S 4 (by omega);have Z:w.ownsRow B 35 1 (f 14) (K 4).length ((K 4).map (·.1)):=s.1.lst 4 (by omega);have ae:w.ownsRow B 3 1 (f 15) (K 4).length (ints ((K 4).map (·.2))):=by have:=s.1.mrk 4 (by omega);simpa [marksOf]using this
 have bn:=ij Z;have bt:=ij ae;have ax:=s.1.blk.cell (o:=14) (by omega);have aC:=s.1.blk.cell (o:=15) (by omega);obtain⟨bP,lb4,aY,aH⟩:=iw Z;obtain⟨ma4,mb4,bU,aM⟩:=iw ae;rw [aH]at ax Z;rw [aM]at aC ae;have bF:=iB Z;have bK:=iB ae;subst bF bK;have aR:=ij ax;have a3:=ij aC;have a8:=ij aH;have bd:=ij aM;have bi:=ij (fun x hx=>(s.1.kept 4 (by omega) x hx).1);clear Z ae ax aC aH aM;have l:Hid (∀ w',Like w' w->∀ a,w'.cell? a=w.cell? a):=fun w' hl a=>by simp [World.cell?,hl.1]
 clear s S aT;have qK0:((K 0).length:Int)<=6000000000000:=by omega
 generalize bv:K 0=L0 at*;clear bv;have qK1:((K 1).length:Int)<=6000000000000:=by omega
 generalize bw:K 1=L1 at*;clear bw;have qK2:((K 2).length:Int)<=6000000000000:=by omega
 generalize bx:K 2=L2 at*;clear bx;have qK3:((K 3).length:Int)<=6000000000000:=by omega
 generalize bz:K 3=L3 at*;clear bz;have qK4:((K 4).length:Int)<=6000000000000:=by omega
 generalize bA:K 4=L4 at*;clear bA;go_enter Tryz.func27,Tryz.ntmps27
 go_wp2_with fail
 go_loopw [3] (fun i w'=>∃ k:Nat,k<=L0.length/\i= .int .i64 k/\Hid (Like w' w)) (fun i _=>L0.length - (intOf i).toNat)
 case atStart=>exact⟨0,Nat.zero_le _,rfl,ij (iT _)⟩
 case round=>
  skip
  obtain⟨k,hk,rfl,p⟩:=hrel;obtain⟨q,D⟩:∃ q,q=wr:=⟨_,rfl⟩;rw [<-D]at p ⊢;clear D;have M:q.cell? ⟨b,6,none⟩=some (.slice bL L0.length aU):=by rw [l.out q p.out];exact aN.out
  by_cases C:k<L0.length
  ·obtain⟨z,oc,G,mc,y,v,r,t⟩:=lI bj.out bo.out C;rw [a4.out]at y;rw [a9.out]at v;simp only [Value.slice.injEq,true_and]at y v;obtain⟨rfl,rfl⟩:=y;obtain⟨rfl,rfl⟩:=v;have A:=ij (be.out L0[k] (List.getElem_mem C));have q0:(0:Int)<=(k:Int):=by omega
   have Q:(k:Int)<L0.length:=by omega
   generalize L0[k]=x at*;obtain⟨xv,J⟩:=x;simp only at r t;obtain⟨H,m,I,P,ak,F⟩:=lQ A.out (by omega);subst P;have L:=ij F;clear F A;have N:q.cell? ⟨z,k,none⟩=some (.slice H m I):=by rw [l.out q p.out];exact r
   have qx:(m:Int)<=1000:=by omega
   go_wp2_with fail
   go_loopw [4] (fun i w'=>∃ j:Nat,j<=m/\i= .int .i64 j/\Hid (Like w' w)) (fun i _=>m - (intOf i).toNat)
   case atStart=>exact⟨0,Nat.zero_le _,rfl,p⟩
   case round=>
    clear M N p;obtain⟨j,hj,rfl,h⟩:=hrel;obtain⟨d,E⟩:∃ d,d=wr:=⟨_,rfl⟩;rw [<-E]at h ⊢;clear E;have f6:d.cell? ⟨b,6,none⟩=some (.slice (some ⟨z,0,none⟩) L0.length aU):=by rw [l.out d h.out];exact aN.out
    have f7:d.cell? ⟨b,7,none⟩=some (.slice (some ⟨G,0,none⟩) L0.length bQ):=by rw [l.out d h.out];exact aZ.out
    have k0:d.cell? ⟨z,k,none⟩=some (.slice H m I):=by rw [l.out d h.out];exact r
    have k1:d.cell? ⟨G,k,none⟩=some (.int .i64 J):=by rw [l.out d h.out];exact t
    by_cases O:j<m
    ·obtain⟨g,rfl,u⟩:=L.out j O;have g0:d.cell? ⟨g,j,none⟩=some (.int .i64 J):=by rw [l.out d h.out];exact(by simpa [elC]using u 0 _ rfl)
     have q2:(0:Int)<=(j:Int):=by omega
     have R:(j:Int)<m:=by omega
     clear u r t;go_wp2_with fail
     go_quiet (fail)
     go_wp2_with fail
     go_roundw
     case rel=>exact⟨j+1,by omega,by go_num,ij (jb h.out _)⟩
     case measure=>simp [intOf];omega
    ·have R:(m:Int)<=(j:Int):=by omega
     clear r t;go_wp2_with fail
     go_roundw
     case rel=>exact⟨k+1,by omega,by go_num,h⟩
     case measure=>simp [intOf];omega
  ·have Q:(L0.length:Int)<=(k:Int):=by omega
   go_wp2_with fail
   go_loopw [5] (fun i w'=>∃ k:Nat,k<=L1.length/\i= .int .i64 k/\Hid (Like w' w)) (fun i _=>L1.length - (intOf i).toNat)
   case atStart=>exact⟨0,Nat.zero_le _,rfl,p⟩
   case round=>
    clear p;obtain⟨k,hk,rfl,p⟩:=hrel;obtain⟨q,D⟩:∃ q,q=wr:=⟨_,rfl⟩;rw [<-D]at p ⊢;clear D;have M:q.cell? ⟨b,8,none⟩=some (.slice bM L1.length aV):=by rw [l.out q p.out];exact aO.out
    by_cases C:k<L1.length
    ·obtain⟨z,oc,G,mc,y,v,r,t⟩:=lI bk.out bp.out C;rw [a5.out]at y;rw [ba.out]at v;simp only [Value.slice.injEq,true_and]at y v;obtain⟨rfl,rfl⟩:=y;obtain⟨rfl,rfl⟩:=v;have A:=ij (bf.out L1[k] (List.getElem_mem C));have q0:(0:Int)<=(k:Int):=by omega
     have Q:(k:Int)<L1.length:=by omega
     generalize L1[k]=x at*;obtain⟨xv,J⟩:=x;simp only at r t;obtain⟨H,m,I,P,ak,F⟩:=lQ A.out (by omega);subst P;have L:=ij F;clear F A;have N:q.cell? ⟨z,k,none⟩=some (.slice H m I):=by rw [l.out q p.out];exact r
     have qx:(m:Int)<=1000:=by omega
     go_wp2_with fail
     go_loopw [6] (fun i w'=>∃ j:Nat,j<=m/\i= .int .i64 j/\Hid (Like w' w)) (fun i _=>m - (intOf i).toNat)
     case atStart=>exact⟨0,Nat.zero_le _,rfl,p⟩
     case round=>
      clear M N p;obtain⟨j,hj,rfl,h⟩:=hrel;obtain⟨d,E⟩:∃ d,d=wr:=⟨_,rfl⟩;rw [<-E]at h ⊢;clear E;have f6:d.cell? ⟨b,8,none⟩=some (.slice (some ⟨z,0,none⟩) L1.length aV):=by rw [l.out d h.out];exact aO.out
      have f7:d.cell? ⟨b,9,none⟩=some (.slice (some ⟨G,0,none⟩) L1.length bR):=by rw [l.out d h.out];exact a0.out
      have k0:d.cell? ⟨z,k,none⟩=some (.slice H m I):=by rw [l.out d h.out];exact r
      have k1:d.cell? ⟨G,k,none⟩=some (.int .i64 J):=by rw [l.out d h.out];exact t
      by_cases O:j<m
      ·obtain⟨g,rfl,u⟩:=L.out j O;have g0:d.cell? ⟨g,j*2,none⟩=some (.int .i64 J):=by rw [l.out d h.out];exact u 0 _ rfl
       have g1:d.cell? ⟨g,j*2+1,none⟩=some (.int .i64 0):=by rw [l.out d h.out];exact u 1 _ rfl
       have q2:(0:Int)<=(j:Int):=by omega
       have R:(j:Int)<m:=by omega
       clear u r t;go_wp2_with fail
       go_quiet (fail)
       go_wp2_with fail
       go_roundw
       case rel=>exact⟨j+1,by omega,by go_num,ij (jb h.out _)⟩
       case measure=>simp [intOf];omega
      ·have R:(m:Int)<=(j:Int):=by omega
       clear r t;go_wp2_with fail
       go_roundw
       case rel=>exact⟨k+1,by omega,by go_num,h⟩
       case measure=>simp [intOf];omega
    ·have Q:(L1.length:Int)<=(k:Int):=by omega
     go_wp2_with fail
     go_loopw [7] (fun i w'=>∃ k:Nat,k<=L2.length/\i= .int .i64 k/\Hid (Like w' w)) (fun i _=>L2.length - (intOf i).toNat)
     case atStart=>exact⟨0,Nat.zero_le _,rfl,p⟩
     case round=>
      clear p;obtain⟨k,hk,rfl,p⟩:=hrel;obtain⟨q,D⟩:∃ q,q=wr:=⟨_,rfl⟩;rw [<-D]at p ⊢;clear D;have M:q.cell? ⟨b,10,none⟩=some (.slice bN L2.length aW):=by rw [l.out q p.out];exact aP.out
      by_cases C:k<L2.length
      ·obtain⟨z,oc,G,mc,y,v,r,t⟩:=lI bl.out bq.out C;rw [a6.out]at y;rw [bb.out]at v;simp only [Value.slice.injEq,true_and]at y v;obtain⟨rfl,rfl⟩:=y;obtain⟨rfl,rfl⟩:=v;have A:=ij (bg.out L2[k] (List.getElem_mem C));have q0:(0:Int)<=(k:Int):=by omega
       have Q:(k:Int)<L2.length:=by omega
       generalize L2[k]=x at*;obtain⟨xv,J⟩:=x;simp only at r t;obtain⟨H,m,I,P,ak,F⟩:=lQ A.out (by omega);subst P;have L:=ij F;clear F A;have N:q.cell? ⟨z,k,none⟩=some (.slice H m I):=by rw [l.out q p.out];exact r
       have qx:(m:Int)<=1000:=by omega
       go_wp2_with fail
       go_loopw [8] (fun i w'=>∃ j:Nat,j<=m/\i= .int .i64 j/\Hid (Like w' w)) (fun i _=>m - (intOf i).toNat)
       case atStart=>exact⟨0,Nat.zero_le _,rfl,p⟩
       case round=>
        clear M N p;obtain⟨j,hj,rfl,h⟩:=hrel;obtain⟨d,E⟩:∃ d,d=wr:=⟨_,rfl⟩;rw [<-E]at h ⊢;clear E;have f6:d.cell? ⟨b,10,none⟩=some (.slice (some ⟨z,0,none⟩) L2.length aW):=by rw [l.out d h.out];exact aP.out
        have f7:d.cell? ⟨b,11,none⟩=some (.slice (some ⟨G,0,none⟩) L2.length bS):=by rw [l.out d h.out];exact a1.out
        have k0:d.cell? ⟨z,k,none⟩=some (.slice H m I):=by rw [l.out d h.out];exact r
        have k1:d.cell? ⟨G,k,none⟩=some (.int .i64 J):=by rw [l.out d h.out];exact t
        by_cases O:j<m
        ·obtain⟨g,rfl,u⟩:=L.out j O;have g0:d.cell? ⟨g,j*4,none⟩=some (.int .i64 J):=by rw [l.out d h.out];exact u 0 _ rfl
         have g1:d.cell? ⟨g,j*4+1,none⟩=some (.int .i64 1):=by rw [l.out d h.out];exact u 1 _ rfl
         have g2:d.cell? ⟨g,j*4+2,none⟩=some (.int .i64 2):=by rw [l.out d h.out];exact u 2 _ rfl
         have g3:d.cell? ⟨g,j*4+3,none⟩=some (.int .i64 3):=by rw [l.out d h.out];exact u 3 _ rfl
         have q2:(0:Int)<=(j:Int):=by omega
         have R:(j:Int)<m:=by omega
         clear u r t;go_wp2_with fail
         go_quiet (fail)
         go_wp2_with fail
         go_roundw
         case rel=>exact⟨j+1,by omega,by go_num,ij (jb h.out _)⟩
         case measure=>simp [intOf];omega
        ·have R:(m:Int)<=(j:Int):=by omega
         clear r t;go_wp2_with fail
         go_roundw
         case rel=>exact⟨k+1,by omega,by go_num,h⟩
         case measure=>simp [intOf];omega
      ·have Q:(L2.length:Int)<=(k:Int):=by omega
       go_wp2_with fail
       go_loopw [9] (fun i w'=>∃ k:Nat,k<=L3.length/\i= .int .i64 k/\Hid (Like w' w)) (fun i _=>L3.length - (intOf i).toNat)
       case atStart=>exact⟨0,Nat.zero_le _,rfl,p⟩
       case round=>
        clear p;obtain⟨k,hk,rfl,p⟩:=hrel;obtain⟨q,D⟩:∃ q,q=wr:=⟨_,rfl⟩;rw [<-D]at p ⊢;clear D;have M:q.cell? ⟨b,12,none⟩=some (.slice bO L3.length aX):=by rw [l.out q p.out];exact aQ.out
        by_cases C:k<L3.length
        ·obtain⟨z,oc,G,mc,y,v,r,t⟩:=lI bm.out br.out C;rw [a7.out]at y;rw [bc.out]at v;simp only [Value.slice.injEq,true_and]at y v;obtain⟨rfl,rfl⟩:=y;obtain⟨rfl,rfl⟩:=v;have A:=ij (bh.out L3[k] (List.getElem_mem C));have q0:(0:Int)<=(k:Int):=by omega
         have Q:(k:Int)<L3.length:=by omega
         generalize L3[k]=x at*;obtain⟨xv,J⟩:=x;simp only at r t;obtain⟨H,m,I,P,ak,F⟩:=lQ A.out (by omega);subst P;have L:=ij F;clear F A;have N:q.cell? ⟨z,k,none⟩=some (.slice H m I):=by rw [l.out q p.out];exact r
         have qx:(m:Int)<=1000:=by omega
         go_wp2_with fail
         go_loopw [10] (fun i w'=>∃ j:Nat,j<=m/\i= .int .i64 j/\Hid (Like w' w)) (fun i _=>m - (intOf i).toNat)
         case atStart=>exact⟨0,Nat.zero_le _,rfl,p⟩
         case round=>
          clear M N p;obtain⟨j,hj,rfl,h⟩:=hrel;obtain⟨d,E⟩:∃ d,d=wr:=⟨_,rfl⟩;rw [<-E]at h ⊢;clear E;have f6:d.cell? ⟨b,12,none⟩=some (.slice (some ⟨z,0,none⟩) L3.length aX):=by rw [l.out d h.out];exact aQ.out
          have f7:d.cell? ⟨b,13,none⟩=some (.slice (some ⟨G,0,none⟩) L3.length bT):=by rw [l.out d h.out];exact a2.out
          have k0:d.cell? ⟨z,k,none⟩=some (.slice H m I):=by rw [l.out d h.out];exact r
          have k1:d.cell? ⟨G,k,none⟩=some (.int .i64 J):=by rw [l.out d h.out];exact t
          by_cases O:j<m
          ·obtain⟨g,rfl,u⟩:=L.out j O;have g0:d.cell? ⟨g,j*4,none⟩=some (.int .i64 J):=by rw [l.out d h.out];exact u 0 _ rfl
           have g1:d.cell? ⟨g,j*4+1,none⟩=some (.int .i64 0):=by rw [l.out d h.out];exact u 1 _ rfl
           have g2:d.cell? ⟨g,j*4+2,none⟩=some (.int .i64 0):=by rw [l.out d h.out];exact u 2 _ rfl
           have g3:d.cell? ⟨g,j*4+3,none⟩=some (.int .i64 0):=by rw [l.out d h.out];exact u 3 _ rfl
           have q2:(0:Int)<=(j:Int):=by omega
           have R:(j:Int)<m:=by omega
           clear u r t;go_wp2_with fail
           go_quiet (fail)
           go_wp2_with fail
           go_roundw
           case rel=>exact⟨j+1,by omega,by go_num,ij (jb h.out _)⟩
           case measure=>simp [intOf];omega
          ·have R:(m:Int)<=(j:Int):=by omega
           clear r t;go_wp2_with fail
           go_roundw
           case rel=>exact⟨k+1,by omega,by go_num,h⟩
           case measure=>simp [intOf];omega
        ·have Q:(L3.length:Int)<=(k:Int):=by omega
         go_wp2_with fail
         go_loopw [11] (fun i w'=>∃ k:Nat,k<=L4.length/\i= .int .i64 k/\Hid (Like w' w)) (fun i _=>L4.length - (intOf i).toNat)
         case atStart=>exact⟨0,Nat.zero_le _,rfl,p⟩
         case round=>
          clear p;obtain⟨k,hk,rfl,p⟩:=hrel;obtain⟨q,D⟩:∃ q,q=wr:=⟨_,rfl⟩;rw [<-D]at p ⊢;clear D;have M:q.cell? ⟨b,14,none⟩=some (.slice bP L4.length aY):=by rw [l.out q p.out];exact aR.out
          by_cases C:k<L4.length
          ·obtain⟨z,oc,G,mc,y,v,r,t⟩:=lI bn.out bt.out C;rw [a8.out]at y;rw [bd.out]at v;simp only [Value.slice.injEq,true_and]at y v;obtain⟨rfl,rfl⟩:=y;obtain⟨rfl,rfl⟩:=v;have A:=ij (bi.out L4[k] (List.getElem_mem C));have q0:(0:Int)<=(k:Int):=by omega
           have Q:(k:Int)<L4.length:=by omega
           generalize L4[k]=x at*;obtain⟨xv,J⟩:=x;simp only at r t;obtain⟨H,m,I,P,ak,F⟩:=t8 A.out;subst P;have L:=ij F;clear F A;have N:q.cell? ⟨z,k,none⟩=some (.slice H m I):=by rw [l.out q p.out];exact r
           have qx:(m:Int)<=1000:=by omega
           go_wp2_with fail
           go_loopw [12] (fun i w'=>∃ j:Nat,j<=m/\i= .int .i64 j/\Hid (Like w' w)) (fun i _=>m - (intOf i).toNat)
           case atStart=>exact⟨0,Nat.zero_le _,rfl,p⟩
           case round=>
            clear M N p;obtain⟨j,hj,rfl,h⟩:=hrel;obtain⟨d,E⟩:∃ d,d=wr:=⟨_,rfl⟩;rw [<-E]at h ⊢;clear E;have f6:d.cell? ⟨b,14,none⟩=some (.slice (some ⟨z,0,none⟩) L4.length aY):=by rw [l.out d h.out];exact aR.out
            have f7:d.cell? ⟨b,15,none⟩=some (.slice (some ⟨G,0,none⟩) L4.length bU):=by rw [l.out d h.out];exact a3.out
            have k0:d.cell? ⟨z,k,none⟩=some (.slice H m I):=by rw [l.out d h.out];exact r
            have k1:d.cell? ⟨G,k,none⟩=some (.int .i64 J):=by rw [l.out d h.out];exact t
            by_cases O:j<m
            ·obtain⟨g,T,bu,rfl,u,U⟩:=L.out j O;have g0:d.cell? ⟨g,j,none⟩=some (.slice (some ⟨T,0,none⟩) 1 bu):=by rw [l.out d h.out];exact u
             have g1:d.cell? ⟨T,0,none⟩=some (.int .i64 J):=by rw [l.out d h.out];simp [World.cell?,U,elC]
             have g2:d.cell? ⟨T,1,none⟩=some (.int .i64 0):=by rw [l.out d h.out];simp [World.cell?,U,elC]
             have g3:d.cell? ⟨T,2,none⟩=some (.int .i64 0):=by rw [l.out d h.out];simp [World.cell?,U,elC]
             have g4:d.cell? ⟨T,3,none⟩=some (.int .i64 0):=by rw [l.out d h.out];simp [World.cell?,U,elC]
             have q2:(0:Int)<=(j:Int):=by omega
             have R:(j:Int)<m:=by omega
             clear u U r t;go_wp2_with fail
             go_quiet (fail)
             go_wp2_with fail
             go_roundw
             case rel=>exact⟨j+1,by omega,by go_num,ij (jb h.out _)⟩
             case measure=>simp [intOf];omega
            ·have R:(m:Int)<=(j:Int):=by omega
             clear r t;go_wp2_with fail
             go_roundw
             case rel=>exact⟨k+1,by omega,by go_num,h⟩
             case measure=>simp [intOf];omega
          ·have Q:(L4.length:Int)<=(k:Int):=by omega
           go_wp2_with fail
           go_ret;exact⟨rfl,p.out⟩
end
section
open Go.RowKit
attribute [local go_sem] Go.World.cell?_alloc_some
theorem A0(m:Int)(xs:List Value)(k len:Nat)(hx:xs.length=len*1)(hk:k<len):(((List.replicate k (elC m 0)).flatten++xs.drop (k*1)).set (k) (.int .i64 m))=(List.replicate (k+1) (elC m 0)).flatten++xs.drop ((k+1)*1):=by
 obtain⟨b,f⟩:∃ b,b=(List.replicate k (elC m 0)).flatten:=⟨_,rfl⟩;have hyl:b.length=k*1:=by rw [f];exact jW _ _
 rw [<-jw,<-f];have d:1<=(xs.drop (k*1)).length:=by rw [List.length_drop];omega
 have h:xs.drop ((k+1)*1)=(xs.drop (k*1)).drop 1:=by rw [List.drop_drop];congr 1<;>omega
 rw [h];generalize xs.drop (k*1)=zs at d;obtain⟨c,a,rfl⟩:∃ c a,zs=c::a:=by
  match zs,d with
  | c::a,_=>exact⟨c,a,rfl⟩
 rw [List.set_append,if_neg (by omega)];have e:k - b.length=0:=by omega
 rw [e];simp [elC]
theorem lj(B:Nat)(w:World)(b:Nat)(who:Nat->Role)(n:Int)(f:Nat->Value)(K:Nat->List (Value × Int))(F:Value)(len:Nat)(xs:List Value)(q:HsK B w b who n f K)(y:w.ownsRow B 3 1 F len xs)(E:∀ g,F.ownBlock=some g->who g= .other)
  (bb:0<=n) (hn1:n<=10000000000000) (hK:(K 0).length<=5000000000000) (ha:len<=900):
  Calls Tryz.prog 31 #[pt b,F] w fun e w'=>(∃ v,e= .returned v)/\∃ who' f' K',HsK B w' b who' (n+1) f' K'/\After 0 w w' who who' f f' K K' (fun g=>F.ownBlock=some g):=by
 obtain⟨i0,a2,bj,bk,bl⟩:=info_parts ji;obtain⟨i1,a3,bg,bh,bi⟩:=info_parts p9;obtain⟨i2,a4,be,bf,Z⟩:=info_parts ji;have aC:=y.1;obtain⟨x1,x2,x3,rfl⟩:=iw y;have Z:=(iB y).symm;subst Z;have HM:=ij (oO q.1 bb (by omega));have HO:=ij E;have H0:Hid (WrG B 0 w (w.setCell ⟨b,5,none⟩ (.int .i64 (n+1))) b who (n+1) f (setF f 5 (.int .i64 (n+1))) K (.slice x1 len x3) len xs (-77000000 - (n+1)) 0):=by
  refine⟨⟨q.1.setCnt _,q.2⟩,?_,?_,fun o E=>iN _ _ (by omega)⟩
  ·have a1:(Value.slice x1 len x3).ownBlock≠some b:=fun e=>by have:=E b e;rw [q.1.wb]at this;cases this
   have h5:=ownsRow_setCell_other (a:=⟨b,5,none⟩) y a1 (.int .i64 (n+1));have e5:(List.replicate 0 (elC (-77000000 - (n+1)) 0)).flatten++xs.drop (0*(elC (-77000000 - (n+1)) 0).length)=xs:=by simp
   rw [e5];exact h5
  ·exact Fr.set (Or.inl (by rw [q.1.wb];simp))
 have az:pt b= .pointer (some ⟨b,0,none⟩):=rfl;rw [az]at*;clear q y E az;generalize hm: -77000000 - (n+1)=m at*;have HMM:=ij hm;clear hm;go_enter Tryz.func31,Tryz.ntmps31
 go_wp2_with (go_at_call 55;refine HM.out.mono ?_;rintro e w1 ⟨rfl,rfl⟩)
 go_loopw [5] (fun i w'=>∃ k:Nat,k<=len/\i= .int .i64 k/\Hid (WrG B 0 w w' b who (n+1) f (setF f 5 (.int .i64 (n+1))) K (.slice x1 len x3) len xs m k)) (fun i _=>len - (intOf i).toNat)
 case atStart=>exact⟨0,Nat.zero_le _,rfl,H0⟩
 case round=>
  clear H0 HM;obtain⟨k,V,rfl,p⟩:=hrel;obtain⟨l,aA⟩:∃ l,l=wr:=⟨_,rfl⟩;rw [<-aA]at p ⊢;clear aA;by_cases a6:k<len
  ·obtain⟨g,cp,P,_,_⟩:=p.out.row.form (by omega);have z:l.ownsRow B 3 1 (.slice x1 len x3) len ((List.replicate k (elC m 0)).flatten++xs.drop (k*1)):=p.out.row;rw [P]at z;simp only [Value.slice.injEq,true_and]at P;obtain⟨rfl,rfl⟩:=P;have av:=HO.out g rfl;obtain⟨u0,y0⟩:∃ u,l.cell? ⟨g,k,none⟩=some u:=jJ z (by omega);have z0:l.frozen? ⟨g,k,none⟩=false:=jK z;have aL:Hid (WrG B 0 w (l.setCell ⟨g,k,none⟩ (.int .i64 m)) b who (n+1) f (setF f 5 (.int .i64 (n+1))) K (.slice (some ⟨g,0,none⟩) len x3) len xs m (k+1)):=by
    have Y:=p.out;refine⟨(Y.hs.setOther av),?_,?_,Y.lent⟩
    ·have h9:=(iU z (k) (.int .i64 m));have Q:=A0 m xs k len aC a6;rw [Q]at h9;exact h9
    ·exact(Y.fr).trans (Fr.set (Or.inr rfl))
   have q0:(0:Int)<=(k:Int):=by omega
   have q1:(k:Int)<len:=by omega
   clear z av;go_wp2_with fail
   go_roundw
   case rel=>exact⟨k+1,by omega,by go_num,aL⟩
   case measure=>simp [intOf];omega
  ·have ek:k=len:=by omega
   have q1:(len:Int)<=(k:Int):=by omega
   have HS:Hid (∃ ag,KpG B 0 w l b who ag (n+1) m f (setF f 5 (.int .i64 (n+1))) K K (.slice x1 len x3) len 0 (fun g=>(Value.slice x1 len x3).ownBlock=some g)):=by
    have hi:=p.out;rw [ek]at hi;exact hi.kp (by omega) aC (by omega) HO.out
   clear p ek;go_wp2_with fail
   go_loopw [1,6] (fun lv' i w'=>∃ (k:Nat) (who':Nat->Role) (f':Nat->Value) (K':Nat->List (Value × Int)),k<=4/\i= .int .i64 k/\Hid (KpG B 0 w w' b who who' (n+1) m f f' K K' lv' (len+k) k (fun g=>(Value.slice x1 len x3).ownBlock=some g))) (fun _ i _=>4 - (intOf i).toNat)
   case atStart=>
    obtain⟨ag,h1⟩:=HS.out;exact⟨0,ag,_,K,by omega,rfl,ij h1⟩
   case round=>
    clear HS;obtain⟨j,who',f',K',hj,rfl,d⟩:=hrel;obtain⟨c,aB⟩:∃ c,c=wr:=⟨_,rfl⟩;rw [<-aB]at d ⊢;clear aB;have C:c.ownsRow B 39 1 (f' 6) (K' 0).length ((K' 0).map (·.1)):=d.out.hs.lst 0 (by omega);have rM:c.ownsRow B 3 1 (f' 7) (K' 0).length (ints ((K' 0).map (·.2))):=by have:=d.out.hs.mrk 0 (by omega);simpa [marksOf]using this
    have I:c.ownsRow B 3 1 u1 (len+j) (List.replicate (len+j) (elC m 0)).flatten:=d.out.cu.row;have aK:Hid ((K' 0).length=(K 0).length+j):=d.out.len;have c6:c.cell? ⟨b,6,none⟩=some (f' 6):=d.out.hs.blk.cell (by omega);have hbase:B<=c.heap.size:=by have:=d.out.hs.blk.lt;have:=(d.out.hs.dom b (by rw [d.out.hs.wb];simp)).1;omega
    obtain⟨s,l2,x,rfl⟩:=iw I;have a5:=iB I;subst a5;obtain⟨o1,o2,o3,S⟩:=iw C;rw [S]at C c6;have bc:=iB C;subst bc;have a0:(K' 0).length<=5000000000003\/¬j<4:=by have:=aK.out;omega
    have aM:=ij I;have al:=ij C;have J:=ij S;have aO:=ij rM;clear I C rM S;by_cases hj4:j<4
    ·have a0:(K' 0).length<=5000000000003:=by omega
     have z2:(j:Int)<4:=by omega
     have aq:(K' 0).length+1<=maxLen:=by unfold maxLen;omega
     have aY:len+j+1<=maxLen:=by unfold maxLen;omega
     have O:Hid (∀ {o:Obj} {g6 c6:Nat} {w6:World},w6.ownsRow B 39 1 (.slice (some ⟨g6,0,none⟩) ((K' 0).length+1) c6) ((K' 0).length+1) ((K' 0).map (·.1)++[.slice s (len+j) x])->
       (((Value.slice o1 (K' 0).length o3).ownBlock=some g6/\(c.alloc o).grownBy w6 (some g6))\/(g6=c.heap.size+1/\(c.alloc o).grownBy w6 none))->
       HB w6 b f'/\∃ who'' f'',KpA B 0 w (w6.setCell ⟨b,6,none⟩ (.slice (some ⟨g6,0,none⟩) ((K' 0).length+1) c6)) b who who'' (n+1) m f f'' K K' (.slice s (len+j) x) (len+j) j (fun g=>(Value.slice x1 len x3).ownBlock=some g)/\f'' 7=f' 7):=by
      intro o g6 c6 w6 bd key;rw [<-J.out]at key;exact d.out.push (by omega) bd key
     generalize au:(K' 0).length=N at*;generalize aZ:(K' 0).map (·.1)=L1 at*;have M:=ij au;clear au aZ;go_upto_region 9 with (at_builtin;go_must (refine iE rfl _ _ _ rfl B 39 i1 _ 1 24 Tryz.underlying23 a3 bg bh bi rfl (by omega) (.slice o1 N o3) N L1 rfl (iG al.out) ⟨c.heap.size,0,none⟩ 1 1 [.slice s (len+j) x] rfl rfl (World.news_of_block (cs:= #[.slice s (len+j) x]) (t:=39) (fr:=(0,0)) (heap_alloc_new c _)) (by simp [Value.oneCell']) (by omega) aq (by omega) (by simp;omega) (c.heap.size+1) (by simp) ?_);intro g8 aQ w8 X ab a9;have U:=(O.out X ab).1;have p6:w8.cell? ⟨b,6,none⟩=some (.slice o1 N o3):=(by rw [U.cell (by omega),J.out]);have p7:=U.frozen 6)
     obtain⟨_,who9,f9,h,Q⟩:=O.out X ab;generalize w8.setCell ⟨b,6,none⟩ (.slice (some ⟨g8,0,none⟩) (N+1) aQ)=w9 at*;have L:=ij h;have A:w9.ownsRow B 3 1 (f9 7) N (ints ((K' 0).map (·.2))):=by
      have:=h.hs.mrk 0 (by omega);rw [<-M.out];simpa [marksOf]using this
     have c7:w9.cell? ⟨b,7,none⟩=some (f9 7):=h.hs.blk.cell (by omega);obtain⟨G,m2,H,R⟩:=iw A;rw [R]at A c7;have ba:=(iB A).symm;subst ba;have hbase9:B<=w9.heap.size:=by have:=h.hs.blk.lt;have:=(h.hs.dom b (by rw [h.hs.wb];simp)).1;omega
     have ak:=ij A;have D:=ij R;clear X ab U p6 p7 a9 c6 h Q O A R J al aO;go_upto_region 10 with (at_builtin;go_must (refine iE rfl _ _ _ rfl B 3 i2 _ 1 8 Tryz.underlying39 a4 be bf Z rfl (by omega) (.slice G N H) N (ints ((K' 0).map (·.2))) rfl (iG ak.out) ⟨w9.heap.size,0,none⟩ 1 1 [.int .i64 m] rfl rfl (World.news_of_block (cs:= #[.int .i64 m]) (t:=3) (fr:=(0,0)) (heap_alloc_new w9 _)) (by simp [Value.oneCell']) (by omega) aq (by omega) (by simp;omega) (w9.heap.size+1) (by simp) ?_);intro aT aP aF W aa a7;have T:=(L.out.tell (by omega) (M1:=G) (M3:=H) D.out M.out W aa).1;have p6:aF.cell? ⟨b,7,none⟩=some (.slice G N H):=(by rw [T.cell (by omega),D.out]);have p7:=T.frozen 7)
     obtain⟨_,who11,f11,r⟩:=L.out.tell (by omega) (M1:=G) (M3:=H) D.out M.out W aa;generalize aF.setCell ⟨b,7,none⟩ (.slice (some ⟨aT,0,none⟩) (N+1) aP)=w11 at*;have aI:=ij r;have aN:Hid (w11.ownsRow B 3 1 (.slice s (len+j) x) (len+j) (List.replicate (len+j) (elC m 0)).flatten):=r.cu.row;have hbase11:B<=w11.heap.size:=by have:=r.hs.blk.lt;have:=(r.hs.dom b (by rw [r.hs.wb];simp)).1;omega
     clear W aa T p6 p7 a7 c7 r L ak D aM;go_wp2_with (at_builtin;go_must (refine iE rfl _ _ _ rfl B 3 i0 _ 1 8 Tryz.underlying39 a2 bj bk bl rfl (by omega) (.slice s (len+j) x) (len+j) (List.replicate (len+j) (elC m 0)).flatten rfl (iG aN.out) ⟨w11.heap.size,0,none⟩ 1 1 [.int .i64 m] rfl rfl (World.news_of_block (cs:= #[.int .i64 m]) (t:=3) (fr:=(0,0)) (heap_alloc_new w11 _)) (by simp [Value.oneCell']) (by omega) aY (by omega) (by simp;omega) (w11.heap.size+1) (by simp) ?_);intro g12 cap12 w12 ay aD a8;have aJ:=ij (aI.out.grow (by omega) (by omega) ay aD);clear ay aD a8)
     go_roundw
     case rel=>
      obtain⟨bq,aW⟩:=aJ.out;exact⟨j+1,bq,_,_,by omega,by go_num,ij aW⟩
     case measure=>simp [intOf];omega
    ·have z2:(4:Int)<=(j:Int):=by omega
     have HE:Hid (∃ who' f' K',HsK B c b who' (n+1) f' K'/\After 0 w c who who' f f' K K' (fun g=>(Value.slice x1 len x3).ownBlock=some g)):=by
      have ej:j=4:=by omega
      have V:=d.out;rw [ej]at V;exact V.done
     go_wp2_with fail
     go_end0
     exact⟨⟨_,rfl⟩,HE.out⟩
end
section
open Go.RowKit
theorem kg{B:Nat}{W w:World}{b:Nat}{who:Nat->Role}{n:Int}{f:Nat->Value}{K:Nat->List (Value × Int)}{sv:Value}{s:List Int}(j:HsK B w b who n f K)(hWB:W.heap.size<=B)(k:IntsAt W.heap.size W sv s):valOther who sv:=by
 intro g o l c e hl;obtain⟨ao,cap,rfl,_,h⟩:=k;simp only [Value.slice.injEq]at e;obtain⟨i,e2,_⟩:=e;obtain⟨g',o',a,e4,_⟩:=h 0 (by omega);rw [i]at a;simp only [Option.some.injEq,Addr.mk.injEq,and_true]at a;by_cases d:who g= .other
 ·exact d
 ·have:=(j.1.dom g d).1;omega
def HzG(W:World)(B b:Nat)(n:Int)(K:Nat->List (Value × Int))(e:Ending)(w':World):Prop:=
 e= .returned (.bool true)/\∃ who' f' K',Hz B w' b who' n f' K'/\W.grownBy w' none/\∀ c,c<5->(K' c).length<=(K c).length+4
theorem Fr.step0{w w1 w2:World}{who who1 who2:Nat->Role}{ex:Nat->Prop}(h:Fr w w1 who who1 ex)(hf:Fr w1 w2 who1 who2 (fun _=>False)):Fr w w2 who who2 ex:=h.trans (hf.mono fun _ e=>e.elim)
theorem Fr.stepG{w w1 w2:World}{who who1:Nat->Role}{ex:Nat->Prop}(h:Fr w w1 who who1 ex)(hg:w1.grownBy w2 none):Fr w w2 who who1 ex:=h.trans (Fr.grown hg)
def HzF(W:World)(B b:Nat)(n:Int)(K:Nat->List (Value × Int))(w:World)(who:Nat->Role)(e:Ending)(w':World):Prop:=
 e= .returned (.bool true)/\∃ who' f' K',Hz B w' b who' n f' K'/\W.grownBy w' none/\(∀ c,c<5->(K' c).length<=(K c).length+4)/\Fr w w' who who' (fun g=>w.heap.size<=g)
theorem HzF.g{W w:World}{B b:Nat}{n:Int}{K:Nat->List (Value × Int)}{who:Nat->Role}{e:Ending}{w':World}(h:HzF W B b n K w who e w'):HzG W B b n K e w':=by
 obtain⟨d,k,c,a,f,i,j,_⟩:=h;exact⟨d,k,c,a,f,i,j⟩
def HzE(W:World)(B b:Nat)(n:Int)(K:Nat->List (Value × Int))(w:World)(who:Nat->Role)(e:Ending)(w':World):Prop:=
 e= .returned (.bool true)/\∃ who' f',Hz B w' b who' n f' K/\W.grownBy w' none/\Fr w w' who who' (fun g=>w.heap.size<=g)
theorem HzE.g{W w:World}{B b:Nat}{n:Int}{K:Nat->List (Value × Int)}{who:Nat->Role}{e:Ending}{w':World}(h:HzE W B b n K w who e w'):HzG W B b n K e w':=by
 obtain⟨d,j,a,f,i,_⟩:=h;exact⟨d,j,a,K,f,i,fun c _=>Nat.le_add_right _ _⟩
end
section
open Go.RowKit
attribute [local go_sem] Go.World.cell?_alloc_some
theorem yf:((Tryz.prog.info? 76).map fun i=>(i.zero,i.size,i.bytes))=some (some (.agg #[.int .i64 0,.int .i64 0]),2,16):=by kernel_rfl
theorem yj:((Tryz.prog.info? 27).map fun i=>(i.zero,i.size,i.bytes))=some (some (.slice none 0 0),1,24):=by kernel_rfl
theorem A1(m:Int)(xs:List Value)(k len:Nat)(hx:xs.length=len*2)(hk:k<len):((((List.replicate k (elC m 1)).flatten++xs.drop (k*2)).set (k*2) (.int .i64 m)).set (k*2+1) (.int .i64 0))=(List.replicate (k+1) (elC m 1)).flatten++xs.drop ((k+1)*2):=by
 obtain⟨c,e⟩:∃ c,c=(List.replicate k (elC m 1)).flatten:=⟨_,rfl⟩;have h:c.length=k*2:=by rw [e];exact jW _ _
 rw [<-jw,<-e];have d:2<=(xs.drop (k*2)).length:=by rw [List.length_drop];omega
 have f:xs.drop ((k+1)*2)=(xs.drop (k*2)).drop 2:=by rw [List.drop_drop];congr 1<;>omega
 rw [f];generalize xs.drop (k*2)=zs at d;obtain⟨b,z1,a,rfl⟩:∃ b z1 a,zs=b::z1::a:=by
  match zs,d with
  | b::z1::a,_=>exact⟨b,z1,a,rfl⟩
 rw [<-h];simp [elC]
theorem sA(B:Nat)(w:World)(b:Nat)(who:Nat->Role)(n:Int)(f:Nat->Value)(K:Nat->List (Value × Int))(F:Value)(len:Nat)(xs:List Value)(r:HsK B w b who n f K)(z:w.ownsRow B 76 2 F len xs)(E:∀ g,F.ownBlock=some g->who g= .other)
  (bb:0<=n) (hn1:n<=10000000000000) (hK:(K 1).length<=5000000000000) (ha:len<=900):
  Calls Tryz.prog 25 #[pt b,F] w fun e w'=>(∃ v,e= .returned v)/\∃ who' f' K',HsK B w' b who' (n+1) f' K'/\After 1 w w' who who' f f' K K' (fun g=>F.ownBlock=some g):=by
 obtain⟨i0,a2,bj,bk,bl⟩:=info_parts yf;obtain⟨i1,a3,bg,bh,bi⟩:=info_parts yj;obtain⟨i2,a4,be,bf,aa⟩:=info_parts ji;have aC:=z.1;obtain⟨x1,x2,x3,rfl⟩:=iw z;have aa:=(iB z).symm;subst aa;have HM:=ij (oO r.1 bb (by omega));have HO:=ij E;have H0:Hid (WrG B 1 w (w.setCell ⟨b,5,none⟩ (.int .i64 (n+1))) b who (n+1) f (setF f 5 (.int .i64 (n+1))) K (.slice x1 len x3) len xs (-77000000 - (n+1)) 0):=by
  refine⟨⟨r.1.setCnt _,r.2⟩,?_,?_,fun o E=>iN _ _ (by omega)⟩
  ·have a1:(Value.slice x1 len x3).ownBlock≠some b:=fun e=>by have:=E b e;rw [r.1.wb]at this;cases this
   have h5:=ownsRow_setCell_other (a:=⟨b,5,none⟩) z a1 (.int .i64 (n+1));have e5:(List.replicate 0 (elC (-77000000 - (n+1)) 1)).flatten++xs.drop (0*(elC (-77000000 - (n+1)) 1).length)=xs:=by simp
   rw [e5];exact h5
  ·exact Fr.set (Or.inl (by rw [r.1.wb];simp))
 have az:pt b= .pointer (some ⟨b,0,none⟩):=rfl;rw [az]at*;clear r z E az;generalize hm: -77000000 - (n+1)=m at*;have HMM:=ij hm;clear hm;go_enter Tryz.func25,Tryz.ntmps25
 go_wp2_with (go_at_call 55;refine HM.out.mono ?_;rintro e w1 ⟨rfl,rfl⟩)
 go_loopw [5] (fun i w'=>∃ k:Nat,k<=len/\i= .int .i64 k/\Hid (WrG B 1 w w' b who (n+1) f (setF f 5 (.int .i64 (n+1))) K (.slice x1 len x3) len xs m k)) (fun i _=>len - (intOf i).toNat)
 case atStart=>exact⟨0,Nat.zero_le _,rfl,H0⟩
 case round=>
  clear H0 HM;obtain⟨k,W,rfl,q⟩:=hrel;obtain⟨h,aA⟩:∃ h,h=wr:=⟨_,rfl⟩;rw [<-aA]at q ⊢;clear aA;by_cases a6:k<len
  ·obtain⟨g,cp,P,_,_⟩:=q.out.row.form (by omega);have p:h.ownsRow B 76 2 (.slice x1 len x3) len ((List.replicate k (elC m 1)).flatten++xs.drop (k*2)):=q.out.row;rw [P]at p;simp only [Value.slice.injEq,true_and]at P;obtain⟨rfl,rfl⟩:=P;have V:=HO.out g rfl;obtain⟨u0,y0⟩:∃ u,h.cell? ⟨g,k*2,none⟩=some u:=jJ p (by omega);have z0:h.frozen? ⟨g,k*2,none⟩=false:=jK p;obtain⟨u1,y1⟩:∃ u,h.cell? ⟨g,k*2+1,none⟩=some u:=jJ p (by omega);have z1:h.frozen? ⟨g,k*2+1,none⟩=false:=jK p;have aL:Hid (WrG B 1 w ((h.setCell ⟨g,k*2,none⟩ (.int .i64 m)).setCell ⟨g,k*2+1,none⟩ (.int .i64 0)) b who (n+1) f (setF f 5 (.int .i64 (n+1))) K (.slice (some ⟨g,0,none⟩) len x3) len xs m (k+1)):=by
    have Z:=q.out;refine⟨((Z.hs.setOther V).setOther V),?_,?_,Z.lent⟩
    ·have h9:=(iU (iU p (k*2) (.int .i64 m)) (k*2+1) (.int .i64 0));have Q:=A1 m xs k len aC a6;rw [Q]at h9;exact h9
    ·exact((Z.fr).trans (Fr.set (Or.inr rfl))).trans (Fr.set (Or.inr rfl))
   have q0:(0:Int)<=(k:Int):=by omega
   have q1:(k:Int)<len:=by omega
   clear p V;go_wp2_with fail
   go_roundw
   case rel=>exact⟨k+1,by omega,by go_num,aL⟩
   case measure=>simp [intOf];omega
  ·have ek:k=len:=by omega
   have q1:(len:Int)<=(k:Int):=by omega
   have HS:Hid (∃ ah,KpG B 1 w h b who ah (n+1) m f (setF f 5 (.int .i64 (n+1))) K K (.slice x1 len x3) len 0 (fun g=>(Value.slice x1 len x3).ownBlock=some g)):=by
    have hi:=q.out;rw [ek]at hi;exact hi.kp (by omega) aC (by omega) HO.out
   clear q ek;go_wp2_with fail
   go_loopw [1,6] (fun lv' i w'=>∃ (k:Nat) (who':Nat->Role) (f':Nat->Value) (K':Nat->List (Value × Int)),k<=4/\i= .int .i64 k/\Hid (KpG B 1 w w' b who who' (n+1) m f f' K K' lv' (len+k) k (fun g=>(Value.slice x1 len x3).ownBlock=some g))) (fun _ i _=>4 - (intOf i).toNat)
   case atStart=>
    obtain⟨ah,h1⟩:=HS.out;exact⟨0,ah,_,K,by omega,rfl,ij h1⟩
   case round=>
    clear HS;obtain⟨j,who',f',K',hj,rfl,d⟩:=hrel;obtain⟨c,aB⟩:∃ c,c=wr:=⟨_,rfl⟩;rw [<-aB]at d ⊢;clear aB;have C:c.ownsRow B 27 1 (f' 8) (K' 1).length ((K' 1).map (·.1)):=d.out.hs.lst 1 (by omega);have rM:c.ownsRow B 3 1 (f' 9) (K' 1).length (ints ((K' 1).map (·.2))):=by have:=d.out.hs.mrk 1 (by omega);simpa [marksOf]using this
    have I:c.ownsRow B 76 2 u1 (len+j) (List.replicate (len+j) (elC m 1)).flatten:=d.out.cu.row;have aK:Hid ((K' 1).length=(K 1).length+j):=d.out.len;have c6:c.cell? ⟨b,8,none⟩=some (f' 8):=d.out.hs.blk.cell (by omega);have hbase:B<=c.heap.size:=by have:=d.out.hs.blk.lt;have:=(d.out.hs.dom b (by rw [d.out.hs.wb];simp)).1;omega
    obtain⟨x,l2,y,rfl⟩:=iw I;have a5:=iB I;subst a5;obtain⟨o1,o2,o3,S⟩:=iw C;rw [S]at C c6;have bc:=iB C;subst bc;have a0:(K' 1).length<=5000000000003\/¬j<4:=by have:=aK.out;omega
    have aM:=ij I;have am:=ij C;have J:=ij S;have aO:=ij rM;clear I C rM S;by_cases hj4:j<4
    ·have a0:(K' 1).length<=5000000000003:=by omega
     have z2:(j:Int)<4:=by omega
     have ar:(K' 1).length+1<=maxLen:=by unfold maxLen;omega
     have aY:len+j+1<=maxLen:=by unfold maxLen;omega
     have O:Hid (∀ {o:Obj} {g6 c6:Nat} {w6:World},w6.ownsRow B 27 1 (.slice (some ⟨g6,0,none⟩) ((K' 1).length+1) c6) ((K' 1).length+1) ((K' 1).map (·.1)++[.slice x (len+j) y])->
       (((Value.slice o1 (K' 1).length o3).ownBlock=some g6/\(c.alloc o).grownBy w6 (some g6))\/(g6=c.heap.size+1/\(c.alloc o).grownBy w6 none))->
       HB w6 b f'/\∃ who'' f'',KpA B 1 w (w6.setCell ⟨b,8,none⟩ (.slice (some ⟨g6,0,none⟩) ((K' 1).length+1) c6)) b who who'' (n+1) m f f'' K K' (.slice x (len+j) y) (len+j) j (fun g=>(Value.slice x1 len x3).ownBlock=some g)/\f'' 9=f' 9):=by
      intro o g6 c6 w6 bd key;rw [<-J.out]at key;exact d.out.push (by omega) bd key
     generalize av:(K' 1).length=N at*;generalize aZ:(K' 1).map (·.1)=L1 at*;have M:=ij av;clear av aZ;go_upto_region 9 with (at_builtin;go_must (refine iE rfl _ _ _ rfl B 27 i1 _ 1 24 Tryz.underlying42 a3 bg bh bi rfl (by omega) (.slice o1 N o3) N L1 rfl (iG am.out) ⟨c.heap.size,0,none⟩ 1 1 [.slice x (len+j) y] rfl rfl (World.news_of_block (cs:= #[.slice x (len+j) y]) (t:=27) (fr:=(0,0)) (heap_alloc_new c _)) (by simp [Value.oneCell']) (by omega) ar (by omega) (by simp;omega) (c.heap.size+1) (by simp) ?_);intro g8 aQ w8 Y ac a9;have U:=(O.out Y ac).1;have p6:w8.cell? ⟨b,8,none⟩=some (.slice o1 N o3):=(by rw [U.cell (by omega),J.out]);have p7:=U.frozen 8)
     obtain⟨_,who9,f9,l,Q⟩:=O.out Y ac;generalize w8.setCell ⟨b,8,none⟩ (.slice (some ⟨g8,0,none⟩) (N+1) aQ)=w9 at*;have L:=ij l;have A:w9.ownsRow B 3 1 (f9 9) N (ints ((K' 1).map (·.2))):=by
      have:=l.hs.mrk 1 (by omega);rw [<-M.out];simpa [marksOf]using this
     have c7:w9.cell? ⟨b,9,none⟩=some (f9 9):=l.hs.blk.cell (by omega);obtain⟨G,m2,H,R⟩:=iw A;rw [R]at A c7;have ba:=(iB A).symm;subst ba;have hbase9:B<=w9.heap.size:=by have:=l.hs.blk.lt;have:=(l.hs.dom b (by rw [l.hs.wb];simp)).1;omega
     have al:=ij A;have D:=ij R;clear Y ac U p6 p7 a9 c6 l Q O A R J am aO;go_upto_region 10 with (at_builtin;go_must (refine iE rfl _ _ _ rfl B 3 i2 _ 1 8 Tryz.underlying39 a4 be bf aa rfl (by omega) (.slice G N H) N (ints ((K' 1).map (·.2))) rfl (iG al.out) ⟨w9.heap.size,0,none⟩ 1 1 [.int .i64 m] rfl rfl (World.news_of_block (cs:= #[.int .i64 m]) (t:=3) (fr:=(0,0)) (heap_alloc_new w9 _)) (by simp [Value.oneCell']) (by omega) ar (by omega) (by simp;omega) (w9.heap.size+1) (by simp) ?_);intro aT aP aF X ab a7;have T:=(L.out.tell (by omega) (M1:=G) (M3:=H) D.out M.out X ab).1;have p6:aF.cell? ⟨b,9,none⟩=some (.slice G N H):=(by rw [T.cell (by omega),D.out]);have p7:=T.frozen 9)
     obtain⟨_,who11,f11,s⟩:=L.out.tell (by omega) (M1:=G) (M3:=H) D.out M.out X ab;generalize aF.setCell ⟨b,9,none⟩ (.slice (some ⟨aT,0,none⟩) (N+1) aP)=w11 at*;have aI:=ij s;have aN:Hid (w11.ownsRow B 76 2 (.slice x (len+j) y) (len+j) (List.replicate (len+j) (elC m 1)).flatten):=s.cu.row;have hbase11:B<=w11.heap.size:=by have:=s.hs.blk.lt;have:=(s.hs.dom b (by rw [s.hs.wb];simp)).1;omega
     clear X ab T p6 p7 a7 c7 s L al D aM;go_wp2_with (at_builtin;go_must (refine iE rfl _ _ _ rfl B 76 i0 _ 2 16 Tryz.underlying27 a2 bj bk bl rfl (by omega) (.slice x (len+j) y) (len+j) (List.replicate (len+j) (elC m 1)).flatten rfl (iG aN.out) ⟨w11.heap.size,0,none⟩ 1 1 [.int .i64 m,.int .i64 0] rfl rfl (World.news_of_block (cs:= #[.int .i64 m,.int .i64 0]) (t:=76) (fr:=(0,0)) (heap_alloc_new w11 _)) (by simp [Value.oneCell']) (by omega) aY (by omega) (by simp;omega) (w11.heap.size+1) (by simp) ?_);intro g12 cap12 w12 ay aD a8;have aJ:=ij (aI.out.grow (by omega) (by omega) ay aD);clear ay aD a8)
     go_roundw
     case rel=>
      obtain⟨br,aW⟩:=aJ.out;exact⟨j+1,br,_,_,by omega,by go_num,ij aW⟩
     case measure=>simp [intOf];omega
    ·have z2:(4:Int)<=(j:Int):=by omega
     have HE:Hid (∃ who' f' K',HsK B c b who' (n+1) f' K'/\After 1 w c who who' f f' K K' (fun g=>(Value.slice x1 len x3).ownBlock=some g)):=by
      have ej:j=4:=by omega
      have W:=d.out;rw [ej]at W;exact W.done
     go_wp2_with fail
     go_end0
     exact⟨⟨_,rfl⟩,HE.out⟩
theorem yh:((Tryz.prog.info? 28).map fun i=>(i.zero,i.size,i.bytes))=some (some (.agg #[.int .i64 0,.int .i64 0,.int .i64 0,.int .i64 0]),4,32):=by kernel_rfl
theorem yk:((Tryz.prog.info? 29).map fun i=>(i.zero,i.size,i.bytes))=some (some (.slice none 0 0),1,24):=by kernel_rfl
theorem A2(m:Int)(xs:List Value)(k len:Nat)(hx:xs.length=len*4)(hk:k<len):((((((List.replicate k (elC m 2)).flatten++xs.drop (k*4)).set (k*4) (.int .i64 m)).set (k*4+1) (.int .i64 1)).set (k*4+2) (.int .i64 2)).set (k*4+3) (.int .i64 3))=(List.replicate (k+1) (elC m 2)).flatten++xs.drop ((k+1)*4):=by
 obtain⟨e,h⟩:∃ e,e=(List.replicate k (elC m 2)).flatten:=⟨_,rfl⟩;have j:e.length=k*4:=by rw [h];exact jW _ _
 rw [<-jw,<-h];have f:4<=(xs.drop (k*4)).length:=by rw [List.length_drop];omega
 have i:xs.drop ((k+1)*4)=(xs.drop (k*4)).drop 4:=by rw [List.drop_drop];congr 1<;>omega
 rw [i];generalize xs.drop (k*4)=zs at f;obtain⟨b,z1,c,d,a,rfl⟩:∃ b z1 c d a,zs=b::z1::c::d::a:=by
  match zs,f with
  | b::z1::c::d::a,_=>exact⟨b,z1,c,d,a,rfl⟩
 rw [<-j];simp [elC]
theorem tZ(B:Nat)(w:World)(b:Nat)(who:Nat->Role)(n:Int)(f:Nat->Value)(K:Nat->List (Value × Int))(G:Value)(len:Nat)(xs:List Value)(r:HsK B w b who n f K)(A:w.ownsRow B 28 4 G len xs)(F:∀ g,G.ownBlock=some g->who g= .other)
  (bc:0<=n) (hn1:n<=10000000000000) (hK:(K 2).length<=5000000000000) (ha:len<=900):
  Calls Tryz.prog 26 #[pt b,G] w fun e w'=>(∃ v,e= .returned v)/\∃ who' f' K',HsK B w' b who' (n+1) f' K'/\After 2 w w' who who' f f' K K' (fun g=>G.ownBlock=some g):=by
 obtain⟨i0,a3,bk,bl,bm⟩:=info_parts yh;obtain⟨i1,a4,bh,bi,bj⟩:=info_parts yk;obtain⟨i2,a5,bf,bg,aa⟩:=info_parts ji;have aC:=A.1;obtain⟨x1,x2,x3,rfl⟩:=iw A;have aa:=(iB A).symm;subst aa;have HM:=ij (oO r.1 bc (by omega));have HO:=ij F;have H0:Hid (WrG B 2 w (w.setCell ⟨b,5,none⟩ (.int .i64 (n+1))) b who (n+1) f (setF f 5 (.int .i64 (n+1))) K (.slice x1 len x3) len xs (-77000000 - (n+1)) 0):=by
  refine⟨⟨r.1.setCnt _,r.2⟩,?_,?_,fun o F=>iN _ _ (by omega)⟩
  ·have a2:(Value.slice x1 len x3).ownBlock≠some b:=fun e=>by have:=F b e;rw [r.1.wb]at this;cases this
   have h5:=ownsRow_setCell_other (a:=⟨b,5,none⟩) A a2 (.int .i64 (n+1));have e5:(List.replicate 0 (elC (-77000000 - (n+1)) 2)).flatten++xs.drop (0*(elC (-77000000 - (n+1)) 2).length)=xs:=by simp
   rw [e5];exact h5
  ·exact Fr.set (Or.inl (by rw [r.1.wb];simp))
 have az:pt b= .pointer (some ⟨b,0,none⟩):=rfl;rw [az]at*;clear r A F az;generalize hm: -77000000 - (n+1)=m at*;have HMM:=ij hm;clear hm;go_enter Tryz.func26,Tryz.ntmps26
 go_wp2_with (go_at_call 55;refine HM.out.mono ?_;rintro e w1 ⟨rfl,rfl⟩)
 go_loopw [5] (fun i w'=>∃ k:Nat,k<=len/\i= .int .i64 k/\Hid (WrG B 2 w w' b who (n+1) f (setF f 5 (.int .i64 (n+1))) K (.slice x1 len x3) len xs m k)) (fun i _=>len - (intOf i).toNat)
 case atStart=>exact⟨0,Nat.zero_le _,rfl,H0⟩
 case round=>
  clear H0 HM;obtain⟨k,W,rfl,q⟩:=hrel;obtain⟨d,aA⟩:∃ d,d=wr:=⟨_,rfl⟩;rw [<-aA]at q ⊢;clear aA;by_cases a7:k<len
  ·obtain⟨g,cp,Q,_,_⟩:=q.out.row.form (by omega);have l:d.ownsRow B 28 4 (.slice x1 len x3) len ((List.replicate k (elC m 2)).flatten++xs.drop (k*4)):=q.out.row;rw [Q]at l;simp only [Value.slice.injEq,true_and]at Q;obtain⟨rfl,rfl⟩:=Q;have z:=HO.out g rfl;obtain⟨u0,y0⟩:∃ u,d.cell? ⟨g,k*4,none⟩=some u:=jJ l (by omega);have z0:d.frozen? ⟨g,k*4,none⟩=false:=jK l;obtain⟨u1,y1⟩:∃ u,d.cell? ⟨g,k*4+1,none⟩=some u:=jJ l (by omega);have z1:d.frozen? ⟨g,k*4+1,none⟩=false:=jK l;obtain⟨u2,y2⟩:∃ u,d.cell? ⟨g,k*4+2,none⟩=some u:=jJ l (by omega);have z2:d.frozen? ⟨g,k*4+2,none⟩=false:=jK l;obtain⟨u3,y3⟩:∃ u,d.cell? ⟨g,k*4+3,none⟩=some u:=jJ l (by omega);have z3:d.frozen? ⟨g,k*4+3,none⟩=false:=jK l;have aM:Hid (WrG B 2 w ((((d.setCell ⟨g,k*4,none⟩ (.int .i64 m)).setCell ⟨g,k*4+1,none⟩ (.int .i64 1)).setCell ⟨g,k*4+2,none⟩ (.int .i64 2)).setCell ⟨g,k*4+3,none⟩ (.int .i64 3)) b who (n+1) f (setF f 5 (.int .i64 (n+1))) K (.slice (some ⟨g,0,none⟩) len x3) len xs m (k+1)):=by
    have Z:=q.out;refine⟨((((Z.hs.setOther z).setOther z).setOther z).setOther z),?_,?_,Z.lent⟩
    ·have h9:=(iU (iU (iU (iU l (k*4) (.int .i64 m)) (k*4+1) (.int .i64 1)) (k*4+2) (.int .i64 2)) (k*4+3) (.int .i64 3));have R:=A2 m xs k len aC a7;rw [R]at h9;exact h9
    ·exact((((Z.fr).trans (Fr.set (Or.inr rfl))).trans (Fr.set (Or.inr rfl))).trans (Fr.set (Or.inr rfl))).trans (Fr.set (Or.inr rfl))
   have q0:(0:Int)<=(k:Int):=by omega
   have q1:(k:Int)<len:=by omega
   clear l z;go_wp2_with fail
   go_roundw
   case rel=>exact⟨k+1,by omega,by go_num,aM⟩
   case measure=>simp [intOf];omega
  ·have ek:k=len:=by omega
   have q1:(len:Int)<=(k:Int):=by omega
   have HS:Hid (∃ ah,KpG B 2 w d b who ah (n+1) m f (setF f 5 (.int .i64 (n+1))) K K (.slice x1 len x3) len 0 (fun g=>(Value.slice x1 len x3).ownBlock=some g)):=by
    have hi:=q.out;rw [ek]at hi;exact hi.kp (by omega) aC (by omega) HO.out
   clear q ek;go_wp2_with fail
   go_loopw [1,6] (fun lv' i w'=>∃ (k:Nat) (who':Nat->Role) (f':Nat->Value) (K':Nat->List (Value × Int)),k<=4/\i= .int .i64 k/\Hid (KpG B 2 w w' b who who' (n+1) m f f' K K' lv' (len+k) k (fun g=>(Value.slice x1 len x3).ownBlock=some g))) (fun _ i _=>4 - (intOf i).toNat)
   case atStart=>
    obtain⟨ah,h1⟩:=HS.out;exact⟨0,ah,_,K,by omega,rfl,ij h1⟩
   case round=>
    clear HS;obtain⟨j,who',f',K',hj,rfl,h⟩:=hrel;obtain⟨c,aB⟩:∃ c,c=wr:=⟨_,rfl⟩;rw [<-aB]at h ⊢;clear aB;have D:c.ownsRow B 29 1 (f' 10) (K' 2).length ((K' 2).map (·.1)):=h.out.hs.lst 2 (by omega);have rM:c.ownsRow B 3 1 (f' 11) (K' 2).length (ints ((K' 2).map (·.2))):=by have:=h.out.hs.mrk 2 (by omega);simpa [marksOf]using this
    have J:c.ownsRow B 28 4 u1 (len+j) (List.replicate (len+j) (elC m 2)).flatten:=h.out.cu.row;have aL:Hid ((K' 2).length=(K 2).length+j):=h.out.len;have c6:c.cell? ⟨b,10,none⟩=some (f' 10):=h.out.hs.blk.cell (by omega);have hbase:B<=c.heap.size:=by have:=h.out.hs.blk.lt;have:=(h.out.hs.dom b (by rw [h.out.hs.wb];simp)).1;omega
    obtain⟨x,l2,y,rfl⟩:=iw J;have a6:=iB J;subst a6;obtain⟨o1,o2,o3,T⟩:=iw D;rw [T]at D c6;have bd:=iB D;subst bd;have a1:(K' 2).length<=5000000000003\/¬j<4:=by have:=aL.out;omega
    have aN:=ij J;have am:=ij D;have L:=ij T;have aP:=ij rM;clear J D rM T;by_cases hj4:j<4
    ·have a1:(K' 2).length<=5000000000003:=by omega
     have z2:(j:Int)<4:=by omega
     have ar:(K' 2).length+1<=maxLen:=by unfold maxLen;omega
     have aZ:len+j+1<=maxLen:=by unfold maxLen;omega
     have P:Hid (∀ {o:Obj} {g6 c6:Nat} {w6:World},w6.ownsRow B 29 1 (.slice (some ⟨g6,0,none⟩) ((K' 2).length+1) c6) ((K' 2).length+1) ((K' 2).map (·.1)++[.slice x (len+j) y])->
       (((Value.slice o1 (K' 2).length o3).ownBlock=some g6/\(c.alloc o).grownBy w6 (some g6))\/(g6=c.heap.size+1/\(c.alloc o).grownBy w6 none))->
       HB w6 b f'/\∃ who'' f'',KpA B 2 w (w6.setCell ⟨b,10,none⟩ (.slice (some ⟨g6,0,none⟩) ((K' 2).length+1) c6)) b who who'' (n+1) m f f'' K K' (.slice x (len+j) y) (len+j) j (fun g=>(Value.slice x1 len x3).ownBlock=some g)/\f'' 11=f' 11):=by
      intro o g6 c6 w6 be key;rw [<-L.out]at key;exact h.out.push (by omega) be key
     generalize av:(K' 2).length=N at*;generalize a0:(K' 2).map (·.1)=L1 at*;have O:=ij av;clear av a0;go_upto_region 9 with (at_builtin;go_must (refine iE rfl _ _ _ rfl B 29 i1 _ 1 24 Tryz.underlying43 a4 bh bi bj rfl (by omega) (.slice o1 N o3) N L1 rfl (iG am.out) ⟨c.heap.size,0,none⟩ 1 1 [.slice x (len+j) y] rfl rfl (World.news_of_block (cs:= #[.slice x (len+j) y]) (t:=29) (fr:=(0,0)) (heap_alloc_new c _)) (by simp [Value.oneCell']) (by omega) ar (by omega) (by simp;omega) (c.heap.size+1) (by simp) ?_);intro g8 aR w8 Y ac ba;have V:=(P.out Y ac).1;have p6:w8.cell? ⟨b,10,none⟩=some (.slice o1 N o3):=(by rw [V.cell (by omega),L.out]);have p7:=V.frozen 10)
     obtain⟨_,who9,f9,p,R⟩:=P.out Y ac;generalize w8.setCell ⟨b,10,none⟩ (.slice (some ⟨g8,0,none⟩) (N+1) aR)=w9 at*;have M:=ij p;have C:w9.ownsRow B 3 1 (f9 11) N (ints ((K' 2).map (·.2))):=by
      have:=p.hs.mrk 2 (by omega);rw [<-O.out];simpa [marksOf]using this
     have c7:w9.cell? ⟨b,11,none⟩=some (f9 11):=p.hs.blk.cell (by omega);obtain⟨H,m2,I,S⟩:=iw C;rw [S]at C c7;have bb:=(iB C).symm;subst bb;have hbase9:B<=w9.heap.size:=by have:=p.hs.blk.lt;have:=(p.hs.dom b (by rw [p.hs.wb];simp)).1;omega
     have al:=ij C;have E:=ij S;clear Y ac V p6 p7 ba c6 p R P C S L am aP;go_upto_region 10 with (at_builtin;go_must (refine iE rfl _ _ _ rfl B 3 i2 _ 1 8 Tryz.underlying39 a5 bf bg aa rfl (by omega) (.slice H N I) N (ints ((K' 2).map (·.2))) rfl (iG al.out) ⟨w9.heap.size,0,none⟩ 1 1 [.int .i64 m] rfl rfl (World.news_of_block (cs:= #[.int .i64 m]) (t:=3) (fr:=(0,0)) (heap_alloc_new w9 _)) (by simp [Value.oneCell']) (by omega) ar (by omega) (by simp;omega) (w9.heap.size+1) (by simp) ?_);intro aU aQ aF X ab a8;have U:=(M.out.tell (by omega) (M1:=H) (M3:=I) E.out O.out X ab).1;have p6:aF.cell? ⟨b,11,none⟩=some (.slice H N I):=(by rw [U.cell (by omega),E.out]);have p7:=U.frozen 11)
     obtain⟨_,who11,f11,s⟩:=M.out.tell (by omega) (M1:=H) (M3:=I) E.out O.out X ab;generalize aF.setCell ⟨b,11,none⟩ (.slice (some ⟨aU,0,none⟩) (N+1) aQ)=w11 at*;have aJ:=ij s;have aO:Hid (w11.ownsRow B 28 4 (.slice x (len+j) y) (len+j) (List.replicate (len+j) (elC m 2)).flatten):=s.cu.row;have hbase11:B<=w11.heap.size:=by have:=s.hs.blk.lt;have:=(s.hs.dom b (by rw [s.hs.wb];simp)).1;omega
     clear X ab U p6 p7 a8 c7 s M al E aN;go_wp2_with (at_builtin;go_must (refine iE rfl _ _ _ rfl B 28 i0 _ 4 32 Tryz.underlying29 a3 bk bl bm rfl (by omega) (.slice x (len+j) y) (len+j) (List.replicate (len+j) (elC m 2)).flatten rfl (iG aO.out) ⟨w11.heap.size,0,none⟩ 1 1 [.int .i64 m,.int .i64 1,.int .i64 2,.int .i64 3] rfl rfl (World.news_of_block (cs:= #[.int .i64 m,.int .i64 1,.int .i64 2,.int .i64 3]) (t:=28) (fr:=(0,0)) (heap_alloc_new w11 _)) (by simp [Value.oneCell']) (by omega) aZ (by omega) (by simp;omega) (w11.heap.size+1) (by simp) ?_);intro g12 cap12 w12 ay aD a9;have aK:=ij (aJ.out.grow (by omega) (by omega) ay aD);clear ay aD a9)
     go_roundw
     case rel=>
      obtain⟨bt,aX⟩:=aK.out;exact⟨j+1,bt,_,_,by omega,by go_num,ij aX⟩
     case measure=>simp [intOf];omega
    ·have z2:(4:Int)<=(j:Int):=by omega
     have HE:Hid (∃ who' f' K',HsK B c b who' (n+1) f' K'/\After 2 w c who who' f f' K K' (fun g=>(Value.slice x1 len x3).ownBlock=some g)):=by
      have ej:j=4:=by omega
      have W:=h.out;rw [ej]at W;exact W.done
     go_wp2_with fail
     go_end0
     exact⟨⟨_,rfl⟩,HE.out⟩
end
end Go.Proofs.YtklenjmfalljgabGreatDoor
