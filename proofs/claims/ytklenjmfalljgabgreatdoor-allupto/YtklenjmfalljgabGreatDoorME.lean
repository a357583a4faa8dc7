/- The texts Hgn Hgd0 Hgv Hgd1 Hgd2 Hgs Tla Hgr Hgu Frm Frn Fro. -/
import Derived.Test.YtklenjmfalljgabGreatDoorMD
import Derived.ChangeKeysEq
import Derived.Control
import Derived.RowKit
namespace Go.Proofs.YtklenjmfalljgabGreatDoor
set_option maxRecDepth 100000
set_option maxHeartbeats 8000000
section
open Go.RowKit
theorem C0(a b c d:Int)(w:World):(Op.equalIn 10000 28(.agg #[.int .i64 a, .int .i64 b, .int .i64 c, .int .i64 d])(.agg #[.int .i64 a, .int .i64 b, .int .i64 c, .int .i64 d])).run Tryz.prog w= .ok true w:=by
 obtain⟨i0,aa,hz0,ab,hz2⟩:=info_parts kt;have hc:Tryz.prog.cellsOf 3=1:=by simp [Program.cellsOf,aa,ab]
 have hk:Tryz.prog.plainKey 3=true:=by simp [Program.plainKey,Tryz.underlying3]
 rw [show(10000:Nat)=9999+1 from rfl,run_equalIn_array w 9999 _ _(n:=4)(e:=3)(by first | exact Tryz.underlying28 | kernel_rfl)aa,hc];have he:∀ (d:Nat)(v:Int),(Op.equalIn(d+1)3(.int .i64 v)(.int .i64 v)).run Tryz.prog w= .ok true w:=fun d v=>by
  rw [run_equalIn_int w d _ _ .i64 v v Tryz.underlying3];simp
 have hq:=he 9998;simp only [Nat.reduceAdd]at hq;have p0:=run_part_plain w hk(xs:= #[.int .i64 a, .int .i64 b, .int .i64 c, .int .i64 d])(off:=0)rfl;have p1:=run_part_plain w hk(xs:= #[.int .i64 a, .int .i64 b, .int .i64 c, .int .i64 d])(off:=1)rfl;have p2:=run_part_plain w hk(xs:= #[.int .i64 a, .int .i64 b, .int .i64 c, .int .i64 d])(off:=2)rfl;have p3:=run_part_plain w hk(xs:= #[.int .i64 a, .int .i64 b, .int .i64 c, .int .i64 d])(off:=3)rfl;simp [List.range,List.range.loop,Op.eqItems,Sem.run_bind,p0,p1,p2,p3,hq,Result.andThen_ok]
attribute [local go_sem] Go.World.cell?_alloc_some C0
theorem py {c:Nat} {w:World} {who:Nat->Role} {v:Value} {m:Int}(h:KeptC c w who(v,m))(hc:c≠4):∃ xa xl xc,v= .slice xa xl xc/\xl<=1000/\∀ j,j<xl->∃ g,xa=some⟨g,0,none⟩/\∀ t u,(elC m c)[t]?=some u->w.cell?⟨g,j*(elC m c).length+t,none⟩=some u:=by
 rcases h with e | ⟨g,len,cap,e,hl,hin⟩
 ·exact⟨none,0,0,e,by omega,fun j hj=>by omega⟩
 ·exact⟨some⟨g,0,none⟩,len,cap,e,hl,fun j hj=>⟨g,rfl,(mt hc).1 hin j hj⟩⟩
theorem yG {w:World} {who:Nat->Role} {v:Value} {m:Int}(h:KeptC 4 w who(v,m)):∃ xa xl xc,v= .slice xa xl xc/\xl<=1000/\∀ j,j<xl->∃ g g' cap',xa=some⟨g,0,none⟩/\w.cell?⟨g,j,none⟩=some(.slice(some⟨g',0,none⟩)1 cap')/\w.heap[g']?=some(.cells(elC m 3).toArray 65(0,0)):=by
 rcases h with e | ⟨g,len,cap,e,hl,hin⟩
 ·exact⟨none,0,0,e,by omega,fun j hj=>by omega⟩
 ·refine⟨some⟨g,0,none⟩,len,cap,e,hl,fun j hj=> ?_⟩;obtain⟨g',cap',h1,h2,_⟩:=mS.1 hin j hj;exact⟨g,g',cap',rfl,h1,h2⟩
theorem oP {w:World} {B:Nat} {T:TypeId} {v u:Value} {L:List(Value × Int)}(h1:w.ownsRow B T 1 v L.length(L.map(·.1)))(h2:w.ownsRow B 3 1 u L.length(iI(L.map(·.2)))) {i:Nat}(hi:i<L.length):
  ∃ g c g' c',v= .slice(some⟨g,0,none⟩)L.length c/\u= .slice(some⟨g',0,none⟩)L.length c'/\w.cell?⟨g,i,none⟩=some L[i].1/\w.cell?⟨g',i,none⟩=some(.int .i64 L[i].2):=by
 obtain⟨g,c,e,_,_⟩:=h1.form(by omega);obtain⟨g',c',e',_,_⟩:=h2.form(by omega);refine⟨g,c,g',c',e,e', ?_, ?_⟩
 ·rw [e]at h1;rw [h1.cellAt i(by omega)];simp [hi]
 ·rw [e']at h2;rw [h2.cellAt i(by omega)];simp [iI,hi]
theorem qN(B:Nat)(w:World)(b:Nat)(who:Nat->Role)(n:Int)(f:Nat->Value)(K:Nat->List(Value × Int))(hH:HsK B w b who n f K)(hK:∀ c,c<5->(K c).length<=6000000000000):
  Calls Tryz.prog 27 #[pt b]w fun e w'=>e= .returned(.bool true)/\jr w' w:=by
 have HH:=hZ hH;have bA:pt b= .pointer(some⟨b,0,none⟩):=rfl;rw [bA];have hK0:=hK 0(by omega);have an:w.ownsRow B 39 1(f 6)(K 0).length((K 0).map(·.1)):=hH.1.lst 0(by omega);have ax:w.ownsRow B 3 1(f 7)(K 0).length(iI((K 0).map(·.2))):=by have:=hH.1.mrk 0(by omega);simpa [jk]using this
 have bJ:=hZ an;have bL:=hZ ax;have a2:=hH.1.blk.cell(o:=6)(by omega);have aO:=hH.1.blk.cell(o:=7)(by omega);obtain⟨bZ,lb0,bz,bb⟩:=iq an;obtain⟨ma0,mb0,bG,aR⟩:=iq ax;rw [bb]at a2 an;rw [aR]at aO ax;have bq:=iy an;have aS:=iy ax;subst bq aS;have ay:=hZ a2;have bi:=hZ aO;have ba:=hZ bb;have bg:=hZ aR;have aW:=hZ(fun x hx=>(hH.1.kept 0(by omega)x hx).1);clear an ax a2 aO bb aR;have hK1:=hK 1(by omega);have aw:w.ownsRow B 27 1(f 8)(K 1).length((K 1).map(·.1)):=hH.1.lst 1(by omega);have am:w.ownsRow B 3 1(f 9)(K 1).length(iI((K 1).map(·.2))):=by have:=hH.1.mrk 1(by omega);simpa [jk]using this
 have bM:=hZ aw;have bD:=hZ am;have aG:=hH.1.blk.cell(o:=8)(by omega);have a8:=hH.1.blk.cell(o:=9)(by omega);obtain⟨bP,lb1,bw,a7⟩:=iq aw;obtain⟨ma1,mb1,bH,bm⟩:=iq am;rw [a7]at aG aw;rw [bm]at a8 am;have aT:=iy aw;have aK:=iy am;subst aT aK;have aC:=hZ aG;have aH:=hZ a8;have br:=hZ a7;have a0:=hZ bm;have bc:=hZ(fun x hx=>(hH.1.kept 1(by omega)x hx).1);clear aw am aG a8 a7 bm;have hK2:=hK 2(by omega);have aq:w.ownsRow B 29 1(f 10)(K 2).length((K 2).map(·.1)):=hH.1.lst 2(by omega);have ar:w.ownsRow B 3 1(f 11)(K 2).length(iI((K 2).map(·.2))):=by have:=hH.1.mrk 2(by omega);simpa [jk]using this
 have bY:=hZ aq;have bO:=hZ ar;have a3:=hH.1.blk.cell(o:=10)(by omega);have bk:=hH.1.blk.cell(o:=11)(by omega);obtain⟨bC,lb2,bv,aY⟩:=iq aq;obtain⟨ma2,mb2,bF,bd⟩:=iq ar;rw [aY]at a3 aq;rw [bd]at bk ar;have aI:=iy aq;have aN:=iy ar;subst aI aN;have ao:=hZ a3;have bo:=hZ bk;have bn:=hZ aY;have aU:=hZ bd;have a9:=hZ(fun x hx=>(hH.1.kept 2(by omega)x hx).1);clear aq ar a3 bk aY bd;have hK3:=hK 3(by omega);have ap:w.ownsRow B 66 1(f 12)(K 3).length((K 3).map(·.1)):=hH.1.lst 3(by omega);have az:w.ownsRow B 3 1(f 13)(K 3).length(iI((K 3).map(·.2))):=by have:=hH.1.mrk 3(by omega);simpa [jk]using this
 have bR:=hZ ap;have bI:=hZ az;have aX:=hH.1.blk.cell(o:=12)(by omega);have bu:=hH.1.blk.cell(o:=13)(by omega);obtain⟨bX,lb3,bx,aQ⟩:=iq ap;obtain⟨ma3,mb3,bS,aZ⟩:=iq az;rw [aQ]at aX ap;rw [aZ]at bu az;have bl:=iy ap;have bj:=iy az;subst bl bj;have av:=hZ aX;have aL:=hZ bu;have aJ:=hZ aQ;have aF:=hZ aZ;have bf:=hZ(fun x hx=>(hH.1.kept 3(by omega)x hx).1);clear ap az aX bu aQ aZ;have hK4:=hK 4(by omega);have aA:w.ownsRow B 35 1(f 14)(K 4).length((K 4).map(·.1)):=hH.1.lst 4(by omega);have au:w.ownsRow B 3 1(f 15)(K 4).length(iI((K 4).map(·.2))):=by have:=hH.1.mrk 4(by omega);simpa [jk]using this
 have bN:=hZ aA;have bE:=hZ au;have bh:=hH.1.blk.cell(o:=14)(by omega);have a5:=hH.1.blk.cell(o:=15)(by omega);obtain⟨bK,lb4,bB,be⟩:=iq aA;obtain⟨ma4,mb4,bV,bt⟩:=iq au;rw [be]at bh aA;rw [bt]at a5 au;have aV:=iy aA;have bp:=iy au;subst aV bp;have aD:=hZ bh;have aM:=hZ a5;have a1:=hZ be;have aP:=hZ bt;have a6:=hZ(fun x hx=>(hH.1.kept 4(by omega)x hx).1);clear aA au bh a5 be bt;have ab:Hid(∀ w',jr w' w->∀ a,w'.cell? a=w.cell? a):=fun w' hl a=>by simp [World.cell?,hl.1]
 clear hH hK bA;have qK0:((K 0).length:Int)<=6000000000000:=by omega
 generalize bW:K 0=L0 at*;clear bW;have qK1:((K 1).length:Int)<=6000000000000:=by omega
 generalize bU:K 1=L1 at*;clear bU;have qK2:((K 2).length:Int)<=6000000000000:=by omega
 generalize b0:K 2=L2 at*;clear b0;have qK3:((K 3).length:Int)<=6000000000000:=by omega
 generalize bT:K 3=L3 at*;clear bT;have qK4:((K 4).length:Int)<=6000000000000:=by omega
 generalize bQ:K 4=L4 at*;clear bQ;go_enter Tryz.func27,Tryz.ntmps27
 go_wp2_with fail
 go_loopw [3](fun i w'=>∃ k:Nat,k<=L0.length/\i= .int .i64 k/\Hid(jr w' w))(fun i _=>L0.length - (intOf i).toNat)
 case atStart=>exact⟨0,Nat.zero_le _,rfl,hZ(jp _)⟩
 case round=>
  skip
  obtain⟨k,hk,rfl,ac⟩:=hrel;obtain⟨w5,ae⟩:∃ w5,w5=wr:=⟨_,rfl⟩;rw [<-ae]at ac ⊢;clear ae;have e6:w5.cell?⟨b,6,none⟩=some(.slice bZ L0.length bz):=by rw [ab.out w5 ac.out];exact ay.out
  by_cases af:k<L0.length
  ·obtain⟨og,oc,mg,mc,eo,em,d0,d1⟩:=oP bJ.out bL.out af;rw [ba.out]at eo;rw [bg.out]at em;simp only [Value.slice.injEq,true_and]at eo em;obtain⟨rfl,rfl⟩:=eo;obtain⟨rfl,rfl⟩:=em;have ai:=hZ(aW.out L0[k](List.getElem_mem af));have q0:(0:Int)<=(k:Int):=by omega
   have q1:(k:Int)<L0.length:=by omega
   generalize L0[k]=x at*;obtain⟨xv,xm⟩:=x;simp only at d0 d1;obtain⟨xa,xl,xc,ak,aE,ag⟩:=py ai.out(by omega);subst ak;have aj:=hZ ag;clear ag ai;have e7:w5.cell?⟨og,k,none⟩=some(.slice xa xl xc):=by rw [ab.out w5 ac.out];exact d0
   have qx:(xl:Int)<=1000:=by omega
   go_wp2_with fail
   go_loopw [4](fun i w'=>∃ j:Nat,j<=xl/\i= .int .i64 j/\Hid(jr w' w))(fun i _=>xl - (intOf i).toNat)
   case atStart=>exact⟨0,Nat.zero_le _,rfl,ac⟩
   case round=>
    clear e6 e7 ac;obtain⟨j,hj,rfl,aa⟩:=hrel;obtain⟨w7,ah⟩:∃ w7,w7=wr:=⟨_,rfl⟩;rw [<-ah]at aa ⊢;clear ah;have f6:w7.cell?⟨b,6,none⟩=some(.slice(some⟨og,0,none⟩)L0.length bz):=by rw [ab.out w7 aa.out];exact ay.out
    have f7:w7.cell?⟨b,7,none⟩=some(.slice(some⟨mg,0,none⟩)L0.length bG):=by rw [ab.out w7 aa.out];exact bi.out
    have k0:w7.cell?⟨og,k,none⟩=some(.slice xa xl xc):=by rw [ab.out w7 aa.out];exact d0
    have k1:w7.cell?⟨mg,k,none⟩=some(.int .i64 xm):=by rw [ab.out w7 aa.out];exact d1
    by_cases al:j<xl
    ·obtain⟨g,rfl,ad⟩:=aj.out j al;have g0:w7.cell?⟨g,j,none⟩=some(.int .i64 xm):=by rw [ab.out w7 aa.out];exact(by simpa [elC]using ad 0 _ rfl)
     have q2:(0:Int)<=(j:Int):=by omega
     have q3:(j:Int)<xl:=by omega
     clear ad d0 d1;go_wp2_with fail
     go_quiet(fail)
     go_wp2_with fail
     go_roundw
     case rel=>exact⟨j+1,by omega,by go_num,hZ(jR aa.out _)⟩
     case measure=>simp [intOf];omega
    ·have q3:(xl:Int)<=(j:Int):=by omega
     clear d0 d1;go_wp2_with fail
     go_roundw
     case rel=>exact⟨k+1,by omega,by go_num,aa⟩
     case measure=>simp [intOf];omega
  ·have q1:(L0.length:Int)<=(k:Int):=by omega
   go_wp2_with fail
   go_loopw [5](fun i w'=>∃ k:Nat,k<=L1.length/\i= .int .i64 k/\Hid(jr w' w))(fun i _=>L1.length - (intOf i).toNat)
   case atStart=>exact⟨0,Nat.zero_le _,rfl,ac⟩
   case round=>
    clear ac;obtain⟨k,hk,rfl,ac⟩:=hrel;obtain⟨w5,ae⟩:∃ w5,w5=wr:=⟨_,rfl⟩;rw [<-ae]at ac ⊢;clear ae;have e6:w5.cell?⟨b,8,none⟩=some(.slice bP L1.length bw):=by rw [ab.out w5 ac.out];exact aC.out
    by_cases af:k<L1.length
    ·obtain⟨og,oc,mg,mc,eo,em,d0,d1⟩:=oP bM.out bD.out af;rw [br.out]at eo;rw [a0.out]at em;simp only [Value.slice.injEq,true_and]at eo em;obtain⟨rfl,rfl⟩:=eo;obtain⟨rfl,rfl⟩:=em;have ai:=hZ(bc.out L1[k](List.getElem_mem af));have q0:(0:Int)<=(k:Int):=by omega
     have q1:(k:Int)<L1.length:=by omega
     generalize L1[k]=x at*;obtain⟨xv,xm⟩:=x;simp only at d0 d1;obtain⟨xa,xl,xc,ak,aE,ag⟩:=py ai.out(by omega);subst ak;have aj:=hZ ag;clear ag ai;have e7:w5.cell?⟨og,k,none⟩=some(.slice xa xl xc):=by rw [ab.out w5 ac.out];exact d0
     have qx:(xl:Int)<=1000:=by omega
     go_wp2_with fail
     go_loopw [6](fun i w'=>∃ j:Nat,j<=xl/\i= .int .i64 j/\Hid(jr w' w))(fun i _=>xl - (intOf i).toNat)
     case atStart=>exact⟨0,Nat.zero_le _,rfl,ac⟩
     case round=>
      clear e6 e7 ac;obtain⟨j,hj,rfl,aa⟩:=hrel;obtain⟨w7,ah⟩:∃ w7,w7=wr:=⟨_,rfl⟩;rw [<-ah]at aa ⊢;clear ah;have f6:w7.cell?⟨b,8,none⟩=some(.slice(some⟨og,0,none⟩)L1.length bw):=by rw [ab.out w7 aa.out];exact aC.out
      have f7:w7.cell?⟨b,9,none⟩=some(.slice(some⟨mg,0,none⟩)L1.length bH):=by rw [ab.out w7 aa.out];exact aH.out
      have k0:w7.cell?⟨og,k,none⟩=some(.slice xa xl xc):=by rw [ab.out w7 aa.out];exact d0
      have k1:w7.cell?⟨mg,k,none⟩=some(.int .i64 xm):=by rw [ab.out w7 aa.out];exact d1
      by_cases al:j<xl
      ·obtain⟨g,rfl,ad⟩:=aj.out j al;have g0:w7.cell?⟨g,j*2,none⟩=some(.int .i64 xm):=by rw [ab.out w7 aa.out];exact ad 0 _ rfl
       have g1:w7.cell?⟨g,j*2+1,none⟩=some(.int .i64 0):=by rw [ab.out w7 aa.out];exact ad 1 _ rfl
       have q2:(0:Int)<=(j:Int):=by omega
       have q3:(j:Int)<xl:=by omega
       clear ad d0 d1;go_wp2_with fail
       go_quiet(fail)
       go_wp2_with fail
       go_roundw
       case rel=>exact⟨j+1,by omega,by go_num,hZ(jR aa.out _)⟩
       case measure=>simp [intOf];omega
      ·have q3:(xl:Int)<=(j:Int):=by omega
       clear d0 d1;go_wp2_with fail
       go_roundw
       case rel=>exact⟨k+1,by omega,by go_num,aa⟩
       case measure=>simp [intOf];omega
    ·have q1:(L1.length:Int)<=(k:Int):=by omega
     go_wp2_with fail
     go_loopw [7](fun i w'=>∃ k:Nat,k<=L2.length/\i= .int .i64 k/\Hid(jr w' w))(fun i _=>L2.length - (intOf i).toNat)
     case atStart=>exact⟨0,Nat.zero_le _,rfl,ac⟩
     case round=>
      clear ac;obtain⟨k,hk,rfl,ac⟩:=hrel;obtain⟨w5,ae⟩:∃ w5,w5=wr:=⟨_,rfl⟩;rw [<-ae]at ac ⊢;clear ae;have e6:w5.cell?⟨b,10,none⟩=some(.slice bC L2.length bv):=by rw [ab.out w5 ac.out];exact ao.out
      by_cases af:k<L2.length
      ·obtain⟨og,oc,mg,mc,eo,em,d0,d1⟩:=oP bY.out bO.out af;rw [bn.out]at eo;rw [aU.out]at em;simp only [Value.slice.injEq,true_and]at eo em;obtain⟨rfl,rfl⟩:=eo;obtain⟨rfl,rfl⟩:=em;have ai:=hZ(a9.out L2[k](List.getElem_mem af));have q0:(0:Int)<=(k:Int):=by omega
       have q1:(k:Int)<L2.length:=by omega
       generalize L2[k]=x at*;obtain⟨xv,xm⟩:=x;simp only at d0 d1;obtain⟨xa,xl,xc,ak,aE,ag⟩:=py ai.out(by omega);subst ak;have aj:=hZ ag;clear ag ai;have e7:w5.cell?⟨og,k,none⟩=some(.slice xa xl xc):=by rw [ab.out w5 ac.out];exact d0
       have qx:(xl:Int)<=1000:=by omega
       go_wp2_with fail
       go_loopw [8](fun i w'=>∃ j:Nat,j<=xl/\i= .int .i64 j/\Hid(jr w' w))(fun i _=>xl - (intOf i).toNat)
       case atStart=>exact⟨0,Nat.zero_le _,rfl,ac⟩
       case round=>
        clear e6 e7 ac;obtain⟨j,hj,rfl,aa⟩:=hrel;obtain⟨w7,ah⟩:∃ w7,w7=wr:=⟨_,rfl⟩;rw [<-ah]at aa ⊢;clear ah;have f6:w7.cell?⟨b,10,none⟩=some(.slice(some⟨og,0,none⟩)L2.length bv):=by rw [ab.out w7 aa.out];exact ao.out
        have f7:w7.cell?⟨b,11,none⟩=some(.slice(some⟨mg,0,none⟩)L2.length bF):=by rw [ab.out w7 aa.out];exact bo.out
        have k0:w7.cell?⟨og,k,none⟩=some(.slice xa xl xc):=by rw [ab.out w7 aa.out];exact d0
        have k1:w7.cell?⟨mg,k,none⟩=some(.int .i64 xm):=by rw [ab.out w7 aa.out];exact d1
        by_cases al:j<xl
        ·obtain⟨g,rfl,ad⟩:=aj.out j al;have g0:w7.cell?⟨g,j*4,none⟩=some(.int .i64 xm):=by rw [ab.out w7 aa.out];exact ad 0 _ rfl
         have g1:w7.cell?⟨g,j*4+1,none⟩=some(.int .i64 1):=by rw [ab.out w7 aa.out];exact ad 1 _ rfl
         have g2:w7.cell?⟨g,j*4+2,none⟩=some(.int .i64 2):=by rw [ab.out w7 aa.out];exact ad 2 _ rfl
         have g3:w7.cell?⟨g,j*4+3,none⟩=some(.int .i64 3):=by rw [ab.out w7 aa.out];exact ad 3 _ rfl
         have q2:(0:Int)<=(j:Int):=by omega
         have q3:(j:Int)<xl:=by omega
         clear ad d0 d1;go_wp2_with fail
         go_quiet(fail)
         go_wp2_with fail
         go_roundw
         case rel=>exact⟨j+1,by omega,by go_num,hZ(jR aa.out _)⟩
         case measure=>simp [intOf];omega
        ·have q3:(xl:Int)<=(j:Int):=by omega
         clear d0 d1;go_wp2_with fail
         go_roundw
         case rel=>exact⟨k+1,by omega,by go_num,aa⟩
         case measure=>simp [intOf];omega
      ·have q1:(L2.length:Int)<=(k:Int):=by omega
       go_wp2_with fail
       go_loopw [9](fun i w'=>∃ k:Nat,k<=L3.length/\i= .int .i64 k/\Hid(jr w' w))(fun i _=>L3.length - (intOf i).toNat)
       case atStart=>exact⟨0,Nat.zero_le _,rfl,ac⟩
       case round=>
        clear ac;obtain⟨k,hk,rfl,ac⟩:=hrel;obtain⟨w5,ae⟩:∃ w5,w5=wr:=⟨_,rfl⟩;rw [<-ae]at ac ⊢;clear ae;have e6:w5.cell?⟨b,12,none⟩=some(.slice bX L3.length bx):=by rw [ab.out w5 ac.out];exact av.out
        by_cases af:k<L3.length
        ·obtain⟨og,oc,mg,mc,eo,em,d0,d1⟩:=oP bR.out bI.out af;rw [aJ.out]at eo;rw [aF.out]at em;simp only [Value.slice.injEq,true_and]at eo em;obtain⟨rfl,rfl⟩:=eo;obtain⟨rfl,rfl⟩:=em;have ai:=hZ(bf.out L3[k](List.getElem_mem af));have q0:(0:Int)<=(k:Int):=by omega
         have q1:(k:Int)<L3.length:=by omega
         generalize L3[k]=x at*;obtain⟨xv,xm⟩:=x;simp only at d0 d1;obtain⟨xa,xl,xc,ak,aE,ag⟩:=py ai.out(by omega);subst ak;have aj:=hZ ag;clear ag ai;have e7:w5.cell?⟨og,k,none⟩=some(.slice xa xl xc):=by rw [ab.out w5 ac.out];exact d0
         have qx:(xl:Int)<=1000:=by omega
         go_wp2_with fail
         go_loopw [10](fun i w'=>∃ j:Nat,j<=xl/\i= .int .i64 j/\Hid(jr w' w))(fun i _=>xl - (intOf i).toNat)
         case atStart=>exact⟨0,Nat.zero_le _,rfl,ac⟩
         case round=>
          clear e6 e7 ac;obtain⟨j,hj,rfl,aa⟩:=hrel;obtain⟨w7,ah⟩:∃ w7,w7=wr:=⟨_,rfl⟩;rw [<-ah]at aa ⊢;clear ah;have f6:w7.cell?⟨b,12,none⟩=some(.slice(some⟨og,0,none⟩)L3.length bx):=by rw [ab.out w7 aa.out];exact av.out
          have f7:w7.cell?⟨b,13,none⟩=some(.slice(some⟨mg,0,none⟩)L3.length bS):=by rw [ab.out w7 aa.out];exact aL.out
          have k0:w7.cell?⟨og,k,none⟩=some(.slice xa xl xc):=by rw [ab.out w7 aa.out];exact d0
          have k1:w7.cell?⟨mg,k,none⟩=some(.int .i64 xm):=by rw [ab.out w7 aa.out];exact d1
          by_cases al:j<xl
          ·obtain⟨g,rfl,ad⟩:=aj.out j al;have g0:w7.cell?⟨g,j*4,none⟩=some(.int .i64 xm):=by rw [ab.out w7 aa.out];exact ad 0 _ rfl
           have g1:w7.cell?⟨g,j*4+1,none⟩=some(.int .i64 0):=by rw [ab.out w7 aa.out];exact ad 1 _ rfl
           have g2:w7.cell?⟨g,j*4+2,none⟩=some(.int .i64 0):=by rw [ab.out w7 aa.out];exact ad 2 _ rfl
           have g3:w7.cell?⟨g,j*4+3,none⟩=some(.int .i64 0):=by rw [ab.out w7 aa.out];exact ad 3 _ rfl
           have q2:(0:Int)<=(j:Int):=by omega
           have q3:(j:Int)<xl:=by omega
           clear ad d0 d1;go_wp2_with fail
           go_quiet(fail)
           go_wp2_with fail
           go_roundw
           case rel=>exact⟨j+1,by omega,by go_num,hZ(jR aa.out _)⟩
           case measure=>simp [intOf];omega
          ·have q3:(xl:Int)<=(j:Int):=by omega
           clear d0 d1;go_wp2_with fail
           go_roundw
           case rel=>exact⟨k+1,by omega,by go_num,aa⟩
           case measure=>simp [intOf];omega
        ·have q1:(L3.length:Int)<=(k:Int):=by omega
         go_wp2_with fail
         go_loopw [11](fun i w'=>∃ k:Nat,k<=L4.length/\i= .int .i64 k/\Hid(jr w' w))(fun i _=>L4.length - (intOf i).toNat)
         case atStart=>exact⟨0,Nat.zero_le _,rfl,ac⟩
         case round=>
          clear ac;obtain⟨k,hk,rfl,ac⟩:=hrel;obtain⟨w5,ae⟩:∃ w5,w5=wr:=⟨_,rfl⟩;rw [<-ae]at ac ⊢;clear ae;have e6:w5.cell?⟨b,14,none⟩=some(.slice bK L4.length bB):=by rw [ab.out w5 ac.out];exact aD.out
          by_cases af:k<L4.length
          ·obtain⟨og,oc,mg,mc,eo,em,d0,d1⟩:=oP bN.out bE.out af;rw [a1.out]at eo;rw [aP.out]at em;simp only [Value.slice.injEq,true_and]at eo em;obtain⟨rfl,rfl⟩:=eo;obtain⟨rfl,rfl⟩:=em;have ai:=hZ(a6.out L4[k](List.getElem_mem af));have q0:(0:Int)<=(k:Int):=by omega
           have q1:(k:Int)<L4.length:=by omega
           generalize L4[k]=x at*;obtain⟨xv,xm⟩:=x;simp only at d0 d1;obtain⟨xa,xl,xc,ak,aE,ag⟩:=yG ai.out;subst ak;have aj:=hZ ag;clear ag ai;have e7:w5.cell?⟨og,k,none⟩=some(.slice xa xl xc):=by rw [ab.out w5 ac.out];exact d0
           have qx:(xl:Int)<=1000:=by omega
           go_wp2_with fail
           go_loopw [12](fun i w'=>∃ j:Nat,j<=xl/\i= .int .i64 j/\Hid(jr w' w))(fun i _=>xl - (intOf i).toNat)
           case atStart=>exact⟨0,Nat.zero_le _,rfl,ac⟩
           case round=>
            clear e6 e7 ac;obtain⟨j,hj,rfl,aa⟩:=hrel;obtain⟨w7,ah⟩:∃ w7,w7=wr:=⟨_,rfl⟩;rw [<-ah]at aa ⊢;clear ah;have f6:w7.cell?⟨b,14,none⟩=some(.slice(some⟨og,0,none⟩)L4.length bB):=by rw [ab.out w7 aa.out];exact aD.out
            have f7:w7.cell?⟨b,15,none⟩=some(.slice(some⟨mg,0,none⟩)L4.length bV):=by rw [ab.out w7 aa.out];exact aM.out
            have k0:w7.cell?⟨og,k,none⟩=some(.slice xa xl xc):=by rw [ab.out w7 aa.out];exact d0
            have k1:w7.cell?⟨mg,k,none⟩=some(.int .i64 xm):=by rw [ab.out w7 aa.out];exact d1
            by_cases al:j<xl
            ·obtain⟨g,g',a4,rfl,ad,aB⟩:=aj.out j al;have g0:w7.cell?⟨g,j,none⟩=some(.slice(some⟨g',0,none⟩)1 a4):=by rw [ab.out w7 aa.out];exact ad
             have g1:w7.cell?⟨g',0,none⟩=some(.int .i64 xm):=by rw [ab.out w7 aa.out];simp [World.cell?,aB,elC]
             have g2:w7.cell?⟨g',1,none⟩=some(.int .i64 0):=by rw [ab.out w7 aa.out];simp [World.cell?,aB,elC]
             have g3:w7.cell?⟨g',2,none⟩=some(.int .i64 0):=by rw [ab.out w7 aa.out];simp [World.cell?,aB,elC]
             have g4:w7.cell?⟨g',3,none⟩=some(.int .i64 0):=by rw [ab.out w7 aa.out];simp [World.cell?,aB,elC]
             have q2:(0:Int)<=(j:Int):=by omega
             have q3:(j:Int)<xl:=by omega
             clear ad aB d0 d1;go_wp2_with fail
             go_quiet(fail)
             go_wp2_with fail
             go_roundw
             case rel=>exact⟨j+1,by omega,by go_num,hZ(jR aa.out _)⟩
             case measure=>simp [intOf];omega
            ·have q3:(xl:Int)<=(j:Int):=by omega
             clear d0 d1;go_wp2_with fail
             go_roundw
             case rel=>exact⟨k+1,by omega,by go_num,aa⟩
             case measure=>simp [intOf];omega
          ·have q1:(L4.length:Int)<=(k:Int):=by omega
           go_wp2_with fail
           go_ret;exact⟨rfl,ac.out⟩
end
section
open Go.RowKit
attribute [local go_sem] Go.World.cell?_alloc_some
theorem Eo(m:Int)(xs:List Value)(k len:Nat)(hx:xs.length=len*1)(hk:k<len):(((List.replicate k(elC m 0)).flatten++xs.drop(k*1)).set(k)(.int .i64 m))=(List.replicate(k+1)(elC m 0)).flatten++xs.drop((k+1)*1):=by
 obtain⟨ys,hy⟩:∃ ys,ys=(List.replicate k(elC m 0)).flatten:=⟨_,rfl⟩;have hyl:ys.length=k*1:=by rw [hy];exact mq _ _
 rw [<-lf,<-hy];have h1:1<=(xs.drop(k*1)).length:=by rw [List.length_drop];omega
 have h2:xs.drop((k+1)*1)=(xs.drop(k*1)).drop 1:=by rw [List.drop_drop];congr 1<;>omega
 rw [h2];generalize xs.drop(k*1)=zs at h1;obtain⟨z0,aa,rfl⟩:∃ z0 aa,zs=z0::aa:=by
  match zs,h1 with
  | z0::aa,_=>exact⟨z0,aa,rfl⟩
 rw [List.set_append,if_neg(by omega)];have e:k - ys.length=0:=by omega
 rw [e];simp [elC]
theorem oB(B:Nat)(w:World)(b:Nat)(who:Nat->Role)(n:Int)(f:Nat->Value)(K:Nat->List(Value × Int))(lv:Value)(len:Nat)(xs:List Value)(hH:HsK B w b who n f K)(hl:w.ownsRow B 3 1 lv len xs)(ho:∀ g,lv.ownBlock=some g->who g= .other)
  (a2:0<=n)(hn1:n<=10000000000000)(hK:(K 0).length<=5000000000000)(ha:len<=900):
  Calls Tryz.prog 31 #[pt b,lv]w fun e w'=>(∃ v,e= .returned v)/\∃ who' f' K',HsK B w' b who'(n+1)f' K'/\oK 0 w w' who who' f f' K K'(fun g=>lv.ownBlock=some g):=by
 obtain⟨i0,bc,a0,a1,aW⟩:=info_parts kt;obtain⟨i1,aU,a6,ba,be⟩:=info_parts uS;obtain⟨i2,aS,bd,a3,ax⟩:=info_parts kt;have aP:=hl.1;obtain⟨x1,x2,x3,rfl⟩:=iq hl;have ax:=(iy hl).symm;subst ax;have HM:=hZ(tk hH.1 a2(by omega));have HO:=hZ ho;have H0:Hid(WrG B 0 w(w.setCell⟨b,5,none⟩(.int .i64(n+1)))b who(n+1)f(lC f 5(.int .i64(n+1)))K(.slice x1 len x3)len xs(-77000000 - (n+1))0):=by
  refine⟨⟨hH.1.setCnt _,hH.2⟩, ?_, ?_,fun o ho=>iT _ _(by omega)⟩
  ·have a4:(Value.slice x1 len x3).ownBlock≠some b:=fun e=>by have:=ho b e;rw [hH.1.wb]at this;cases this
   have h5:=ownsRow_setCell_other(a:=⟨b,5,none⟩)hl a4(.int .i64(n+1));have e5:(List.replicate 0(elC(-77000000 - (n+1))0)).flatten++xs.drop(0*(elC(-77000000 - (n+1))0).length)=xs:=by simp
   rw [e5];exact h5
  ·exact Fr.set(Or.inl(by rw [hH.1.wb];simp))
 have aN:pt b= .pointer(some⟨b,0,none⟩):=rfl;rw [aN]at*;clear hH hl ho aN;generalize hm: -77000000 - (n+1)=m at*;have HMM:=hZ hm;clear hm;go_enter Tryz.func31,Tryz.ntmps31
 go_wp2_with(go_at_call 55;refine HM.out.mono ?_;rintro e w1⟨rfl,rfl⟩)
 go_loopw [5](fun i w'=>∃ k:Nat,k<=len/\i= .int .i64 k/\Hid(WrG B 0 w w' b who(n+1)f(lC f 5(.int .i64(n+1)))K(.slice x1 len x3)len xs m k))(fun i _=>len - (intOf i).toNat)
 case atStart=>exact⟨0,Nat.zero_le _,rfl,H0⟩
 case round=>
  clear H0 HM;obtain⟨k,hk,rfl,HI⟩:=hrel;obtain⟨w5,aJ⟩:∃ w5,w5=wr:=⟨_,rfl⟩;rw [<-aJ]at HI ⊢;clear aJ;by_cases aV:k<len
  ·obtain⟨g,cp,e0,_,_⟩:=HI.out.row.form(by omega);have ac:w5.ownsRow B 3 1(.slice x1 len x3)len((List.replicate k(elC m 0)).flatten++xs.drop(k*1)):=HI.out.row;rw [e0]at ac;simp only [Value.slice.injEq,true_and]at e0;obtain⟨rfl,rfl⟩:=e0;have aI:=HO.out g rfl;obtain⟨u0,y0⟩:∃ u,w5.cell?⟨g,k,none⟩=some u:=lS ac(by omega);have z0:w5.frozen?⟨g,k,none⟩=false:=lO ac;have aT:Hid(WrG B 0 w(w5.setCell⟨g,k,none⟩(.int .i64 m))b who(n+1)f(lC f 5(.int .i64(n+1)))K(.slice(some⟨g,0,none⟩)len x3)len xs m(k+1)):=by
    have hs:=HI.out;refine⟨(hs.hs.setOther aI), ?_, ?_,hs.lent⟩
    ·have h9:=(jo ac(k)(.int .i64 m));have e9:=Eo m xs k len aP aV;rw [e9]at h9;exact h9
    ·exact(hs.fr).trans(Fr.set(Or.inr rfl))
   have q0:(0:Int)<=(k:Int):=by omega
   have q1:(k:Int)<len:=by omega
   clear ac aI;go_wp2_with fail
   go_roundw
   case rel=>exact⟨k+1,by omega,by go_num,aT⟩
   case measure=>simp [intOf];omega
  ·have ek:k=len:=by omega
   have q1:(len:Int)<=(k:Int):=by omega
   have HS:Hid(∃ aj,KpG B 0 w w5 b who aj(n+1)m f(lC f 5(.int .i64(n+1)))K K(.slice x1 len x3)len 0(fun g=>(Value.slice x1 len x3).ownBlock=some g)):=by
    have hi:=HI.out;rw [ek]at hi;exact hi.kp(by omega)aP(by omega)HO.out
   clear HI ek;go_wp2_with fail
   go_loopw [1,6](fun lv' i w'=>∃ (k:Nat)(who':Nat->Role)(f':Nat->Value)(K':Nat->List(Value × Int)),k<=4/\i= .int .i64 k/\Hid(KpG B 0 w w' b who who'(n+1)m f f' K K' lv'(len+k)k(fun g=>(Value.slice x1 len x3).ownBlock=some g)))(fun _ i _=>4 - (intOf i).toNat)
   case atStart=>
    obtain⟨aj,h1⟩:=HS.out;exact⟨0,aj,_,K,by omega,rfl,hZ h1⟩
   case round=>
    clear HS;obtain⟨j,who',f',K',hj,rfl,HK⟩:=hrel;obtain⟨w7,aM⟩:∃ w7,w7=wr:=⟨_,rfl⟩;rw [<-aM]at HK ⊢;clear aM;have rO:w7.ownsRow B 39 1(f' 6)(K' 0).length((K' 0).map(·.1)):=HK.out.hs.lst 0(by omega);have rM:w7.ownsRow B 3 1(f' 7)(K' 0).length(iI((K' 0).map(·.2))):=by have:=HK.out.hs.mrk 0(by omega);simpa [jk]using this
    have rL:w7.ownsRow B 3 1 u1(len+j)(List.replicate(len+j)(elC m 0)).flatten:=HK.out.cu.row;have a7:Hid((K' 0).length=(K 0).length+j):=HK.out.len;have c6:w7.cell?⟨b,6,none⟩=some(f' 6):=HK.out.hs.blk.cell(by omega);have hbase:B<=w7.heap.size:=by have:=HK.out.hs.blk.lt;have:=(HK.out.hs.dom b(by rw [HK.out.hs.wb];simp)).1;omega
    obtain⟨l1,l2,l3,rfl⟩:=iq rL;have a8:=iy rL;subst a8;obtain⟨o1,o2,o3,eO⟩:=iq rO;rw [eO]at rO c6;have aY:=iy rO;subst aY;have aQ:(K' 0).length<=5000000000003\/¬j<4:=by have:=a7.out;omega
    have a5:=hZ rL;have aK:=hZ rO;have ay:=hZ eO;have aZ:=hZ rM;clear rL rO rM eO;by_cases hj4:j<4
    ·have aQ:(K' 0).length<=5000000000003:=by omega
     have z2:(j:Int)<4:=by omega
     have an:(K' 0).length+1<=maxLen:=by unfold maxLen;omega
     have aE:len+j+1<=maxLen:=by unfold maxLen;omega
     have aw:Hid(∀ {o:Obj} {g6 c6:Nat} {w6:World},w6.ownsRow B 39 1(.slice(some⟨g6,0,none⟩)((K' 0).length+1)c6)((K' 0).length+1)((K' 0).map(·.1)++ [.slice l1(len+j)l3])->
       (((Value.slice o1(K' 0).length o3).ownBlock=some g6/\(w7.alloc o).grownBy w6(some g6))\/(g6=w7.heap.size+1/\(w7.alloc o).grownBy w6 none))->
       HB w6 b f'/\∃ who'' f'',KpA B 0 w(w6.setCell⟨b,6,none⟩(.slice(some⟨g6,0,none⟩)((K' 0).length+1)c6))b who who''(n+1)m f f'' K K'(.slice l1(len+j)l3)(len+j)j(fun g=>(Value.slice x1 len x3).ownBlock=some g)/\f'' 7=f' 7):=by
      intro o g6 c6 w6 aA key;rw [<-ay.out]at key;exact HK.out.push(by omega)aA key
     generalize aO:(K' 0).length=N at*;generalize a9:(K' 0).map(·.1)=L1 at*;have aC:=hZ aO;clear aO a9;go_upto_region 9 with(at_builtin;go_must(refine iD rfl _ _ _ rfl B 39 i1 _ 1 24 Tryz.underlying23 aU a6 ba be rfl(by omega)(.slice o1 N o3)N L1 rfl(iG aK.out)⟨w7.heap.size,0,none⟩1 1 [.slice l1(len+j)l3]rfl rfl(World.news_of_block(cs:= #[.slice l1(len+j)l3])(t:=39)(fr:=(0,0))(heap_alloc_new w7 _))(by simp [Value.oneCell'])(by omega)an(by omega)(by simp;omega)(w7.heap.size+1)(by simp) ?_);intro g8 aD w8 af ak aH;have aB:=(aw.out af ak).1;have p6:w8.cell?⟨b,6,none⟩=some(.slice o1 N o3):=(by rw [aB.cell(by omega),ay.out]);have p7:=aB.frozen 6)
     obtain⟨_,who9,f9,ah,e9⟩:=aw.out af ak;generalize w8.setCell⟨b,6,none⟩(.slice(some⟨g8,0,none⟩)(N+1)aD)=w9 at*;have aG:=hZ ah;have ao:w9.ownsRow B 3 1(f9 7)N(iI((K' 0).map(·.2))):=by
      have:=ah.hs.mrk 0(by omega);rw [<-aC.out];simpa [jk]using this
     have c7:w9.cell?⟨b,7,none⟩=some(f9 7):=ah.hs.blk.cell(by omega);obtain⟨m1,m2,m3,eM⟩:=iq ao;rw [eM]at ao c7;have aR:=(iy ao).symm;subst aR;have hbase9:B<=w9.heap.size:=by have:=ah.hs.blk.lt;have:=(ah.hs.dom b(by rw [ah.hs.wb];simp)).1;omega
     have aq:=hZ ao;have av:=hZ eM;clear af ak aB p6 p7 aH c6 ah e9 aw ao eM ay aK aZ;go_upto_region 10 with(at_builtin;go_must(refine iD rfl _ _ _ rfl B 3 i2 _ 1 8 Tryz.underlying39 aS bd a3 ax rfl(by omega)(.slice m1 N m3)N(iI((K' 0).map(·.2)))rfl(iG aq.out)⟨w9.heap.size,0,none⟩1 1 [.int .i64 m]rfl rfl(World.news_of_block(cs:= #[.int .i64 m])(t:=3)(fr:=(0,0))(heap_alloc_new w9 _))(by simp [Value.oneCell'])(by omega)an(by omega)(by simp;omega)(w9.heap.size+1)(by simp) ?_);intro bb au aL aa ad ar;have ai:=(aG.out.tell(by omega)(M1:=m1)(M3:=m3)av.out aC.out aa ad).1;have p6:aL.cell?⟨b,7,none⟩=some(.slice m1 N m3):=(by rw [ai.cell(by omega),av.out]);have p7:=ai.frozen 7)
     obtain⟨_,who11,f11,ab⟩:=aG.out.tell(by omega)(M1:=m1)(M3:=m3)av.out aC.out aa ad;generalize aL.setCell⟨b,7,none⟩(.slice(some⟨bb,0,none⟩)(N+1)au)=w11 at*;have aF:=hZ ab;have am:Hid(w11.ownsRow B 3 1(.slice l1(len+j)l3)(len+j)(List.replicate(len+j)(elC m 0)).flatten):=ab.cu.row;have hbase11:B<=w11.heap.size:=by have:=ab.hs.blk.lt;have:=(ab.hs.dom b(by rw [ab.hs.wb];simp)).1;omega
     clear aa ad ai p6 p7 ar c7 ab aG aq av a5;go_wp2_with(at_builtin;go_must(refine iD rfl _ _ _ rfl B 3 i0 _ 1 8 Tryz.underlying39 bc a0 a1 aW rfl(by omega)(.slice l1(len+j)l3)(len+j)(List.replicate(len+j)(elC m 0)).flatten rfl(iG am.out)⟨w11.heap.size,0,none⟩1 1 [.int .i64 m]rfl rfl(World.news_of_block(cs:= #[.int .i64 m])(t:=3)(fr:=(0,0))(heap_alloc_new w11 _))(by simp [Value.oneCell'])(by omega)aE(by omega)(by simp;omega)(w11.heap.size+1)(by simp) ?_);intro g12 cap12 w12 ae ag al;have az:=hZ(aF.out.grow(by omega)(by omega)ae ag);clear ae ag al)
     go_roundw
     case rel=>
      obtain⟨ap,aX⟩:=az.out;exact⟨j+1,ap,_,_,by omega,by go_num,hZ aX⟩
     case measure=>simp [intOf];omega
    ·have z2:(4:Int)<=(j:Int):=by omega
     have HE:Hid(∃ who' f' K',HsK B w7 b who'(n+1)f' K'/\oK 0 w w7 who who' f f' K K'(fun g=>(Value.slice x1 len x3).ownBlock=some g)):=by
      have ej:j=4:=by omega
      have hk:=HK.out;rw [ej]at hk;exact hk.done
     go_wp2_with fail
     go_end0
     exact⟨⟨_,rfl⟩,HE.out⟩
end
section
open Go.RowKit
theorem mC {B:Nat} {W w:World} {b:Nat} {who:Nat->Role} {n:Int} {f:Nat->Value} {K:Nat->List(Value × Int)} {sv:Value} {s:List Int}(hH:HsK B w b who n f K)(hWB:W.heap.size<=B)(hI:IntsAt W.heap.size W sv s):valOther who sv:=by
 intro g o l c e hl;obtain⟨ao,cap,rfl,_,h⟩:=hI;simp only [Value.slice.injEq]at e;obtain⟨e1,e2,_⟩:=e;obtain⟨g',o',e3,e4,_⟩:=h 0(by omega);rw [e1]at e3;simp only [Option.some.injEq,Addr.mk.injEq,and_true]at e3;by_cases ho:who g= .other
 ·exact ho
 ·have:=(hH.1.dom g ho).1;omega
def HzG(W:World)(B b:Nat)(n:Int)(K:Nat->List(Value × Int))(e:Ending)(w':World):Prop:=
 e= .returned(.bool true)/\∃ who' f' K',Hz B w' b who' n f' K'/\W.grownBy w' none/\∀ c,c<5->(K' c).length<=(K c).length+4
theorem Fr.step0 {w w1 w2:World} {who who1 who2:Nat->Role} {ex:Nat->Prop}(h:Fr w w1 who who1 ex)(hf:Fr w1 w2 who1 who2(fun _=>False)):Fr w w2 who who2 ex:=h.trans(hf.mono fun _ e=>e.elim)
theorem Fr.stepG {w w1 w2:World} {who who1:Nat->Role} {ex:Nat->Prop}(h:Fr w w1 who who1 ex)(hg:w1.grownBy w2 none):Fr w w2 who who1 ex:=h.trans(Fr.grown hg)
def HzF(W:World)(B b:Nat)(n:Int)(K:Nat->List(Value × Int))(w:World)(who:Nat->Role)(e:Ending)(w':World):Prop:=
 e= .returned(.bool true)/\∃ who' f' K',Hz B w' b who' n f' K'/\W.grownBy w' none/\(∀ c,c<5->(K' c).length<=(K c).length+4)/\Fr w w' who who'(fun g=>w.heap.size<=g)
theorem HzF.g {W w:World} {B b:Nat} {n:Int} {K:Nat->List(Value × Int)} {who:Nat->Role} {e:Ending} {w':World}(h:HzF W B b n K w who e w'):HzG W B b n K e w':=by
 obtain⟨h1,aa,f',K',h2,h3,h4,_⟩:=h;exact⟨h1,aa,f',K',h2,h3,h4⟩
def HzE(W:World)(B b:Nat)(n:Int)(K:Nat->List(Value × Int))(w:World)(who:Nat->Role)(e:Ending)(w':World):Prop:=
 e= .returned(.bool true)/\∃ who' f',Hz B w' b who' n f' K/\W.grownBy w' none/\Fr w w' who who'(fun g=>w.heap.size<=g)
theorem HzE.g {W w:World} {B b:Nat} {n:Int} {K:Nat->List(Value × Int)} {who:Nat->Role} {e:Ending} {w':World}(h:HzE W B b n K w who e w'):HzG W B b n K e w':=by
 obtain⟨h1,aa,f',h2,h3,_⟩:=h;exact⟨h1,aa,f',K,h2,h3,fun c _=>Nat.le_add_right _ _⟩
end
section
open Go.RowKit
attribute [local go_sem] Go.World.cell?_alloc_some
theorem C9:((Tryz.prog.info? 76).map fun i=>(i.zero,i.size,i.bytes))=some(some(.agg #[.int .i64 0, .int .i64 0]),2,16):=by kernel_rfl
theorem Cu:((Tryz.prog.info? 27).map fun i=>(i.zero,i.size,i.bytes))=some(some(.slice none 0 0),1,24):=by kernel_rfl
theorem Fm(m:Int)(xs:List Value)(k len:Nat)(hx:xs.length=len*2)(hk:k<len):((((List.replicate k(elC m 1)).flatten++xs.drop(k*2)).set(k*2)(.int .i64 m)).set(k*2+1)(.int .i64 0))=(List.replicate(k+1)(elC m 1)).flatten++xs.drop((k+1)*2):=by
 obtain⟨ys,hy⟩:∃ ys,ys=(List.replicate k(elC m 1)).flatten:=⟨_,rfl⟩;have ab:ys.length=k*2:=by rw [hy];exact mq _ _
 rw [<-lf,<-hy];have h1:2<=(xs.drop(k*2)).length:=by rw [List.length_drop];omega
 have h2:xs.drop((k+1)*2)=(xs.drop(k*2)).drop 2:=by rw [List.drop_drop];congr 1<;>omega
 rw [h2];generalize xs.drop(k*2)=zs at h1;obtain⟨z0,z1,aa,rfl⟩:∃ z0 z1 aa,zs=z0::z1::aa:=by
  match zs,h1 with
  | z0::z1::aa,_=>exact⟨z0,z1,aa,rfl⟩
 rw [<-ab];simp [elC]
theorem xP(B:Nat)(w:World)(b:Nat)(who:Nat->Role)(n:Int)(f:Nat->Value)(K:Nat->List(Value × Int))(lv:Value)(len:Nat)(xs:List Value)(hH:HsK B w b who n f K)(hl:w.ownsRow B 76 2 lv len xs)(ho:∀ g,lv.ownBlock=some g->who g= .other)
  (a2:0<=n)(hn1:n<=10000000000000)(hK:(K 1).length<=5000000000000)(ha:len<=900):
  Calls Tryz.prog 25 #[pt b,lv]w fun e w'=>(∃ v,e= .returned v)/\∃ who' f' K',HsK B w' b who'(n+1)f' K'/\oK 1 w w' who who' f f' K K'(fun g=>lv.ownBlock=some g):=by
 obtain⟨i0,bc,a0,a1,aW⟩:=info_parts C9;obtain⟨i1,aU,a6,ba,be⟩:=info_parts Cu;obtain⟨i2,aS,bd,a3,ay⟩:=info_parts kt;have aP:=hl.1;obtain⟨x1,x2,x3,rfl⟩:=iq hl;have ay:=(iy hl).symm;subst ay;have HM:=hZ(tk hH.1 a2(by omega));have HO:=hZ ho;have H0:Hid(WrG B 1 w(w.setCell⟨b,5,none⟩(.int .i64(n+1)))b who(n+1)f(lC f 5(.int .i64(n+1)))K(.slice x1 len x3)len xs(-77000000 - (n+1))0):=by
  refine⟨⟨hH.1.setCnt _,hH.2⟩, ?_, ?_,fun o ho=>iT _ _(by omega)⟩
  ·have a4:(Value.slice x1 len x3).ownBlock≠some b:=fun e=>by have:=ho b e;rw [hH.1.wb]at this;cases this
   have h5:=ownsRow_setCell_other(a:=⟨b,5,none⟩)hl a4(.int .i64(n+1));have e5:(List.replicate 0(elC(-77000000 - (n+1))1)).flatten++xs.drop(0*(elC(-77000000 - (n+1))1).length)=xs:=by simp
   rw [e5];exact h5
  ·exact Fr.set(Or.inl(by rw [hH.1.wb];simp))
 have aN:pt b= .pointer(some⟨b,0,none⟩):=rfl;rw [aN]at*;clear hH hl ho aN;generalize hm: -77000000 - (n+1)=m at*;have HMM:=hZ hm;clear hm;go_enter Tryz.func25,Tryz.ntmps25
 go_wp2_with(go_at_call 55;refine HM.out.mono ?_;rintro e w1⟨rfl,rfl⟩)
 go_loopw [5](fun i w'=>∃ k:Nat,k<=len/\i= .int .i64 k/\Hid(WrG B 1 w w' b who(n+1)f(lC f 5(.int .i64(n+1)))K(.slice x1 len x3)len xs m k))(fun i _=>len - (intOf i).toNat)
 case atStart=>exact⟨0,Nat.zero_le _,rfl,H0⟩
 case round=>
  clear H0 HM;obtain⟨k,hk,rfl,HI⟩:=hrel;obtain⟨w5,aJ⟩:∃ w5,w5=wr:=⟨_,rfl⟩;rw [<-aJ]at HI ⊢;clear aJ;by_cases aV:k<len
  ·obtain⟨g,cp,e0,_,_⟩:=HI.out.row.form(by omega);have aa:w5.ownsRow B 76 2(.slice x1 len x3)len((List.replicate k(elC m 1)).flatten++xs.drop(k*2)):=HI.out.row;rw [e0]at aa;simp only [Value.slice.injEq,true_and]at e0;obtain⟨rfl,rfl⟩:=e0;have aw:=HO.out g rfl;obtain⟨u0,y0⟩:∃ u,w5.cell?⟨g,k*2,none⟩=some u:=lS aa(by omega);have z0:w5.frozen?⟨g,k*2,none⟩=false:=lO aa;obtain⟨u1,y1⟩:∃ u,w5.cell?⟨g,k*2+1,none⟩=some u:=lS aa(by omega);have z1:w5.frozen?⟨g,k*2+1,none⟩=false:=lO aa;have aT:Hid(WrG B 1 w((w5.setCell⟨g,k*2,none⟩(.int .i64 m)).setCell⟨g,k*2+1,none⟩(.int .i64 0))b who(n+1)f(lC f 5(.int .i64(n+1)))K(.slice(some⟨g,0,none⟩)len x3)len xs m(k+1)):=by
    have hs:=HI.out;refine⟨((hs.hs.setOther aw).setOther aw), ?_, ?_,hs.lent⟩
    ·have h9:=(jo(jo aa(k*2)(.int .i64 m))(k*2+1)(.int .i64 0));have e9:=Fm m xs k len aP aV;rw [e9]at h9;exact h9
    ·exact((hs.fr).trans(Fr.set(Or.inr rfl))).trans(Fr.set(Or.inr rfl))
   have q0:(0:Int)<=(k:Int):=by omega
   have q1:(k:Int)<len:=by omega
   clear aa aw;go_wp2_with fail
   go_roundw
   case rel=>exact⟨k+1,by omega,by go_num,aT⟩
   case measure=>simp [intOf];omega
  ·have ek:k=len:=by omega
   have q1:(len:Int)<=(k:Int):=by omega
   have HS:Hid(∃ aj,KpG B 1 w w5 b who aj(n+1)m f(lC f 5(.int .i64(n+1)))K K(.slice x1 len x3)len 0(fun g=>(Value.slice x1 len x3).ownBlock=some g)):=by
    have hi:=HI.out;rw [ek]at hi;exact hi.kp(by omega)aP(by omega)HO.out
   clear HI ek;go_wp2_with fail
   go_loopw [1,6](fun lv' i w'=>∃ (k:Nat)(who':Nat->Role)(f':Nat->Value)(K':Nat->List(Value × Int)),k<=4/\i= .int .i64 k/\Hid(KpG B 1 w w' b who who'(n+1)m f f' K K' lv'(len+k)k(fun g=>(Value.slice x1 len x3).ownBlock=some g)))(fun _ i _=>4 - (intOf i).toNat)
   case atStart=>
    obtain⟨aj,h1⟩:=HS.out;exact⟨0,aj,_,K,by omega,rfl,hZ h1⟩
   case round=>
    clear HS;obtain⟨j,who',f',K',hj,rfl,HK⟩:=hrel;obtain⟨w7,aM⟩:∃ w7,w7=wr:=⟨_,rfl⟩;rw [<-aM]at HK ⊢;clear aM;have rO:w7.ownsRow B 27 1(f' 8)(K' 1).length((K' 1).map(·.1)):=HK.out.hs.lst 1(by omega);have rM:w7.ownsRow B 3 1(f' 9)(K' 1).length(iI((K' 1).map(·.2))):=by have:=HK.out.hs.mrk 1(by omega);simpa [jk]using this
    have rL:w7.ownsRow B 76 2 u1(len+j)(List.replicate(len+j)(elC m 1)).flatten:=HK.out.cu.row;have a7:Hid((K' 1).length=(K 1).length+j):=HK.out.len;have c6:w7.cell?⟨b,8,none⟩=some(f' 8):=HK.out.hs.blk.cell(by omega);have hbase:B<=w7.heap.size:=by have:=HK.out.hs.blk.lt;have:=(HK.out.hs.dom b(by rw [HK.out.hs.wb];simp)).1;omega
    obtain⟨l1,l2,l3,rfl⟩:=iq rL;have a8:=iy rL;subst a8;obtain⟨o1,o2,o3,eO⟩:=iq rO;rw [eO]at rO c6;have aY:=iy rO;subst aY;have aQ:(K' 1).length<=5000000000003\/¬j<4:=by have:=a7.out;omega
    have a5:=hZ rL;have aK:=hZ rO;have az:=hZ eO;have aZ:=hZ rM;clear rL rO rM eO;by_cases hj4:j<4
    ·have aQ:(K' 1).length<=5000000000003:=by omega
     have z2:(j:Int)<4:=by omega
     have an:(K' 1).length+1<=maxLen:=by unfold maxLen;omega
     have aF:len+j+1<=maxLen:=by unfold maxLen;omega
     have ax:Hid(∀ {o:Obj} {g6 c6:Nat} {w6:World},w6.ownsRow B 27 1(.slice(some⟨g6,0,none⟩)((K' 1).length+1)c6)((K' 1).length+1)((K' 1).map(·.1)++ [.slice l1(len+j)l3])->
       (((Value.slice o1(K' 1).length o3).ownBlock=some g6/\(w7.alloc o).grownBy w6(some g6))\/(g6=w7.heap.size+1/\(w7.alloc o).grownBy w6 none))->
       HB w6 b f'/\∃ who'' f'',KpA B 1 w(w6.setCell⟨b,8,none⟩(.slice(some⟨g6,0,none⟩)((K' 1).length+1)c6))b who who''(n+1)m f f'' K K'(.slice l1(len+j)l3)(len+j)j(fun g=>(Value.slice x1 len x3).ownBlock=some g)/\f'' 9=f' 9):=by
      intro o g6 c6 w6 aB key;rw [<-az.out]at key;exact HK.out.push(by omega)aB key
     generalize aO:(K' 1).length=N at*;generalize a9:(K' 1).map(·.1)=L1 at*;have aD:=hZ aO;clear aO a9;go_upto_region 9 with(at_builtin;go_must(refine iD rfl _ _ _ rfl B 27 i1 _ 1 24 Tryz.underlying42 aU a6 ba be rfl(by omega)(.slice o1 N o3)N L1 rfl(iG aK.out)⟨w7.heap.size,0,none⟩1 1 [.slice l1(len+j)l3]rfl rfl(World.news_of_block(cs:= #[.slice l1(len+j)l3])(t:=27)(fr:=(0,0))(heap_alloc_new w7 _))(by simp [Value.oneCell'])(by omega)an(by omega)(by simp;omega)(w7.heap.size+1)(by simp) ?_);intro g8 aE w8 af ak aI;have aC:=(ax.out af ak).1;have p6:w8.cell?⟨b,8,none⟩=some(.slice o1 N o3):=(by rw [aC.cell(by omega),az.out]);have p7:=aC.frozen 8)
     obtain⟨_,who9,f9,ah,e9⟩:=ax.out af ak;generalize w8.setCell⟨b,8,none⟩(.slice(some⟨g8,0,none⟩)(N+1)aE)=w9 at*;have aH:=hZ ah;have ao:w9.ownsRow B 3 1(f9 9)N(iI((K' 1).map(·.2))):=by
      have:=ah.hs.mrk 1(by omega);rw [<-aD.out];simpa [jk]using this
     have c7:w9.cell?⟨b,9,none⟩=some(f9 9):=ah.hs.blk.cell(by omega);obtain⟨m1,m2,m3,eM⟩:=iq ao;rw [eM]at ao c7;have aR:=(iy ao).symm;subst aR;have hbase9:B<=w9.heap.size:=by have:=ah.hs.blk.lt;have:=(ah.hs.dom b(by rw [ah.hs.wb];simp)).1;omega
     have aq:=hZ ao;have av:=hZ eM;clear af ak aC p6 p7 aI c6 ah e9 ax ao eM az aK aZ;go_upto_region 10 with(at_builtin;go_must(refine iD rfl _ _ _ rfl B 3 i2 _ 1 8 Tryz.underlying39 aS bd a3 ay rfl(by omega)(.slice m1 N m3)N(iI((K' 1).map(·.2)))rfl(iG aq.out)⟨w9.heap.size,0,none⟩1 1 [.int .i64 m]rfl rfl(World.news_of_block(cs:= #[.int .i64 m])(t:=3)(fr:=(0,0))(heap_alloc_new w9 _))(by simp [Value.oneCell'])(by omega)an(by omega)(by simp;omega)(w9.heap.size+1)(by simp) ?_);intro bb au aL ab ad ar;have ai:=(aH.out.tell(by omega)(M1:=m1)(M3:=m3)av.out aD.out ab ad).1;have p6:aL.cell?⟨b,9,none⟩=some(.slice m1 N m3):=(by rw [ai.cell(by omega),av.out]);have p7:=ai.frozen 9)
     obtain⟨_,who11,f11,ac⟩:=aH.out.tell(by omega)(M1:=m1)(M3:=m3)av.out aD.out ab ad;generalize aL.setCell⟨b,9,none⟩(.slice(some⟨bb,0,none⟩)(N+1)au)=w11 at*;have aG:=hZ ac;have am:Hid(w11.ownsRow B 76 2(.slice l1(len+j)l3)(len+j)(List.replicate(len+j)(elC m 1)).flatten):=ac.cu.row;have hbase11:B<=w11.heap.size:=by have:=ac.hs.blk.lt;have:=(ac.hs.dom b(by rw [ac.hs.wb];simp)).1;omega
     clear ab ad ai p6 p7 ar c7 ac aH aq av a5;go_wp2_with(at_builtin;go_must(refine iD rfl _ _ _ rfl B 76 i0 _ 2 16 Tryz.underlying27 bc a0 a1 aW rfl(by omega)(.slice l1(len+j)l3)(len+j)(List.replicate(len+j)(elC m 1)).flatten rfl(iG am.out)⟨w11.heap.size,0,none⟩1 1 [.int .i64 m, .int .i64 0]rfl rfl(World.news_of_block(cs:= #[.int .i64 m, .int .i64 0])(t:=76)(fr:=(0,0))(heap_alloc_new w11 _))(by simp [Value.oneCell'])(by omega)aF(by omega)(by simp;omega)(w11.heap.size+1)(by simp) ?_);intro g12 cap12 w12 ae ag al;have aA:=hZ(aG.out.grow(by omega)(by omega)ae ag);clear ae ag al)
     go_roundw
     case rel=>
      obtain⟨ap,aX⟩:=aA.out;exact⟨j+1,ap,_,_,by omega,by go_num,hZ aX⟩
     case measure=>simp [intOf];omega
    ·have z2:(4:Int)<=(j:Int):=by omega
     have HE:Hid(∃ who' f' K',HsK B w7 b who'(n+1)f' K'/\oK 1 w w7 who who' f f' K K'(fun g=>(Value.slice x1 len x3).ownBlock=some g)):=by
      have ej:j=4:=by omega
      have hk:=HK.out;rw [ej]at hk;exact hk.done
     go_wp2_with fail
     go_end0
     exact⟨⟨_,rfl⟩,HE.out⟩
end
section
open Go.RowKit
attribute [local go_sem] Go.World.cell?_alloc_some
theorem CV:((Tryz.prog.info? 28).map fun i=>(i.zero,i.size,i.bytes))=some(some(.agg #[.int .i64 0, .int .i64 0, .int .i64 0, .int .i64 0]),4,32):=by kernel_rfl
theorem CK:((Tryz.prog.info? 29).map fun i=>(i.zero,i.size,i.bytes))=some(some(.slice none 0 0),1,24):=by kernel_rfl
theorem E7(m:Int)(xs:List Value)(k len:Nat)(hx:xs.length=len*4)(hk:k<len):((((((List.replicate k(elC m 2)).flatten++xs.drop(k*4)).set(k*4)(.int .i64 m)).set(k*4+1)(.int .i64 1)).set(k*4+2)(.int .i64 2)).set(k*4+3)(.int .i64 3))=(List.replicate(k+1)(elC m 2)).flatten++xs.drop((k+1)*4):=by
 obtain⟨ys,hy⟩:∃ ys,ys=(List.replicate k(elC m 2)).flatten:=⟨_,rfl⟩;have ab:ys.length=k*4:=by rw [hy];exact mq _ _
 rw [<-lf,<-hy];have h1:4<=(xs.drop(k*4)).length:=by rw [List.length_drop];omega
 have h2:xs.drop((k+1)*4)=(xs.drop(k*4)).drop 4:=by rw [List.drop_drop];congr 1<;>omega
 rw [h2];generalize xs.drop(k*4)=zs at h1;obtain⟨z0,z1,z2,z3,aa,rfl⟩:∃ z0 z1 z2 z3 aa,zs=z0::z1::z2::z3::aa:=by
  match zs,h1 with
  | z0::z1::z2::z3::aa,_=>exact⟨z0,z1,z2,z3,aa,rfl⟩
 rw [<-ab];simp [elC]
theorem zl(B:Nat)(w:World)(b:Nat)(who:Nat->Role)(n:Int)(f:Nat->Value)(K:Nat->List(Value × Int))(lv:Value)(len:Nat)(xs:List Value)(hH:HsK B w b who n f K)(hl:w.ownsRow B 28 4 lv len xs)(ho:∀ g,lv.ownBlock=some g->who g= .other)
  (a2:0<=n)(hn1:n<=10000000000000)(hK:(K 2).length<=5000000000000)(ha:len<=900):
  Calls Tryz.prog 26 #[pt b,lv]w fun e w'=>(∃ v,e= .returned v)/\∃ who' f' K',HsK B w' b who'(n+1)f' K'/\oK 2 w w' who who' f f' K K'(fun g=>lv.ownBlock=some g):=by
 obtain⟨i0,bc,a0,a1,aW⟩:=info_parts CV;obtain⟨i1,aU,a6,ba,be⟩:=info_parts CK;obtain⟨i2,aS,bd,a3,ay⟩:=info_parts kt;have aP:=hl.1;obtain⟨x1,x2,x3,rfl⟩:=iq hl;have ay:=(iy hl).symm;subst ay;have HM:=hZ(tk hH.1 a2(by omega));have HO:=hZ ho;have H0:Hid(WrG B 2 w(w.setCell⟨b,5,none⟩(.int .i64(n+1)))b who(n+1)f(lC f 5(.int .i64(n+1)))K(.slice x1 len x3)len xs(-77000000 - (n+1))0):=by
  refine⟨⟨hH.1.setCnt _,hH.2⟩, ?_, ?_,fun o ho=>iT _ _(by omega)⟩
  ·have a4:(Value.slice x1 len x3).ownBlock≠some b:=fun e=>by have:=ho b e;rw [hH.1.wb]at this;cases this
   have h5:=ownsRow_setCell_other(a:=⟨b,5,none⟩)hl a4(.int .i64(n+1));have e5:(List.replicate 0(elC(-77000000 - (n+1))2)).flatten++xs.drop(0*(elC(-77000000 - (n+1))2).length)=xs:=by simp
   rw [e5];exact h5
  ·exact Fr.set(Or.inl(by rw [hH.1.wb];simp))
 have aN:pt b= .pointer(some⟨b,0,none⟩):=rfl;rw [aN]at*;clear hH hl ho aN;generalize hm: -77000000 - (n+1)=m at*;have HMM:=hZ hm;clear hm;go_enter Tryz.func26,Tryz.ntmps26
 go_wp2_with(go_at_call 55;refine HM.out.mono ?_;rintro e w1⟨rfl,rfl⟩)
 go_loopw [5](fun i w'=>∃ k:Nat,k<=len/\i= .int .i64 k/\Hid(WrG B 2 w w' b who(n+1)f(lC f 5(.int .i64(n+1)))K(.slice x1 len x3)len xs m k))(fun i _=>len - (intOf i).toNat)
 case atStart=>exact⟨0,Nat.zero_le _,rfl,H0⟩
 case round=>
  clear H0 HM;obtain⟨k,hk,rfl,HI⟩:=hrel;obtain⟨w5,aJ⟩:∃ w5,w5=wr:=⟨_,rfl⟩;rw [<-aJ]at HI ⊢;clear aJ;by_cases aV:k<len
  ·obtain⟨g,cp,e0,_,_⟩:=HI.out.row.form(by omega);have aa:w5.ownsRow B 28 4(.slice x1 len x3)len((List.replicate k(elC m 2)).flatten++xs.drop(k*4)):=HI.out.row;rw [e0]at aa;simp only [Value.slice.injEq,true_and]at e0;obtain⟨rfl,rfl⟩:=e0;have al:=HO.out g rfl;obtain⟨u0,y0⟩:∃ u,w5.cell?⟨g,k*4,none⟩=some u:=lS aa(by omega);have z0:w5.frozen?⟨g,k*4,none⟩=false:=lO aa;obtain⟨u1,y1⟩:∃ u,w5.cell?⟨g,k*4+1,none⟩=some u:=lS aa(by omega);have z1:w5.frozen?⟨g,k*4+1,none⟩=false:=lO aa;obtain⟨u2,y2⟩:∃ u,w5.cell?⟨g,k*4+2,none⟩=some u:=lS aa(by omega);have z2:w5.frozen?⟨g,k*4+2,none⟩=false:=lO aa;obtain⟨u3,y3⟩:∃ u,w5.cell?⟨g,k*4+3,none⟩=some u:=lS aa(by omega);have z3:w5.frozen?⟨g,k*4+3,none⟩=false:=lO aa;have aT:Hid(WrG B 2 w((((w5.setCell⟨g,k*4,none⟩(.int .i64 m)).setCell⟨g,k*4+1,none⟩(.int .i64 1)).setCell⟨g,k*4+2,none⟩(.int .i64 2)).setCell⟨g,k*4+3,none⟩(.int .i64 3))b who(n+1)f(lC f 5(.int .i64(n+1)))K(.slice(some⟨g,0,none⟩)len x3)len xs m(k+1)):=by
    have hs:=HI.out;refine⟨((((hs.hs.setOther al).setOther al).setOther al).setOther al), ?_, ?_,hs.lent⟩
    ·have h9:=(jo(jo(jo(jo aa(k*4)(.int .i64 m))(k*4+1)(.int .i64 1))(k*4+2)(.int .i64 2))(k*4+3)(.int .i64 3));have e9:=E7 m xs k len aP aV;rw [e9]at h9;exact h9
    ·exact((((hs.fr).trans(Fr.set(Or.inr rfl))).trans(Fr.set(Or.inr rfl))).trans(Fr.set(Or.inr rfl))).trans(Fr.set(Or.inr rfl))
   have q0:(0:Int)<=(k:Int):=by omega
   have q1:(k:Int)<len:=by omega
   clear aa al;go_wp2_with fail
   go_roundw
   case rel=>exact⟨k+1,by omega,by go_num,aT⟩
   case measure=>simp [intOf];omega
  ·have ek:k=len:=by omega
   have q1:(len:Int)<=(k:Int):=by omega
   have HS:Hid(∃ aj,KpG B 2 w w5 b who aj(n+1)m f(lC f 5(.int .i64(n+1)))K K(.slice x1 len x3)len 0(fun g=>(Value.slice x1 len x3).ownBlock=some g)):=by
    have hi:=HI.out;rw [ek]at hi;exact hi.kp(by omega)aP(by omega)HO.out
   clear HI ek;go_wp2_with fail
   go_loopw [1,6](fun lv' i w'=>∃ (k:Nat)(who':Nat->Role)(f':Nat->Value)(K':Nat->List(Value × Int)),k<=4/\i= .int .i64 k/\Hid(KpG B 2 w w' b who who'(n+1)m f f' K K' lv'(len+k)k(fun g=>(Value.slice x1 len x3).ownBlock=some g)))(fun _ i _=>4 - (intOf i).toNat)
   case atStart=>
    obtain⟨aj,h1⟩:=HS.out;exact⟨0,aj,_,K,by omega,rfl,hZ h1⟩
   case round=>
    clear HS;obtain⟨j,who',f',K',hj,rfl,HK⟩:=hrel;obtain⟨w7,aM⟩:∃ w7,w7=wr:=⟨_,rfl⟩;rw [<-aM]at HK ⊢;clear aM;have rO:w7.ownsRow B 29 1(f' 10)(K' 2).length((K' 2).map(·.1)):=HK.out.hs.lst 2(by omega);have rM:w7.ownsRow B 3 1(f' 11)(K' 2).length(iI((K' 2).map(·.2))):=by have:=HK.out.hs.mrk 2(by omega);simpa [jk]using this
    have rL:w7.ownsRow B 28 4 u1(len+j)(List.replicate(len+j)(elC m 2)).flatten:=HK.out.cu.row;have a7:Hid((K' 2).length=(K 2).length+j):=HK.out.len;have c6:w7.cell?⟨b,10,none⟩=some(f' 10):=HK.out.hs.blk.cell(by omega);have hbase:B<=w7.heap.size:=by have:=HK.out.hs.blk.lt;have:=(HK.out.hs.dom b(by rw [HK.out.hs.wb];simp)).1;omega
    obtain⟨l1,l2,l3,rfl⟩:=iq rL;have a8:=iy rL;subst a8;obtain⟨o1,o2,o3,eO⟩:=iq rO;rw [eO]at rO c6;have aY:=iy rO;subst aY;have aQ:(K' 2).length<=5000000000003\/¬j<4:=by have:=a7.out;omega
    have a5:=hZ rL;have aK:=hZ rO;have az:=hZ eO;have aZ:=hZ rM;clear rL rO rM eO;by_cases hj4:j<4
    ·have aQ:(K' 2).length<=5000000000003:=by omega
     have z2:(j:Int)<4:=by omega
     have ao:(K' 2).length+1<=maxLen:=by unfold maxLen;omega
     have aF:len+j+1<=maxLen:=by unfold maxLen;omega
     have ax:Hid(∀ {o:Obj} {g6 c6:Nat} {w6:World},w6.ownsRow B 29 1(.slice(some⟨g6,0,none⟩)((K' 2).length+1)c6)((K' 2).length+1)((K' 2).map(·.1)++ [.slice l1(len+j)l3])->
       (((Value.slice o1(K' 2).length o3).ownBlock=some g6/\(w7.alloc o).grownBy w6(some g6))\/(g6=w7.heap.size+1/\(w7.alloc o).grownBy w6 none))->
       HB w6 b f'/\∃ who'' f'',KpA B 2 w(w6.setCell⟨b,10,none⟩(.slice(some⟨g6,0,none⟩)((K' 2).length+1)c6))b who who''(n+1)m f f'' K K'(.slice l1(len+j)l3)(len+j)j(fun g=>(Value.slice x1 len x3).ownBlock=some g)/\f'' 11=f' 11):=by
      intro o g6 c6 w6 aB key;rw [<-az.out]at key;exact HK.out.push(by omega)aB key
     generalize aO:(K' 2).length=N at*;generalize a9:(K' 2).map(·.1)=L1 at*;have aD:=hZ aO;clear aO a9;go_upto_region 9 with(at_builtin;go_must(refine iD rfl _ _ _ rfl B 29 i1 _ 1 24 Tryz.underlying43 aU a6 ba be rfl(by omega)(.slice o1 N o3)N L1 rfl(iG aK.out)⟨w7.heap.size,0,none⟩1 1 [.slice l1(len+j)l3]rfl rfl(World.news_of_block(cs:= #[.slice l1(len+j)l3])(t:=29)(fr:=(0,0))(heap_alloc_new w7 _))(by simp [Value.oneCell'])(by omega)ao(by omega)(by simp;omega)(w7.heap.size+1)(by simp) ?_);intro g8 aE w8 af ak aI;have aC:=(ax.out af ak).1;have p6:w8.cell?⟨b,10,none⟩=some(.slice o1 N o3):=(by rw [aC.cell(by omega),az.out]);have p7:=aC.frozen 10)
     obtain⟨_,who9,f9,ah,e9⟩:=ax.out af ak;generalize w8.setCell⟨b,10,none⟩(.slice(some⟨g8,0,none⟩)(N+1)aE)=w9 at*;have aH:=hZ ah;have ap:w9.ownsRow B 3 1(f9 11)N(iI((K' 2).map(·.2))):=by
      have:=ah.hs.mrk 2(by omega);rw [<-aD.out];simpa [jk]using this
     have c7:w9.cell?⟨b,11,none⟩=some(f9 11):=ah.hs.blk.cell(by omega);obtain⟨m1,m2,m3,eM⟩:=iq ap;rw [eM]at ap c7;have aR:=(iy ap).symm;subst aR;have hbase9:B<=w9.heap.size:=by have:=ah.hs.blk.lt;have:=(ah.hs.dom b(by rw [ah.hs.wb];simp)).1;omega
     have ar:=hZ ap;have aw:=hZ eM;clear af ak aC p6 p7 aI c6 ah e9 ax ap eM az aK aZ;go_upto_region 10 with(at_builtin;go_must(refine iD rfl _ _ _ rfl B 3 i2 _ 1 8 Tryz.underlying39 aS bd a3 ay rfl(by omega)(.slice m1 N m3)N(iI((K' 2).map(·.2)))rfl(iG ar.out)⟨w9.heap.size,0,none⟩1 1 [.int .i64 m]rfl rfl(World.news_of_block(cs:= #[.int .i64 m])(t:=3)(fr:=(0,0))(heap_alloc_new w9 _))(by simp [Value.oneCell'])(by omega)ao(by omega)(by simp;omega)(w9.heap.size+1)(by simp) ?_);intro bb av aL ab ad au;have ai:=(aH.out.tell(by omega)(M1:=m1)(M3:=m3)aw.out aD.out ab ad).1;have p6:aL.cell?⟨b,11,none⟩=some(.slice m1 N m3):=(by rw [ai.cell(by omega),aw.out]);have p7:=ai.frozen 11)
     obtain⟨_,who11,f11,ac⟩:=aH.out.tell(by omega)(M1:=m1)(M3:=m3)aw.out aD.out ab ad;generalize aL.setCell⟨b,11,none⟩(.slice(some⟨bb,0,none⟩)(N+1)av)=w11 at*;have aG:=hZ ac;have an:Hid(w11.ownsRow B 28 4(.slice l1(len+j)l3)(len+j)(List.replicate(len+j)(elC m 2)).flatten):=ac.cu.row;have hbase11:B<=w11.heap.size:=by have:=ac.hs.blk.lt;have:=(ac.hs.dom b(by rw [ac.hs.wb];simp)).1;omega
     clear ab ad ai p6 p7 au c7 ac aH ar aw a5;go_wp2_with(at_builtin;go_must(refine iD rfl _ _ _ rfl B 28 i0 _ 4 32 Tryz.underlying29 bc a0 a1 aW rfl(by omega)(.slice l1(len+j)l3)(len+j)(List.replicate(len+j)(elC m 2)).flatten rfl(iG an.out)⟨w11.heap.size,0,none⟩1 1 [.int .i64 m, .int .i64 1, .int .i64 2, .int .i64 3]rfl rfl(World.news_of_block(cs:= #[.int .i64 m, .int .i64 1, .int .i64 2, .int .i64 3])(t:=28)(fr:=(0,0))(heap_alloc_new w11 _))(by simp [Value.oneCell'])(by omega)aF(by omega)(by simp;omega)(w11.heap.size+1)(by simp) ?_);intro g12 cap12 w12 ae ag am;have aA:=hZ(aG.out.grow(by omega)(by omega)ae ag);clear ae ag am)
     go_roundw
     case rel=>
      obtain⟨aq,aX⟩:=aA.out;exact⟨j+1,aq,_,_,by omega,by go_num,hZ aX⟩
     case measure=>simp [intOf];omega
    ·have z2:(4:Int)<=(j:Int):=by omega
     have HE:Hid(∃ who' f' K',HsK B w7 b who'(n+1)f' K'/\oK 2 w w7 who who' f f' K K'(fun g=>(Value.slice x1 len x3).ownBlock=some g)):=by
      have ej:j=4:=by omega
      have hk:=HK.out;rw [ej]at hk;exact hk.done
     go_wp2_with fail
     go_end0
     exact⟨⟨_,rfl⟩,HE.out⟩
end
section
open Go.RowKit
theorem uo {w w':World}(h:w.drew.grownBy w' none):w.grownBy w' none:=⟨h.os,h.tape,h.output,h.size,h.block⟩
def sA(p:List(List Ins))(s:List Int):List(Int × Int):=if iz p s=0 then(iF p s).steps else []
def su(p:List(List Ins))(s:List Int):Nat:=if iz p s=0 then p.length else 0
theorem si {p:List(List Ins)} {s:List Int}(h:iz p s=0):iR p=true/\s.length<=500:=by
 unfold iz at h;by_cases hv:iR p=true
 ·by_cases h5:s.length<=500
  ·exact⟨hv,h5⟩
  ·simp [hv,h5]at h
 ·simp [hv]at h
theorem EA(p:List(List Ins))(s:List Int):(sA p s).length<=500:=by
 unfold sA;by_cases h:iz p s=0
 ·rw [if_pos h];obtain⟨m,h1,_,h3,_⟩:=oC p s 0 St.zero [];have h5:=(si h).2;unfold iF;simp at h3;omega
 ·rw [if_neg h];simp
theorem Fp(p:List(List Ins))(s:List Int):su p s<=4:=by
 unfold su;by_cases h:iz p s=0
 ·rw [if_pos h];exact(ju(si h).1).2
 ·rw [if_neg h];omega
theorem ResV.rows {p:List(List Ins)} {s:List Int} {B:Nat} {w:World} {k t a v0 v1 v2 v3 c:Int} {x1 y1:Option Addr} {m x3 q y3:Nat}
  (h:ResV p s B w(.agg #[.int .i64 k, .int .i64 t, .int .i64 a, .slice x1 m x3, .int .i64 v0, .int .i64 v1, .int .i64 v2, .int .i64 v3, .slice y1 q y3])c):
  m=(sA p s).length/\q=su p s/\w.ownsRow B 76 2(.slice x1 m x3)m(iO(sA p s))/\w.ownsRow B 28 4(.slice y1 q y3)q(jm(su p s)(iF p s).st):=by
 obtain⟨k',t',a',u0,u1,u2,u3,z1,z3,r1,r3,m',q',e,hc,h⟩:=h;simp only [Value.agg.injEq,Array.mk.injEq,List.cons.injEq,Value.int.injEq,Value.slice.injEq,true_and,and_true]at e;obtain⟨rfl,rfl,rfl,⟨rfl,rfl,rfl⟩,rfl,rfl,rfl,rfl,rfl,rfl,rfl⟩:=e;rcases h with⟨h0,_,_,_,_,_,_,_,hm,hq,h1,h2⟩ | ⟨h0,_,_,_,_,_,_,_,hm,hq,e1,e3,f1,f3⟩
 ·have hz:iz p s=0:=by rw [<-hc,h0]
  have es:sA p s=(iF p s).steps:=by unfold sA;rw [if_pos hz]
  have er:su p s=p.length:=by unfold su;rw [if_pos hz]
  refine⟨by rw [es,hm],by rw [er,hq], ?_, ?_⟩
  ·rw [es];rw [<-hm]at h1;exact h1
  ·rw [er];rw [hq]at h2 ⊢;exact h2
 ·have hz:iz p s≠0:=by rw [<-hc];exact h0
  have es:sA p s= []:=by unfold sA;rw [if_neg hz]
  have er:su p s=0:=by unfold su;rw [if_neg hz]
  subst hm hq e1 e3 f1 f3;exact⟨by rw [es];rfl,by rw [er],by rw [es];exact⟨rfl,Or.inl⟨rfl,rfl⟩⟩,by rw [er];exact⟨rfl,Or.inl⟨rfl,rfl⟩⟩⟩
theorem uB:∀ (l:List(Int × Int))(j:Nat)(hj:j<l.length),(iO l)[j*2]?=some(.int .i64 l[j].1)/\(iO l)[j*2+1]?=some(.int .i64 l[j].2)
 | [],j,hj=>by simp at hj
 | x::l,0,hj=>by simp [iO]
 | x::l,j+1,hj=>by
  have h:=uB l j(by simpa using hj);have e:iO(x::l)= [.int .i64 x.1, .int .i64 x.2]++iO l:=by simp [iO]
  have e2:∀ q,(iO(x::l))[(j+1)*2+q]?=(iO l)[j*2+q]?:=fun q=>by
   rw [e,List.getElem?_append_right(by simp;omega)];congr 1
   simp;omega
  refine⟨?_, ?_⟩
  ·have:=e2 0;simp only [Nat.add_zero]at this;rw [this];simpa using h.1
  ·rw [e2 1];simpa using h.2
theorem tU(s:St):∀ (n t:Nat),t<n->(jm n s)[t*4]?=some(.int .i64(s.regs t 0))/\(jm n s)[t*4+1]?=some(.int .i64(s.regs t 1))/\(jm n s)[t*4+2]?=some(.int .i64(s.regs t 2))/\(jm n s)[t*4+3]?=some(.int .i64(s.regs t 3))
 | 0,t,h=>by omega
 | n+1,t,h=>by
  have e:jm(n+1)s=jm n s++ [.int .i64(s.regs n 0), .int .i64(s.regs n 1), .int .i64(s.regs n 2), .int .i64(s.regs n 3)]:=by
   unfold jm;rw [List.range_succ,List.flatMap_append];simp
  have hl:=kq n s;rw [e];by_cases ht:t<n
  ·obtain⟨h0,h1,h2,h3⟩:=tU s n t ht;refine⟨?_, ?_, ?_, ?_⟩
   ·rw [List.getElem?_append_left(by omega)];exact h0
   ·rw [List.getElem?_append_left(by omega)];exact h1
   ·rw [List.getElem?_append_left(by omega)];exact h2
   ·rw [List.getElem?_append_left(by omega)];exact h3
  ·have:t=n:=by omega
   subst this;refine⟨?_, ?_, ?_, ?_⟩
   ·rw [List.getElem?_append_right(by omega),hl,Nat.sub_self];rfl
   ·rw [List.getElem?_append_right(by omega),hl,Nat.add_sub_cancel_left];rfl
   ·rw [List.getElem?_append_right(by omega),hl,Nat.add_sub_cancel_left];rfl
   ·rw [List.getElem?_append_right(by omega),hl,Nat.add_sub_cancel_left];rfl
theorem pm {w:World} {B:Nat} {e:TypeId} {z:Nat} {ao:Option Addr} {m c n:Nat} {xs:List Value}(h:w.ownsRow B e z(.slice ao m c)n xs)(hn:0<n):∃ g,ao=some⟨g,0,none⟩:=by
 rcases h.2 with⟨_,e⟩ | ⟨g,cap,cur,hv,_⟩
 ·omega
 ·simp only [Value.slice.injEq]at hv;exact⟨g,hv.1⟩
def SamS(w:World)(x1 z1:Option Addr)(m:Nat):Prop:=∀ i,i<m->∃ g g' A D,x1=some⟨g,0,none⟩/\z1=some⟨g',0,none⟩/\w.cell?⟨g,i*2,none⟩=some(.int .i64 A)/\w.cell?⟨g,i*2+1,none⟩=some(.int .i64 D)/\w.cell?⟨g',i*2,none⟩=some(.int .i64 A)/\w.cell?⟨g',i*2+1,none⟩=some(.int .i64 D)
def SamR(w:World)(y1 r1:Option Addr)(q:Nat):Prop:=∀ i,i<q->∃ g g' A D E F,y1=some⟨g,0,none⟩/\r1=some⟨g',0,none⟩/\w.cell?⟨g,i*4,none⟩=some(.int .i64 A)/\w.cell?⟨g,i*4+1,none⟩=some(.int .i64 D)/\w.cell?⟨g,i*4+2,none⟩=some(.int .i64 E)/\w.cell?⟨g,i*4+3,none⟩=some(.int .i64 F)/\
 w.cell?⟨g',i*4,none⟩=some(.int .i64 A)/\w.cell?⟨g',i*4+1,none⟩=some(.int .i64 D)/\w.cell?⟨g',i*4+2,none⟩=some(.int .i64 E)/\w.cell?⟨g',i*4+3,none⟩=some(.int .i64 F)
theorem D3 {w:World} {B B':Nat} {x1 z1:Option Addr} {m c c':Nat} {L:List(Int × Int)}(hm:m=L.length)(h:w.ownsRow B 76 2(.slice x1 m c)m(iO L))(h':w.ownsRow B' 76 2(.slice z1 m c')m(iO L)):SamS w x1 z1 m:=by
 intro i hi;obtain⟨g,rfl⟩:=pm h(by omega);obtain⟨g',rfl⟩:=pm h'(by omega);obtain⟨e1,e2⟩:=uB L i(by omega);exact⟨g,g',_,_,rfl,rfl,by rw [h.cellAt _(by omega)];exact e1,by rw [h.cellAt _(by omega)];exact e2,by rw [h'.cellAt _(by omega)];exact e1,by rw [h'.cellAt _(by omega)];exact e2⟩
theorem Fv {w:World} {B B':Nat} {y1 r1:Option Addr} {q c c':Nat} {st:St}(h:w.ownsRow B 28 4(.slice y1 q c)q(jm q st))(h':w.ownsRow B' 28 4(.slice r1 q c')q(jm q st)):SamR w y1 r1 q:=by
 intro i hi;obtain⟨g,rfl⟩:=pm h(by omega);obtain⟨g',rfl⟩:=pm h'(by omega);obtain⟨e1,e2,e3,e4⟩:=tU st q i hi;exact⟨g,g',_,_,_,_,rfl,rfl,by rw [h.cellAt _(by omega)];exact e1,by rw [h.cellAt _(by omega)];exact e2,by rw [h.cellAt _(by omega)];exact e3,by rw [h.cellAt _(by omega)];exact e4,by rw [h'.cellAt _(by omega)];exact e1,by rw [h'.cellAt _(by omega)];exact e2,by rw [h'.cellAt _(by omega)];exact e3,by rw [h'.cellAt _(by omega)];exact e4⟩
theorem SamS.pres {w w':World} {x1 z1:Option Addr} {m:Nat}(h:SamS w x1 z1 m)(hp:Pres w w'):SamS w' x1 z1 m:=fun i hi=>by
 obtain⟨g,g',A,D,e1,e2,c1,c2,c3,c4⟩:=h i hi;exact⟨g,g',A,D,e1,e2,hp _ _ c1,hp _ _ c2,hp _ _ c3,hp _ _ c4⟩
theorem SamR.pres {w w':World} {x1 z1:Option Addr} {m:Nat}(h:SamR w x1 z1 m)(hp:Pres w w'):SamR w' x1 z1 m:=fun i hi=>by
 obtain⟨g,g',A,D,E,F,e1,e2,c1,c2,c3,c4,c5,c6,c7,c8⟩:=h i hi;exact⟨g,g',A,D,E,F,e1,e2,hp _ _ c1,hp _ _ c2,hp _ _ c3,hp _ _ c4,hp _ _ c5,hp _ _ c6,hp _ _ c7,hp _ _ c8⟩
theorem BN {w:World} {B B':Nat} {v v':Value} {m q:Nat} {xs ys:List Value}(h:w.ownsRow B 76 2 v m xs)(h':w.ownsRow B' 28 4 v' q ys) {g:Nat}(e:v.ownBlock=some g)(e':v'.ownBlock=some g):False:=by
 rcases h.2 with⟨rfl,_⟩ | ⟨g1,cap1,cur1,rfl,_,hh,_⟩
 ·cases e
 ·rcases h'.2 with⟨rfl,_⟩ | ⟨g2,cap2,cur2,rfl,_,hh',_⟩
  ·cases e'
  ·simp only [Value.ownBlock,Option.some.injEq]at e e';subst e e';rw [hh]at hh';simp only [Option.some.injEq,Obj.cells.injEq]at hh';exact absurd hh'.2.1(by decide)
end
section
def atR(n:Nat):Code->Bool
 | .region k _ _=>Nat.beq k n
 | .seq a _=>atR n a
 | .block _ c=>atR n c
 | .scope c=>atR n c
 | .loop c=>atR n c
 | _=>false
def oY(n:Nat):Code->Option Code
 | .seq a b=>match atR n a with
  | true=>some(.seq a b)
  | false=>match oY n a with
   | some c=>some c
   | none=>oY n b
 | .block _ c=>oY n c
 | .scope c=>oY n c
 | .loop c=>oY n c
 | .cond _ a b=>match oY n a with
  | some c=>some c
  | none=>oY n b
 | _=>none
def oU(f:Func)(n:Nat):Code:=match f.body with
 | some c=>(oY n c).getD .skip
 | none=> .skip
end
section
open Go.RowKit
attribute [local go_sem] Go.World.cell?_alloc_some sE
theorem Ec {B:Nat} {W w:World} {b n8 bi:Nat} {who:Nat->Role} {n:Int} {f:Nat->Value} {K:Nat->List(Value × Int)} {x1 y1 z1 r1:Option Addr} {m q x3 y3 z3 r3:Nat} {L G:List Value}
  (HZ:Hid(Hz B w b who n f K))(HW:Hid(W.grownBy w none))(bX:W.heap.size<=B)(HX:Hid(w.ownsRow B 76 2(.slice x1 m x3)m L))(HY:Hid(w.ownsRow B 28 4(.slice y1 q y3)q G))
  (dM:Hid(∀ g,(Value.slice x1 m x3).ownBlock=some g->who g= .other))(ei:Hid(∀ g,(Value.slice y1 q y3).ownBlock=some g->who g= .other))(fm:Hid(SamS w x1 z1 m))(eD:Hid(SamR w y1 r1 q))
  (bS:Hid(w.cell?⟨n8,3,none⟩=some(.slice x1 m x3)))(fa:Hid(w.cell?⟨n8,8,none⟩=some(.slice y1 q y3)))(eL:Hid(w.cell?⟨bi,3,none⟩=some(.slice z1 m z3)))(cZ:Hid(w.cell?⟨bi,8,none⟩=some(.slice r1 q r3)))
  (fs:Hid(who n8= .other))(ca:Hid((Value.slice x1 m x3).ownBlock≠some n8))(hm:m<=500)(hq:q<=4)(cG:0<=n)(hn1:n<=9000000000000)(HK:Hid(∀ c,c<5->(K c).length<=4900000000000))
  {Q:Exit->Act->World->Prop} {c1 c2 c3 c4 c5 c6 c7 c9 dN b2 b7 cY eC eF ef dF dJ fo cQ cz cx ev cL ey cR fw ek d6 eW cH eZ eY dG dl d0 dS eB dA cP fp eg df eH cv eh cw dW cE cf d1 fi db eA cq dX fk fe d3 fu dR dq el d5 cr ez eO de ff dg dy dE cl dv cU b1 dn dw cg fh dD dx fg cW cD cM dY eR cN cb cX cS d4 dQ dT cs c8 aJ bq ag bl bM a7 bu bv aZ bx bf aT be bC a2 ai bw aR aC bc am aE aG bF ar aw aN bL aX bK bG a5 bN aj ap a8 aB aA aI ax a3:Value}
  (HQ:Hid(∀ {z0 z1 z2 z3 z4 z5 z7 z8 z9 co b9 cp da dL eU dp dm en cB cy ej bY eX cj cV fd ee ch et cT du dC bZ ew b0 cK b5 em es eq cC eT ec dj eS eJ b4 dH cF ck ed eQ dc eu dU cI d8 dt ci dI dz eb dk cc e0 fq cm eM ce dV fb dO d9 ds eP fc cJ cu eG dr ft eo ea b6 e9 ct eN dP b3 dh dZ fn cO d7 cA eE di b8 cn aQ bt a4 bJ a0 bD bh ao bA aK aU au an ay bp bm aV aD aY aW bn bj bg az bz bd bI bH bk aP aM aL ba bo aS aq bb a6 ak a9 av:Value}(w':World),(∃ who' f' K',Hz B w' b who'(n+2)f' K'/\W.grownBy w' none/\(∀ c,c<5->(K' c).length<=(K c).length+4)/\Fr w w' who who'(fun g=>(Value.slice x1 m x3).ownBlock=some g\/(Value.slice y1 q y3).ownBlock=some g))->Q .ret⟨#[z0,z1,z2,z3,z4,z5, .bool true,z7,z8,z9,co,b9,cp,da,dL,eU,dp,dm,en,cB,cy,ej,bY,eX,cj,cV,fd,ee,ch,et,cT,du,dC,bZ,ew,b0,cK,b5,em,es,eq,cC,eT,ec,dj,eS,eJ,b4,dH,cF,ck,ed,eQ,dc,eu,dU,cI,d8,dt,ci,dI,dz,eb,dk,cc,e0,fq,cm,eM,ce,dV,fb,dO,d9,ds,eP,fc,cJ,cu,eG,dr,ft,eo,ea,b6,e9,ct,eN,dP,b3,dh,dZ,fn,cO,d7,cA,eE,di,b8,cn,aQ,bt,a4,bJ,a0,bD,bh,ao,bA,aK,aU,au,an,ay,bp,bm,aV,aD,aY,aW,bn,bj,bg,az,bz,bd,bI,bH,bk,aP,aM,aL,ba,bo,aS,aq,bb,a6,ak,a9,av], []⟩w')):
  Code.wp Tryz.prog(oU Tryz.f6 6)Q⟨#[.pointer(some⟨b,0,none⟩),c1,c2,c3,c4,c5,c6,c7, .pointer(some⟨n8,0,none⟩),c9,dN, .pointer(some⟨bi,0,none⟩),b2, .bool true,b7,cY,eC,eF,ef,dF,dJ,fo,cQ,cz,cx,ev,cL,ey,cR,fw,ek,d6,eW,cH,eZ,eY,dG,dl,d0,dS,eB,dA,cP,fp,eg,df,eH,cv,eh,cw,dW,cE,cf,d1,fi,db,eA,cq,dX,fk,fe,d3,fu,dR,dq,el,d5,cr,ez,eO,de,ff,dg,dy,dE,cl,dv,cU,b1,dn,dw,cg,fh,dD,dx,fg,cW,cD,cM,dY,eR,cN,cb,cX,cS,d4,dQ,dT,cs,c8,aJ,bq,ag,bl,bM,a7,bu,bv,aZ,bx,bf,aT,be,bC,a2,ai,bw,aR,aC,bc,am,aE,aG,bF,ar,aw,aN,bL,aX,bK,bG,a5,bN,aj,ap,a8,aB,aA,aI,ax,a3], []⟩w:=by
 conv=>arg 2;whnf
 have qm:(m:Int)<=500:=by omega
 have qq:(q:Int)<=4:=by omega
 go_wp2_with fail
 go_loopw [13,14](fun ov iv w'=>∃ i:Nat,i<=m/\ov= .bool true/\iv= .int .i64 i/\Hid(jr w' w))(fun _ iv _=>m - (intOf iv).toNat)
 case atStart=>exact⟨0,Nat.zero_le _,rfl,rfl,hZ(jp _)⟩
 case round=>
  obtain⟨i,hi,rfl,rfl,HL⟩:=hrel;obtain⟨w1,bU⟩:∃ w1,w1=wr:=⟨_,rfl⟩;rw [<-bU]at HL ⊢;clear bU;have HG:Hid(w.grownBy w1 none):=iH HL.out;have k3:=ie HG.out _ _ bS.out;by_cases d2:i<m
  ·have t0:(0:Int)<=(i:Int):=by omega
   have t1:(i:Int)<m:=by omega
   obtain⟨g,g',A,D,rfl,rfl,e1,e2,e3,e4⟩:=fm.out.pres(ie HG.out)i d2;have k4:=ie HG.out _ _ eL.out;go_wp2_with fail
   go_quiet(fail)
   go_wp2_with fail
   go_roundw
   case rel=>exact⟨i+1,by omega,by simp,by go_num,hZ(jR HL.out _)⟩
   case measure=>simp [intOf];omega
  ·have t1:(m:Int)<=(i:Int):=by omega
   go_wp2_with fail
   go_loopw [13,15](fun ov iv w'=>∃ i:Nat,i<=q/\ov= .bool true/\iv= .int .i64 i/\Hid(jr w' w))(fun _ iv _=>q - (intOf iv).toNat)
   case atStart=>exact⟨0,Nat.zero_le _,rfl,rfl,HL⟩
   case round=>
    clear k3 HG HL;obtain⟨j,hj,rfl,rfl,HL⟩:=hrel;obtain⟨w2,bQ⟩:∃ w2,w2=wr:=⟨_,rfl⟩;rw [<-bQ]at HL ⊢;clear bQ;have HG:Hid(w.grownBy w2 none):=iH HL.out;have k8:=ie HG.out _ _ fa.out;by_cases fv:j<q
    ·have t2:(0:Int)<=(j:Int):=by omega
     have t3:(j:Int)<q:=by omega
     obtain⟨g,g',A,D,E,F,rfl,rfl,e1,e2,e3,e4,e5,e6,e7,e8⟩:=eD.out.pres(ie HG.out)j fv;have k9:=ie HG.out _ _ cZ.out;go_wp2_with fail
     go_quiet(fail)
     go_wp2_with fail
     go_roundw
     case rel=>exact⟨j+1,by omega,by simp,by go_num,hZ(jR HL.out _)⟩
     case measure=>simp [intOf];omega
    ·have t3:(q:Int)<=(j:Int):=by omega
     have k3:=ie HG.out _ _ bS.out;have bO:pt b= .pointer(some⟨b,0,none⟩):=rfl;have a1:=hZ(xP B w2 b who n f K(.slice x1 m x3)m L(HZ.out.1.grown HG.out)(iA HX.out HG.out(fun _ e=>by cases e))dM.out cG(by omega)(by have:=HK.out 1(by omega);omega)(by omega));rw [bO]at a1;have af:Hid(w2.ownsRow B 28 4(.slice y1 q y3)q G):=iA HY.out HG.out(fun _ e=>by cases e);have bW:Hid(w2.ownsRow B 76 2(.slice x1 m x3)m L):=iA HX.out HG.out(fun _ e=>by cases e);have fl:Hid(W.grownBy w2 none):=ic HW.out HG.out;have bB:=hZ k8;go_wp2_with fail
     refine a1.out.mono ?_;clear a1 k3 k8;rintro e w3⟨⟨rv,rfl⟩,aa,f3,K3,br,ab⟩;have bR:n8<w2.heap.size:=World.block_lt_of_cell? w2 _ bB.out;have bV:=ab.fr.oth n8 bR fs.out(fun e=>ca.out e);have k8:w3.cell?⟨n8,8,none⟩=some(.slice y1 q y3):=by rw [World.cell?_of_block bV.1];exact bB.out
     have aH:∀ g,(Value.slice y1 q y3).ownBlock=some g->w3.heap[g]?=w2.heap[g]?/\aa g= .other:=fun g e=>ab.fr.oth g(iW af.out g e)(ei.out g e)(fun e2=>BN bW.out af.out e2 e)
     have ex:Hid(w3.ownsRow B 28 4(.slice y1 q y3)q G):=iJ af.out(fun g e=>(aH g e).1);have ah:Hid(∀ g,(Value.slice y1 q y3).ownBlock=some g->aa g= .other):=fun g e=>(aH g e).2
     have eI:Hid(∀ g,(Value.slice x1 m x3).ownBlock=some g->W.heap.size<=g):=fun g e=>by have:=iw bW.out g e;omega
     have er:Hid(∀ g,(Value.slice y1 q y3).ownBlock=some g->W.heap.size<=g):=fun g e=>by have:=iw af.out g e;omega
     have ep:Hid(W.grownBy w3 none):=ab.fr.base fl.out bX(fun g e=>(HZ.out.1.1.dom g e).1)eI.out;have eK:Hid(Fr w w3 who aa(fun g=>(Value.slice x1 m x3).ownBlock=some g\/(Value.slice y1 q y3).ownBlock=some g)):=(Fr.grown HG.out).trans(ab.fr.mono fun _ e=>Or.inl e);have dB:Hid(∀ k,k<5->f3 k= .slice none 0 0):=fun k hk=>by rw [ab.lent k hk];exact HZ.out.2 k hk
     have bE:Hid(∀ c,c<5->(K3 c).length<=(K c).length+4/\(c≠1->(K3 c).length<=(K c).length)):=fun c hc=>by
      by_cases e:c=1
      ·subst e;have:=ab.len;exact⟨by omega,fun h=>absurd rfl h⟩
      ·rw [ab.oth c e];exact⟨by omega,fun _=>by omega⟩
     have al:=hZ(zl B w3 b aa(n+1)f3 K3(.slice y1 q y3)q G br ex.out ah.out(by omega)(by omega)(by have:=bE.out 2(by omega);have:=HK.out 2(by omega);omega)(by omega));rw [bO]at al;have fj:=hZ br;clear br ab aH bV bR bB;go_wp2_with fail
     refine al.out.mono ?_;clear al k8;rintro e w4⟨⟨rv',rfl⟩,ac,f4,K4,aF,ae⟩;have dK:Hid(W.grownBy w4 none):=ae.fr.base ep.out bX(fun g e=>(fj.out.1.dom g e).1)er.out;have cd:Hid(Fr w w4 who ac(fun g=>(Value.slice x1 m x3).ownBlock=some g\/(Value.slice y1 q y3).ownBlock=some g)):=eK.out.trans(ae.fr.mono fun _ e=>Or.inr e);have dd:Hid(∀ k,k<5->f4 k= .slice none 0 0):=fun k hk=>by rw [ae.lent k hk];exact dB.out k hk
     have bP:Hid(∀ c,c<5->(K4 c).length<=(K c).length+4):=fun c hc=>by
      by_cases e:c=2
      ·subst e;have:=ae.len;have:=(bE.out 2(by omega)).2(by omega);omega
      ·rw [ae.oth c e];exact(bE.out c hc).1
     have aO:=hZ(qN B w4 b ac(n+1+1)f4 K4 aF(fun c hc=>by have:=bP.out c hc;have:=HK.out c hc;omega));rw [bO]at aO;have eV:=hZ aF;clear aF ae;go_wp2_with fail
     refine aO.out.mono ?_;clear aO;rintro e w5⟨rfl,bT⟩;have ad:Hid(w4.grownBy w5 none):=iH bT;clear bT;go_wp2_with fail
     exact HQ.out w5⟨ac,f4,K4,⟨by have:=eV.out.grown ad.out;rw [show n+1+1=n+2 by omega]at this;exact this,dd.out⟩,ic dK.out ad.out,bP.out,cd.out.stepG ad.out⟩
end
section
open Go.RowKit
attribute [local go_sem] Go.World.cell?_alloc_some sE
theorem yK(W:World)(B:Nat)(w:World)(b:Nat)(who:Nat->Role)(n:Int)(f:Nat->Value)(K:Nat->List(Value × Int))(pv sv:Value)(p:List(List Ins))(s:List Int)
  (h:Hz B w b who n f K)(hW:W.grownBy w none)(aH:W.heap.size<=B)(hS:ShpAt W)(hP:ProgAt W pv p)(hI:IntsAt W.heap.size W sv s)(hpl:p.length<=2932031007300)(bq:∀ c∈p,c.length<=4398046510976)(cu:s.length<=17592186043904)(co:0<=n)(ck:n<=9000000000000)(hK:∀ c,c<5->(K c).length<=4900000000000):
  Calls Tryz.prog 6 #[pt b,pv,sv]w(HzF W B b(n+2)K w who):=by
 have HH:=hZ h;have HW:=hZ hW;have HS:=hZ hS;have HP:=hZ hP;have HI:=hZ hI;have bE:=hZ bq;have HK:=hZ hK;obtain⟨ao,aD,rfl⟩:=hP.form;obtain⟨so,sc,rfl⟩:=hI.form;have bg:pt b= .pointer(some⟨b,0,none⟩):=rfl;have aL:=hZ(ns W B(w.alloc(.cells #[.slice ao p.length aD]37))b who n f K [] [] [](.agg #[.slice ao p.length aD])p(h.lx.grown(ij(il _ _)))(ij hW)aH hP(by omega)bq(by simp;omega)(by simp));clear h hW hS hP hI bq hK;rw [bg]at aL ⊢;go_enter Tryz.func6,Tryz.ntmps6
 go_wp2_with fail
 refine aL.out.mono ?_;clear aL;rintro e w1⟨g,LC1,aJ,f1,rfl,bd,bA,a9,ac⟩;have b6:who w.heap.size= .other:=by
  by_cases e:who w.heap.size= .other
  ·exact e
  ·exact absurd(HH.out.1.1.dom _ e).2(by omega)
 obtain⟨aE,aF⟩:=a9.oth w.heap.size(by simp)b6(fun e=>e);have bM:Hid(W.grownBy w1 none):=a9.base(ij HW.out)aH(fun g e=>(HH.out.1.1.dom g e).1)(fun _ e=>e.elim);have cp:Hid(Fr w w1 who aJ(fun g=>w.heap.size<=g)):=(Fr.grown(ij(il _ _))).step0 a9;have c1:w1.cell?⟨w.heap.size,0,none⟩=some(.slice ao p.length aD):=by
  simp only [World.cell?,aE,heap_alloc_new];rfl
 have b4:LC1.length=p.length:=by rw [<-bA];simp
 simp only [List.nil_append]at bd;have a8:ProgAt w1(.agg #[.slice(some⟨g,0,none⟩)p.length(p.length+2)])p:=np(LC0:= [])(by simpa using bd.le)ac bA _;have bU:=hZ(zW p _ w1(HS.out.pres(ie bM.out))a8);have ch:=hZ bd;have b2:=hZ aF;have bb:=hZ b4;have b8:=hZ c1;clear bd bA a9 ac aE b6 aF b4 a8 c1;go_wp2_with fail
 refine bU.out.mono ?_;clear bU;rintro e w2⟨rfl,a0⟩;have ce:Hid(W.grownBy w2 none):=ic bM.out a0;have cj:Hid(Fr w w2 who aJ(fun g=>w.heap.size<=g)):=cp.out.stepG a0;have bp:=hZ(ch.out.grown a0);have c2:=ie a0 _ _ b8.out;have aV:w.heap.size<w2.heap.size:=World.block_lt_of_cell? w2 _ c2;have aL:=hZ(ns W B w2 b aJ n f1 K []LC1 [(g,p.length)](.agg #[.slice ao p.length aD])p bp.out ce.out aH HP.out(by omega)bE.out(by rw [bb.out];omega)(by simp));have bO:=hZ c2;obtain⟨cn,bz⟩:∃ cn,cn=je p:=⟨_,rfl⟩;rw [<-bz];have bJ:=hZ bz;clear a0 ch b8 bz;rw [bg]at aL;go_wp2_with fail
 refine aL.out.mono ?_;clear aL c2;rintro e w3⟨g3,bB,a5,f3,rfl,a7,aI,ba,ad⟩;have bw:Hid(W.grownBy w3 none):=ba.base ce.out aH(fun g e=>(bp.out.hs.1.dom g e).1)(fun _ e=>e.elim);have cq:Hid(Fr w w3 who a5(fun g=>w.heap.size<=g)):=cj.out.step0 ba;obtain⟨aE,aF⟩:=ba.oth w.heap.size aV b2.out(fun e=>e);have bl:Hid(w3.cell?⟨w.heap.size,0,none⟩=some(.slice ao p.length aD)):=by
  unfold Hid;rw [World.cell?_of_block aE];exact bO.out
 have a3:w.heap.size<w3.heap.size:=World.block_lt_of_cell? w3 _ bl.out;have aS:bB.length=p.length:=by rw [<-aI];simp
 simp only [List.singleton_append]at a7;have bv:=hZ(lZ B w3 b a5 n f3 K [](LC1++bB) [(g,p.length),(g3,p.length)]0(.slice so s.length sc)s a7((HI.out.pres(ie bw.out)).mono bw.out.size)(mC a7.hs aH HI.out)cu(by simp));have bX:=hZ a7;have bk:=hZ aI;have a1:=hZ aS;have aR:=hZ aF;clear a7 aI ba ad aE aF aS bp bO b2;rw [bg]at bv;go_wp2_with fail
 refine bv.out.mono ?_;clear bv;rintro e w4⟨gs,ax,f4,rfl,aN,bc⟩;simp only [List.nil_append]at aN;have bT:Hid(W.grownBy w4 none):=bc.base bw.out aH(fun g e=>(bX.out.hs.1.dom g e).1)(fun _ e=>e.elim);have bR:Hid(Fr w w4 who ax(fun g=>w.heap.size<=g)):=cq.out.step0 bc;obtain⟨aE,aF⟩:=bc.oth w.heap.size a3 aR.out(fun e=>e);have aX:=hZ aF;have b7:Hid(w4.cell?⟨w.heap.size,0,none⟩=some(.slice ao p.length aD)):=by
  unfold Hid;rw [World.cell?_of_block aE];exact bl.out
 have bL:w4.heap[g3]?=some(.cells(jx bB)66(0,0)):=by
  have:=(aN.le.lr 1(by simp)).1;simp only [List.getElem_cons_succ,List.getElem_cons_zero,List.take_succ_cons,List.take_zero,List.map_cons,List.map_nil,List.sum_cons,List.sum_nil,Nat.add_zero]at this;rw [List.drop_append_of_le_length(by rw [bb.out];omega),List.drop_eq_nil_of_le(by rw [bb.out];omega),List.nil_append,List.take_of_length_le(by rw [a1.out];omega)]at this;exact this
 have a8:ProgAt w4(.agg #[.slice(some⟨g3,0,none⟩)p.length(p.length+2)])p:=np(LC0:=LC1)aN.le bL bk.out _;have b9:IntsAt w4.heap.size w4(.slice(some⟨gs,0,none⟩)s.length(s.length+2))s:=l9(aN.le.li(gs,s, .slice so s.length sc)(by simp)).1;have cb:=hZ(wD p s _ _ w4(HS.out.pres(ie bT.out))a8 b9);have aU:=hZ aN;clear aN bc aE aF bL a8 b9 bX bl aR aV a3;go_wp2_with fail
 refine cb.out.mono ?_;clear cb;intro e w5 hR;obtain⟨bS,rv,c,he,hV⟩:=hR.form;clear hR;subst he;have HR:=hZ hV;obtain⟨k,t,a,v0,v1,v2,v3,x1,x3,y1,y3,m,q,cw,hx⟩:=hV;clear hx;subst cw;have aB:=hZ bS;clear bS;go_wp2_with fail
 have aP:w5.grownBy(w5.alloc(.cells #[.int .i64 k, .int .i64 t, .int .i64 a, .slice x1 m x3, .int .i64 v0, .int .i64 v1, .int .i64 v2, .int .i64 v3, .slice y1 q y3]31))none:=ij(il _ _);have ab:=heap_alloc_new w5(.cells #[.int .i64 k, .int .i64 t, .int .i64 a, .slice x1 m x3, .int .i64 v0, .int .i64 v1, .int .i64 v2, .int .i64 v3, .slice y1 q y3]31);generalize w5.alloc(.cells #[.int .i64 k, .int .i64 t, .int .i64 a, .slice x1 m x3, .int .i64 v0, .int .i64 v1, .int .i64 v2, .int .i64 v3, .slice y1 q y3]31)=w6 at aP ab ⊢;have aA:=hZ aP;have bP:=hZ ab;have bI:Hid(w5.heap.size<w6.heap.size):=(Array.getElem?_eq_some_iff.1 ab).1;have bK:Hid(W.grownBy w6 none):=ic bT.out(ic aB.out aP);have cr:Hid(Fr w w6 who ax(fun g=>w.heap.size<=g)):=bR.out.stepG(ic aB.out aP);have bn:=hZ(rl B w6 b ax n f4 K _ _ _(aU.out.grown(ic aB.out aP))(by simp)(by rw [List.length_append,bb.out,a1.out];omega)(by simp));rw [bg]at bn;clear aP ab;refine bn.out.mono ?_;clear bn;rintro e w7⟨rfl,f7,cd,aM⟩;have aZ:Hid(W.grownBy w7 none):=aM.base bK.out aH(fun g e=>(aU.out.hs.1.dom g e).1)(fun _ e=>e.elim);have cv:Hid(Fr w w7 who ax(fun g=>w.heap.size<=g)):=cr.out.step0 aM;have aG:∀ g,w4.heap.size<=g->ax g= .other:=fun g h1=>by
  by_cases e:ax g= .other
  ·exact e
  ·exact absurd(aU.out.hs.1.dom g e).2(by omega)
 have HOT:=hZ aG;have bW:Hid(B<=w4.heap.size):=by
  have:=aU.out.low;unfold Hid;omega
 have bm:=aB.out.size;have bj:Hid(w7.heap[w5.heap.size]?=some(.cells #[.int .i64 k, .int .i64 t, .int .i64 a, .slice x1 m x3, .int .i64 v0, .int .i64 v1, .int .i64 v2, .int .i64 v3, .slice y1 q y3]31(0,0))):=by
  unfold Hid;rw [(aM.oth w5.heap.size bI.out(aG _ bm)(fun e=>e)).1];exact bP.out
 have bD:Hid(w7.cell?⟨w.heap.size,0,none⟩=some(.slice ao p.length aD)):=by
  have bF:=ie(ic aB.out aA.out)_ _ b7.out;unfold Hid;rw [World.cell?_of_block(aM.oth w.heap.size(World.block_lt_of_cell? w6 _ bF)aX.out(fun e=>e)).1];exact bF
 obtain⟨hm,hq,aO,aW⟩:=HR.out.rows;have bG:Hid(w7.ownsRow w4.heap.size 76 2(.slice x1 m x3)m(iO(sA p s))):=iJ(iA aO aA.out(fun _ e=>by cases e))(fun g e=>(aM.oth g(Nat.lt_of_lt_of_le(iW aO g e)aA.out.size)(aG g(iw aO g e))(fun e=>e)).1);have bV:Hid(w7.ownsRow w4.heap.size 28 4(.slice y1 q y3)q(jm(su p s)(iF p s).st)):=iJ(iA aW aA.out(fun _ e=>by cases e))(fun g e=>(aM.oth g(Nat.lt_of_lt_of_le(iW aW g e)aA.out.size)(aG g(iw aW g e))(fun e=>e)).1);have ci:Hid((Value.slice x1 m x3).ownBlock≠some w5.heap.size):=fun e=>by have:=iW aO _ e;omega
 have cz:Hid(∀ g,(Value.slice x1 m x3).ownBlock=some g->ax g= .other):=fun g e=>aG g(iw aO g e)
 have cs:Hid(∀ g,(Value.slice y1 q y3).ownBlock=some g->ax g= .other):=fun g e=>aG g(iw aW g e)
 have br:Hid(m=(sA p s).length/\q=su p s):=⟨hm,hq⟩;have bo:=hZ cd;have bN:=hZ(wY p s _ _ w7(HP.out.pres(ie aZ.out))((HI.out.pres(ie aZ.out)).mono aZ.out.size)(by omega)bE.out);have c7:=bD.out;have cC:Hid(ax w5.heap.size= .other):=aG _ bm;clear cd aM aG hm hq aO aW aU b7 bP bK bI aA aX bm;go_wp2_with fail
 refine bN.out.mono ?_;clear bN c7;intro e w8 hR;obtain⟨cg,rv,c',he,hV⟩:=hR.form;clear hR;subst he;have b0:=hZ hV;obtain⟨cl,k2,t2,a2,u0,u1,u2,u3,e1,e2,e3,e4,m2,q2,z1,z3,r1,r3,hA,hB⟩:=HR.out.same hV;clear hV;simp only [Value.agg.injEq,Array.mk.injEq,List.cons.injEq,Value.int.injEq,Value.slice.injEq,true_and,and_true]at hA;obtain⟨rfl,rfl,rfl,⟨rfl,rfl,rfl⟩,rfl,rfl,rfl,rfl,rfl,rfl,rfl⟩:=hA;subst hB cl;have a6:=hZ cg;clear cg HR;go_upto_region 5 with fail
 have aT:w8.grownBy(w8.alloc(.cells #[.int .i64 k, .int .i64 t, .int .i64 a, .slice z1 m z3, .int .i64 v0, .int .i64 v1, .int .i64 v2, .int .i64 v3, .slice r1 q r3]31))none:=ij(il _ _);have bu:=heap_alloc_new w8(.cells #[.int .i64 k, .int .i64 t, .int .i64 a, .slice z1 m z3, .int .i64 v0, .int .i64 v1, .int .i64 v2, .int .i64 v3, .slice r1 q r3]31);generalize w8.alloc(.cells #[.int .i64 k, .int .i64 t, .int .i64 a, .slice z1 m z3, .int .i64 v0, .int .i64 v1, .int .i64 v2, .int .i64 v3, .slice r1 q r3]31)=w9 at aT bu ⊢;have az:Hid(w7.grownBy w9 none):=ic a6.out aT;have bh:=hZ bu;have aK:Hid(w9.heap[w5.heap.size]?=some(.cells #[.int .i64 k, .int .i64 t, .int .i64 a, .slice x1 m x3, .int .i64 v0, .int .i64 v1, .int .i64 v2, .int .i64 v3, .slice y1 q y3]31(0,0))):=by
  unfold Hid;rw [az.out.block _(Array.getElem?_eq_some_iff.1 bj.out).1(by simp)];exact bj.out
 obtain⟨hm,hq,bQ,ca⟩:=b0.out.rows;have be:Hid(w9.ownsRow w4.heap.size 76 2(.slice x1 m x3)m(iO(sA p s))):=iA bG.out az.out(fun _ e=>by cases e);have bf:Hid(w9.ownsRow w4.heap.size 28 4(.slice y1 q y3)q(jm(su p s)(iF p s).st)):=iA bV.out az.out(fun _ e=>by cases e);have cf:Hid(SamS w9 x1 z1 m):=D3 hm be.out(iA bQ aT(fun _ e=>by cases e));have b5:Hid(SamR w9 y1 r1 q):=by
  have h1:=bf.out;have h2:=iA ca aT(fun _ e=>by cases e);rw [<-hq]at h1 h2;exact Fv h1 h2
 clear aT bu hm hq bQ ca bj bG bV a6 b0;have bY:Hid(∀ u,w9.grownBy u none->u.cell?⟨w.heap.size,0,none⟩=some(.slice ao p.length aD)/\(u.cell?⟨w5.heap.size,0,none⟩=some(.int .i64 k)/\u.cell?⟨w5.heap.size,1,none⟩=some(.int .i64 t)/\u.cell?⟨w5.heap.size,2,none⟩=some(.int .i64 a)/\u.cell?⟨w5.heap.size,3,none⟩=some(.slice x1 m x3)/\u.cell?⟨w5.heap.size,4,none⟩=some(.int .i64 v0)/\u.cell?⟨w5.heap.size,5,none⟩=some(.int .i64 v1)/\u.cell?⟨w5.heap.size,6,none⟩=some(.int .i64 v2)/\u.cell?⟨w5.heap.size,7,none⟩=some(.int .i64 v3)/\u.cell?⟨w5.heap.size,8,none⟩=some(.slice y1 q y3))/\(u.cell?⟨w8.heap.size,0,none⟩=some(.int .i64 k)/\u.cell?⟨w8.heap.size,1,none⟩=some(.int .i64 t)/\u.cell?⟨w8.heap.size,2,none⟩=some(.int .i64 a)/\u.cell?⟨w8.heap.size,3,none⟩=some(.slice z1 m z3)/\u.cell?⟨w8.heap.size,4,none⟩=some(.int .i64 v0)/\u.cell?⟨w8.heap.size,5,none⟩=some(.int .i64 v1)/\u.cell?⟨w8.heap.size,6,none⟩=some(.int .i64 v2)/\u.cell?⟨w8.heap.size,7,none⟩=some(.int .i64 v3)/\u.cell?⟨w8.heap.size,8,none⟩=some(.slice r1 q r3))):=fun u hu=>by
  have ka:u.heap[w5.heap.size]?=some(.cells #[.int .i64 k, .int .i64 t, .int .i64 a, .slice x1 m x3, .int .i64 v0, .int .i64 v1, .int .i64 v2, .int .i64 v3, .slice y1 q y3]31(0,0)):=by rw [hu.block _(Array.getElem?_eq_some_iff.1 aK.out).1(by simp)];exact aK.out
  have kb:u.heap[w8.heap.size]?=some(.cells #[.int .i64 k, .int .i64 t, .int .i64 a, .slice z1 m z3, .int .i64 v0, .int .i64 v1, .int .i64 v2, .int .i64 v3, .slice r1 q r3]31(0,0)):=by rw [hu.block _(Array.getElem?_eq_some_iff.1 bh.out).1(by simp)];exact bh.out
  obtain⟨p0,p1,p2,p3,p4,p5,p6,p7,p8,_⟩:=kA ka;obtain⟨q0,q1,q2,q3,q4,q5,q6,q7,q8,_⟩:=kA kb;exact⟨ie(ic az.out hu)_ _ bD.out,⟨p0,p1,p2,p3,p4,p5,p6,p7,p8⟩,⟨q0,q1,q2,q3,q4,q5,q6,q7,q8⟩⟩
 have cx:Hid(∀ u,w9.grownBy u none->Calls Tryz.prog 24 #[.agg #[.slice ao p.length aD]]u fun e w'=>e= .returned(.int .i64 cn)/\u.grownBy w' none):=fun u hu=>by
  rw [bJ.out];exact mE p _ u(HP.out.pres(ie(ic aZ.out(ic az.out hu))))(by omega)bE.out
 have bt:Hid(∀ u,w9.grownBy u none->Hz B u b ax n f7 K/\W.grownBy u none/\u.ownsRow B 76 2(.slice x1 m x3)m(iO(sA p s))/\u.ownsRow B 28 4(.slice y1 q y3)q(jm(su p s)(iF p s).st)/\SamS u x1 z1 m/\SamR u y1 r1 q):=fun u hu=>
  ⟨⟨bo.out.1.grown(ic az.out hu),bo.out.2⟩,ic aZ.out(ic az.out hu),iN(iA be.out hu(fun _ e=>by cases e))bW.out,iN(iA bf.out hu(fun _ e=>by cases e))bW.out,cf.out.pres(ie hu),b5.out.pres(ie hu)⟩
 have cc:Hid(m<=500/\q<=4):=⟨by rw [br.out.1];exact EA p s,by rw [br.out.2];exact Fp p s⟩;have cA:Hid(∀ g,((Value.slice x1 m x3).ownBlock=some g\/(Value.slice y1 q y3).ownBlock=some g)->w.heap.size<=g):=fun g e=>by
  have h4:=bR.out.size;rcases e with e | e
  ·have:=iw be.out g e;omega
  ·have:=iw bf.out g e;omega
 have bi:=bY.out w9.drew(ir(il _ _));clear be bf cf b5 aK bh bo bD bJ br;refine iu(fun u=>u.cell?⟨w.heap.size,0,none⟩=some(.slice ao p.length aD)/\(u.cell?⟨w5.heap.size,0,none⟩=some(.int .i64 k)/\u.cell?⟨w5.heap.size,1,none⟩=some(.int .i64 t)/\u.cell?⟨w5.heap.size,2,none⟩=some(.int .i64 a)/\u.cell?⟨w5.heap.size,3,none⟩=some(.slice x1 m x3)/\u.cell?⟨w5.heap.size,4,none⟩=some(.int .i64 v0)/\u.cell?⟨w5.heap.size,5,none⟩=some(.int .i64 v1)/\u.cell?⟨w5.heap.size,6,none⟩=some(.int .i64 v2)/\u.cell?⟨w5.heap.size,7,none⟩=some(.int .i64 v3)/\u.cell?⟨w5.heap.size,8,none⟩=some(.slice y1 q y3))/\(u.cell?⟨w8.heap.size,0,none⟩=some(.int .i64 k)/\u.cell?⟨w8.heap.size,1,none⟩=some(.int .i64 t)/\u.cell?⟨w8.heap.size,2,none⟩=some(.int .i64 a)/\u.cell?⟨w8.heap.size,3,none⟩=some(.slice z1 m z3)/\u.cell?⟨w8.heap.size,4,none⟩=some(.int .i64 v0)/\u.cell?⟨w8.heap.size,5,none⟩=some(.int .i64 v1)/\u.cell?⟨w8.heap.size,6,none⟩=some(.int .i64 v2)/\u.cell?⟨w8.heap.size,7,none⟩=some(.int .i64 v3)/\u.cell?⟨w8.heap.size,8,none⟩=some(.slice r1 q r3)))46(by kernel_rfl)(by kernel_rfl)bi ?_;intro ay;refine hY(i:=0)(v:= ?vv1)rfl(by kernel_rfl)(fun _ _ _ h=>h)(Or.inl⟨by kernel_rfl, ?hy1⟩)ay ?rest1
 case hy1=>(rintro u⟨ap,⟨aj,am,ae,al,an,au,af,aq,ar⟩,⟨av,ac,aw,ad,ah,ak,ab,ai,ag⟩⟩;go_simp;try with_reducible rfl)
 simp only [Act.put,List.setIfInBounds_toArray];refine hY(i:=1)(v:= ?vv2)rfl(by kernel_rfl)(fun _ _ _ h=>h)(Or.inl⟨by kernel_rfl, ?hy2⟩)ay ?rest2
 case hy2=>(rintro u⟨ap,⟨aj,am,ae,al,an,au,af,aq,ar⟩,⟨av,ac,aw,ad,ah,ak,ab,ai,ag⟩⟩;go_simp;try with_reducible rfl)
 simp only [Act.put];refine hY(i:=2)(v:= ?vv3)rfl(by kernel_rfl)(fun _ _ _ h=>h)(Or.inl⟨by kernel_rfl, ?hy3⟩)ay ?rest3
 case hy3=>(rintro u⟨ap,⟨aj,am,ae,al,an,au,af,aq,ar⟩,⟨av,ac,aw,ad,ah,ak,ab,ai,ag⟩⟩;go_simp;try with_reducible rfl)
 simp only [Act.put];refine hY(i:=4)(v:= ?vv4)rfl(by kernel_rfl)(fun _ _ _ h=>h)(Or.inl⟨by kernel_rfl, ?hy4⟩)ay ?rest4
 case hy4=>(rintro u⟨ap,⟨aj,am,ae,al,an,au,af,aq,ar⟩,⟨av,ac,aw,ad,ah,ak,ab,ai,ag⟩⟩;go_simp;try with_reducible rfl)
 simp only [Act.put];refine ip(i:=3)rfl(by kernel_rfl)(by kernel_rfl)(by kernel_rfl) ?_;intro K3 b1;have b3:=hZ b1;clear b1;go_simp;refine(rs _ _).mono ?_;rintro e wA⟨rfl,ct⟩;obtain rfl:=ct.symm;refine b3.out _ _ ay ?_;clear b3;try simp only [Act.put,List.setIfInBounds_toArray]
 refine ip(i:=5)rfl(by kernel_rfl)(by kernel_rfl)(by kernel_rfl) ?_;intro K5 bZ;have bH:=hZ bZ;clear bZ;go_simp;refine(cx.out _(ir(il _ _))).mono ?_;rintro e bx⟨rfl,aQ⟩;have aC:Hid(w9.grownBy bx none):=uo aQ;have aa:=bY.out bx aC.out;clear aQ;refine bH.out _ _ aa ?_;clear bH;try simp only [Act.put,List.setIfInBounds_toArray]
 refine hY(i:=6)(v:= ?vv5)rfl(by kernel_rfl)(fun _ _ _ h=>h)(Or.inl⟨by kernel_rfl, ?hy5⟩)aa ?rest5
 case hy5=>(rintro u⟨ap,⟨aj,am,ae,al,an,au,af,aq,ar⟩,⟨av,ac,aw,ad,ah,ak,ab,ai,ag⟩⟩;go_simp;try with_reducible rfl)
 simp only [Act.put,List.setIfInBounds_toArray];refine hY(i:=7)(v:= ?vv6)rfl(by kernel_rfl)(fun _ _ _ h=>h)(Or.inl⟨by kernel_rfl, ?hy6⟩)aa ?rest6
 case hy6=>(rintro u⟨ap,⟨aj,am,ae,al,an,au,af,aq,ar⟩,⟨av,ac,aw,ad,ah,ak,ab,ai,ag⟩⟩;go_simp;try with_reducible rfl)
 simp only [Act.put];refine hY(i:=8)(v:= ?vv7)rfl(by kernel_rfl)(fun _ _ _ h=>h)(Or.inl⟨by kernel_rfl, ?hy7⟩)aa ?rest7
 case hy7=>(rintro u⟨ap,⟨aj,am,ae,al,an,au,af,aq,ar⟩,⟨av,ac,aw,ad,ah,ak,ab,ai,ag⟩⟩;go_simp;try with_reducible rfl)
 simp only [Act.put];refine hY(i:=9)(v:= ?vv8)rfl(by kernel_rfl)(fun _ _ _ h=>h)(Or.inl⟨by kernel_rfl, ?hy8⟩)aa ?rest8
 case hy8=>(rintro u⟨ap,⟨aj,am,ae,al,an,au,af,aq,ar⟩,⟨av,ac,aw,ad,ah,ak,ab,ai,ag⟩⟩;go_simp;try with_reducible rfl)
 simp only [Act.put];refine hY(i:=11)(v:= ?vv9)rfl(by kernel_rfl)(fun _ _ _ h=>h)(Or.inl⟨by kernel_rfl, ?hy9⟩)aa ?rest9
 case hy9=>(rintro u⟨ap,⟨aj,am,ae,al,an,au,af,aq,ar⟩,⟨av,ac,aw,ad,ah,ak,ab,ai,ag⟩⟩;go_simp;try with_reducible rfl)
 simp only [Act.put];refine ip(i:=10)rfl(by kernel_rfl)(by kernel_rfl)(by kernel_rfl) ?_;intro K10 aY;have a4:=hZ aY;clear aY;go_simp;refine(rs _ _).mono ?_;rintro e wB⟨rfl,cm⟩;obtain rfl:=cm.symm;refine a4.out _ _ aa ?_;clear a4;try simp only [Act.put,List.setIfInBounds_toArray]
 refine hY(i:=12)(v:= ?vv10)rfl(by kernel_rfl)(fun _ _ _ h=>h)(Or.inl⟨by kernel_rfl, ?hy10⟩)aa ?rest10
 case hy10=>(rintro u⟨ap,⟨aj,am,ae,al,an,au,af,aq,ar⟩,⟨av,ac,aw,ad,ah,ak,ab,ai,ag⟩⟩;go_simp;try with_reducible rfl)
 simp only [Act.put,List.setIfInBounds_toArray];refine hY(i:=13)(v:= ?vv11)rfl(by kernel_rfl)(fun _ _ _ h=>h)(Or.inl⟨by kernel_rfl, ?hy11⟩)aa ?rest11
 case hy11=>(rintro u⟨ap,⟨aj,am,ae,al,an,au,af,aq,ar⟩,⟨av,ac,aw,ad,ah,ak,ab,ai,ag⟩⟩;go_simp;try with_reducible rfl)
 simp only [Act.put];refine hY(i:=14)(v:= ?vv12)rfl(by kernel_rfl)(fun _ _ _ h=>h)(Or.inl⟨by kernel_rfl, ?hy12⟩)aa ?rest12
 case hy12=>(rintro u⟨ap,⟨aj,am,ae,al,an,au,af,aq,ar⟩,⟨av,ac,aw,ad,ah,ak,ab,ai,ag⟩⟩;go_simp;try with_reducible rfl)
 simp only [Act.put];refine hY(i:=15)(v:= ?vv13)rfl(by kernel_rfl)(fun _ _ _ h=>h)(Or.inl⟨by kernel_rfl, ?hy13⟩)aa ?rest13
 case hy13=>(rintro u⟨ap,⟨aj,am,ae,al,an,au,af,aq,ar⟩,⟨av,ac,aw,ad,ah,ak,ab,ai,ag⟩⟩;go_simp;try with_reducible rfl)
 simp only [Act.put];refine hY(i:=16)(v:= ?vv14)rfl(by kernel_rfl)(fun _ _ _ h=>h)(Or.inl⟨by kernel_rfl, ?hy14⟩)aa ?rest14
 case hy14=>(rintro u⟨ap,⟨aj,am,ae,al,an,au,af,aq,ar⟩,⟨av,ac,aw,ad,ah,ak,ab,ai,ag⟩⟩;go_simp;try with_reducible rfl)
 simp only [Act.put];refine hY(i:=17)(v:= ?vv15)rfl(by kernel_rfl)(fun _ _ _ h=>h)(Or.inl⟨by kernel_rfl, ?hy15⟩)aa ?rest15
 case hy15=>(rintro u⟨ap,⟨aj,am,ae,al,an,au,af,aq,ar⟩,⟨av,ac,aw,ad,ah,ak,ab,ai,ag⟩⟩;go_simp;try with_reducible rfl)
 simp only [Act.put];refine hY(i:=18)(v:= ?vv16)rfl(by kernel_rfl)(fun _ _ _ h=>h)(Or.inl⟨by kernel_rfl, ?hy16⟩)aa ?rest16
 case hy16=>(rintro u⟨ap,⟨aj,am,ae,al,an,au,af,aq,ar⟩,⟨av,ac,aw,ad,ah,ak,ab,ai,ag⟩⟩;go_simp;try with_reducible rfl)
 simp only [Act.put];refine hY(i:=19)(v:= ?vv17)rfl(by kernel_rfl)(fun _ _ _ h=>h)(Or.inl⟨by kernel_rfl, ?hy17⟩)aa ?rest17
 case hy17=>(rintro u⟨ap,⟨aj,am,ae,al,an,au,af,aq,ar⟩,⟨av,ac,aw,ad,ah,ak,ab,ai,ag⟩⟩;go_simp;try with_reducible rfl)
 simp only [Act.put];refine hY(i:=20)(v:= ?vv18)rfl(by kernel_rfl)(fun _ _ _ h=>h)(Or.inl⟨by kernel_rfl, ?hy18⟩)aa ?rest18
 case hy18=>(rintro u⟨ap,⟨aj,am,ae,al,an,au,af,aq,ar⟩,⟨av,ac,aw,ad,ah,ak,ab,ai,ag⟩⟩;go_simp;try with_reducible rfl)
 simp only [Act.put];refine hY(i:=21)(v:= ?vv19)rfl(by kernel_rfl)(fun _ _ _ h=>h)(Or.inl⟨by kernel_rfl, ?hy19⟩)aa ?rest19
 case hy19=>(rintro u⟨ap,⟨aj,am,ae,al,an,au,af,aq,ar⟩,⟨av,ac,aw,ad,ah,ak,ab,ai,ag⟩⟩;go_simp;try with_reducible rfl)
 simp only [Act.put];refine hY(i:=22)(v:= ?vv20)rfl(by kernel_rfl)(fun _ _ _ h=>h)(Or.inl⟨by kernel_rfl, ?hy20⟩)aa ?rest20
 case hy20=>(rintro u⟨ap,⟨aj,am,ae,al,an,au,af,aq,ar⟩,⟨av,ac,aw,ad,ah,ak,ab,ai,ag⟩⟩;go_simp;try with_reducible rfl)
 simp only [Act.put];refine hY(i:=23)(v:= ?vv21)rfl(by kernel_rfl)(fun _ _ _ h=>h)(Or.inl⟨by kernel_rfl, ?hy21⟩)aa ?rest21
 case hy21=>(rintro u⟨ap,⟨aj,am,ae,al,an,au,af,aq,ar⟩,⟨av,ac,aw,ad,ah,ak,ab,ai,ag⟩⟩;go_simp;try with_reducible rfl)
 simp only [Act.put];refine hY(i:=24)(v:= ?vv22)rfl(by kernel_rfl)(fun _ _ _ h=>h)(Or.inl⟨by kernel_rfl, ?hy22⟩)aa ?rest22
 case hy22=>(rintro u⟨ap,⟨aj,am,ae,al,an,au,af,aq,ar⟩,⟨av,ac,aw,ad,ah,ak,ab,ai,ag⟩⟩;go_simp;try with_reducible rfl)
 simp only [Act.put];refine hY(i:=25)(v:= ?vv23)rfl(by kernel_rfl)(fun _ _ _ h=>h)(Or.inl⟨by kernel_rfl, ?hy23⟩)aa ?rest23
 case hy23=>(rintro u⟨ap,⟨aj,am,ae,al,an,au,af,aq,ar⟩,⟨av,ac,aw,ad,ah,ak,ab,ai,ag⟩⟩;go_simp;try with_reducible rfl)
 simp only [Act.put];refine hY(i:=26)(v:= ?vv24)rfl(by kernel_rfl)(fun _ _ _ h=>h)(Or.inl⟨by kernel_rfl, ?hy24⟩)aa ?rest24
 case hy24=>(rintro u⟨ap,⟨aj,am,ae,al,an,au,af,aq,ar⟩,⟨av,ac,aw,ad,ah,ak,ab,ai,ag⟩⟩;go_simp;try with_reducible rfl)
 simp only [Act.put];refine hY(i:=27)(v:= ?vv25)rfl(by kernel_rfl)(fun _ _ _ h=>h)(Or.inl⟨by kernel_rfl, ?hy25⟩)aa ?rest25
 case hy25=>(rintro u⟨ap,⟨aj,am,ae,al,an,au,af,aq,ar⟩,⟨av,ac,aw,ad,ah,ak,ab,ai,ag⟩⟩;go_simp;try with_reducible rfl)
 simp only [Act.put];refine hY(i:=28)(v:= ?vv26)rfl(by kernel_rfl)(fun _ _ _ h=>h)(Or.inl⟨by kernel_rfl, ?hy26⟩)aa ?rest26
 case hy26=>(rintro u⟨ap,⟨aj,am,ae,al,an,au,af,aq,ar⟩,⟨av,ac,aw,ad,ah,ak,ab,ai,ag⟩⟩;go_simp;try with_reducible rfl)
 simp only [Act.put];refine hY(i:=29)(v:= ?vv27)rfl(by kernel_rfl)(fun _ _ _ h=>h)(Or.inl⟨by kernel_rfl, ?hy27⟩)aa ?rest27
 case hy27=>(rintro u⟨ap,⟨aj,am,ae,al,an,au,af,aq,ar⟩,⟨av,ac,aw,ad,ah,ak,ab,ai,ag⟩⟩;go_simp;try with_reducible rfl)
 simp only [Act.put];refine hY(i:=30)(v:= ?vv28)rfl(by kernel_rfl)(fun _ _ _ h=>h)(Or.inl⟨by kernel_rfl, ?hy28⟩)aa ?rest28
 case hy28=>(rintro u⟨ap,⟨aj,am,ae,al,an,au,af,aq,ar⟩,⟨av,ac,aw,ad,ah,ak,ab,ai,ag⟩⟩;go_simp;try with_reducible rfl)
 simp only [Act.put];refine hY(i:=31)(v:= ?vv29)rfl(by kernel_rfl)(fun _ _ _ h=>h)(Or.inl⟨by kernel_rfl, ?hy29⟩)aa ?rest29
 case hy29=>(rintro u⟨ap,⟨aj,am,ae,al,an,au,af,aq,ar⟩,⟨av,ac,aw,ad,ah,ak,ab,ai,ag⟩⟩;go_simp;try with_reducible rfl)
 simp only [Act.put];refine hY(i:=32)(v:= ?vv30)rfl(by kernel_rfl)(fun _ _ _ h=>h)(Or.inl⟨by kernel_rfl, ?hy30⟩)aa ?rest30
 case hy30=>(rintro u⟨ap,⟨aj,am,ae,al,an,au,af,aq,ar⟩,⟨av,ac,aw,ad,ah,ak,ab,ai,ag⟩⟩;go_simp;try with_reducible rfl)
 simp only [Act.put];refine hY(i:=33)(v:= ?vv31)rfl(by kernel_rfl)(fun _ _ _ h=>h)(Or.inl⟨by kernel_rfl, ?hy31⟩)aa ?rest31
 case hy31=>(rintro u⟨ap,⟨aj,am,ae,al,an,au,af,aq,ar⟩,⟨av,ac,aw,ad,ah,ak,ab,ai,ag⟩⟩;go_simp;try with_reducible rfl)
 simp only [Act.put];refine hY(i:=34)(v:= ?vv32)rfl(by kernel_rfl)(fun _ _ _ h=>h)(Or.inl⟨by kernel_rfl, ?hy32⟩)aa ?rest32
 case hy32=>(rintro u⟨ap,⟨aj,am,ae,al,an,au,af,aq,ar⟩,⟨av,ac,aw,ad,ah,ak,ab,ai,ag⟩⟩;go_simp;try with_reducible rfl)
 simp only [Act.put];refine hY(i:=35)(v:= ?vv33)rfl(by kernel_rfl)(fun _ _ _ h=>h)(Or.inl⟨by kernel_rfl, ?hy33⟩)aa ?rest33
 case hy33=>(rintro u⟨ap,⟨aj,am,ae,al,an,au,af,aq,ar⟩,⟨av,ac,aw,ad,ah,ak,ab,ai,ag⟩⟩;go_simp;try with_reducible rfl)
 simp only [Act.put];refine hY(i:=36)(v:= ?vv34)rfl(by kernel_rfl)(fun _ _ _ h=>h)(Or.inl⟨by kernel_rfl, ?hy34⟩)aa ?rest34
 case hy34=>(rintro u⟨ap,⟨aj,am,ae,al,an,au,af,aq,ar⟩,⟨av,ac,aw,ad,ah,ak,ab,ai,ag⟩⟩;go_simp;try with_reducible rfl)
 simp only [Act.put];refine hY(i:=37)(v:= ?vv35)rfl(by kernel_rfl)(fun _ _ _ h=>h)(Or.inl⟨by kernel_rfl, ?hy35⟩)aa ?rest35
 case hy35=>(rintro u⟨ap,⟨aj,am,ae,al,an,au,af,aq,ar⟩,⟨av,ac,aw,ad,ah,ak,ab,ai,ag⟩⟩;go_simp;try with_reducible rfl)
 simp only [Act.put];refine hY(i:=38)(v:= ?vv36)rfl(by kernel_rfl)(fun _ _ _ h=>h)(Or.inl⟨by kernel_rfl, ?hy36⟩)aa ?rest36
 case hy36=>(rintro u⟨ap,⟨aj,am,ae,al,an,au,af,aq,ar⟩,⟨av,ac,aw,ad,ah,ak,ab,ai,ag⟩⟩;go_simp;try with_reducible rfl)
 simp only [Act.put];refine hY(i:=39)(v:= ?vv37)rfl(by kernel_rfl)(fun _ _ _ h=>h)(Or.inl⟨by kernel_rfl, ?hy37⟩)aa ?rest37
 case hy37=>(rintro u⟨ap,⟨aj,am,ae,al,an,au,af,aq,ar⟩,⟨av,ac,aw,ad,ah,ak,ab,ai,ag⟩⟩;go_simp;try with_reducible rfl)
 simp only [Act.put];refine hY(i:=40)(v:= ?vv38)rfl(by kernel_rfl)(fun _ _ _ h=>h)(Or.inl⟨by kernel_rfl, ?hy38⟩)aa ?rest38
 case hy38=>(rintro u⟨ap,⟨aj,am,ae,al,an,au,af,aq,ar⟩,⟨av,ac,aw,ad,ah,ak,ab,ai,ag⟩⟩;go_simp;try with_reducible rfl)
 simp only [Act.put];refine hY(i:=41)(v:= ?vv39)rfl(by kernel_rfl)(fun _ _ _ h=>h)(Or.inl⟨by kernel_rfl, ?hy39⟩)aa ?rest39
 case hy39=>(rintro u⟨ap,⟨aj,am,ae,al,an,au,af,aq,ar⟩,⟨av,ac,aw,ad,ah,ak,ab,ai,ag⟩⟩;go_simp;try with_reducible rfl)
 simp only [Act.put];refine hY(i:=42)(v:= ?vv40)rfl(by kernel_rfl)(fun _ _ _ h=>h)(Or.inl⟨by kernel_rfl, ?hy40⟩)aa ?rest40
 case hy40=>(rintro u⟨ap,⟨aj,am,ae,al,an,au,af,aq,ar⟩,⟨av,ac,aw,ad,ah,ak,ab,ai,ag⟩⟩;go_simp;try with_reducible rfl)
 simp only [Act.put];refine hY(i:=43)(v:= ?vv41)rfl(by kernel_rfl)(fun _ _ _ h=>h)(Or.inl⟨by kernel_rfl, ?hy41⟩)aa ?rest41
 case hy41=>(rintro u⟨ap,⟨aj,am,ae,al,an,au,af,aq,ar⟩,⟨av,ac,aw,ad,ah,ak,ab,ai,ag⟩⟩;go_simp;try with_reducible rfl)
 simp only [Act.put];refine hY(i:=44)(v:= ?vv42)rfl(by kernel_rfl)(fun _ _ _ h=>h)(Or.inl⟨by kernel_rfl, ?hy42⟩)aa ?rest42
 case hy42=>(rintro u⟨ap,⟨aj,am,ae,al,an,au,af,aq,ar⟩,⟨av,ac,aw,ad,ah,ak,ab,ai,ag⟩⟩;go_simp;try with_reducible rfl)
 simp only [Act.put];refine hY(i:=45)(v:= ?vv43)rfl(by kernel_rfl)(fun _ _ _ h=>h)(Or.inl⟨by kernel_rfl, ?hy43⟩)aa ?rest43
 case hy43=>(rintro u⟨ap,⟨aj,am,ae,al,an,au,af,aq,ar⟩,⟨av,ac,aw,ad,ah,ak,ab,ai,ag⟩⟩;go_simp;try with_reducible rfl)
 simp only [Act.put];refine iE rfl(by kernel_rfl)(by kernel_rfl)(by kernel_rfl) ?_;go_simp;clear ay;refine ‹∀ a w,Code.wp Tryz.prog _ _ a w->_› _ _ ?_;obtain⟨z0,z2,cB,z4,z5,z6⟩:=bt.out bx aC.out;refine Ec z0 z2 aH cB z4 cz cs z5 z6 aa.2.1.2.2.2.1 aa.2.1.2.2.2.2.2.2.2.2 aa.2.2.2.2.2.1 aa.2.2.2.2.2.2.2.2.2.2 cC ci cc.out.1 cc.out.2 co ck HK ?_;intro z0 z1 z2 z3 z4 z5 z7 z8 z9 z10 z11 z12 z13 z14 z15 z16 z17 z18 z19 z20 z21 z22 z23 z24 z25 z26 z27 z28 z29 z30 z31 z32 z33 z34 z35 z36 z37 z38 z39 z40 z41 z42 z43 z44 z45 z46 z47 z48 z49 z50 z51 z52 z53 z54 z55 z56 z57 z58 z59 z60 z61 z62 z63 z64 z65 z66 z67 z68 z69 z70 z71 z72 z73 z74 z75 z76 z77 z78 z79 z80 z81 z82 z83 z84 z85 z86 z87 z88 z89 z90 z91 z92 z93 z94 z95 z96 z97 z98 z99 z100 z101 z102 z103 z104 z105 z106 z107 z108 z109 z110 z111 z112 z113 z114 z115 z116 z117 z118 z119 z120 z121 z122 z123 z124 z125 z126 z127 z128 z129 z130 z131 z132 z133 z134 z135 z136 z137 z138 z139 z140 w' hh;have cy:=hZ hh;clear hh;go_ret;obtain⟨bC,f',K',q1,q2,q3,q4⟩:=cy.out;exact⟨rfl,bC,f',K',q1,q2,q3,(cv.out.stepG(ic az.out aC.out)).trans(q4.mono cA.out)⟩
end
section
section
variable {α : Type} (d : α -> α -> Bool) (th : α -> Nat)
def jf:List(α × Nat)->α->Nat
 | [],_=>0
 | y::r,x=>if d y.1 x=true then max(y.2+1)(jf r x)else jf r x
def tl:List(α × Nat)->List α->List(α × Nat)
 | _, []=> []
 | past,x::r=>(x,jf d past x)::tl((x,jf d past x)::past)r
theorem vb(a b:List(α × Nat))(x:α):jf d(a++b)x=max(jf d a x)(jf d b x):=by
 induction a with
 | nil=>simp [jf]
 | cons y r ih=>
  simp only [List.cons_append,jf,ih];split<;>omega
theorem yB {a b:List(α × Nat)}(h:a.Perm b)(x:α):jf d a x=jf d b x:=by
 induction h with
 | nil=>rfl
 | cons y _ ih=>simp only [jf,ih]
 | swap y z l=>
  simp only [jf];split<;>split<;>omega
 | trans _ _ ih1 ih2=>rw [ih1,ih2]
theorem DY {a b:List(α × Nat)}(h:a.Perm b)(xs:List α):tl d a xs=tl d b xs:=by
 induction xs generalizing a b with
 | nil=>rfl
 | cons x r ih=>
  simp only [tl];rw [yB d h x,ih(h.cons _)]
theorem AU(past:List(α × Nat))(xs ys:List α):tl d past(xs++ys)=tl d past xs++tl d(tl d past xs++past)ys:=by
 induction xs generalizing past with
 | nil=>simp [tl]
 | cons x r ih=>
  simp only [List.cons_append,tl];rw [ih];congr 2
  exact DY d(by simp)ys
theorem tG(past:List(α × Nat))(xs:List α):(tl d past xs).map(·.1)=xs:=by
 induction xs generalizing past with
 | nil=>rfl
 | cons x r ih=>simp only [tl,List.map_cons,ih]
theorem jy(past:List(α × Nat))(xs:List α):(tl d past xs).length=xs.length:=by
 have:=congrArg List.length(tG d past xs);simpa using this
theorem Fi(xs:List α)(x:α):tl d [](xs++ [x])=tl d []xs++ [(x,jf d(tl d []xs)x)]:=by
 rw [AU];simp [tl]
theorem Db {past:List(α × Nat)} {y:α × Nat} {x:α}(h:y∈past)(hd:d y.1 x=true):y.2+1<=jf d past x:=by
 induction past with
 | nil=>cases h
 | cons z r ih=>
  simp only [jf];rcases List.mem_cons.1 h with h | h
  ·subst h;rw [if_pos hd];omega
  ·have:=ih h;split<;>omega
theorem qK {past:List(α × Nat)} {x:α} {n:Nat}(h:∀ y∈past,d y.1 x=true->y.2+1<=n):jf d past x<=n:=by
 induction past with
 | nil=>simp [jf]
 | cons z r ih=>
  simp only [jf];have h1:=ih(fun y hy=>h y(List.mem_cons_of_mem _ hy));split
  ·have:=h z(List.mem_cons_self ..)‹_›;omega
  ·exact h1
def Eqv(xs ys:List α):Prop:=∀ R:List α->List α->Prop,(∀ a,R a a)->(∀ (a:List α)(x y:α)(b:List α),d x y=false->d y x=false->R(a++x::y::b)(a++y::x::b))->(∀ a b c,R a b->R b c->R a c)->R xs ys
variable {d}
theorem Eqv.refl(xs:List α):Eqv d xs xs:=fun _ h _ _=>h xs
theorem Eqv.swap(a:List α)(x y:α)(b:List α)(h1:d x y=false)(h2:d y x=false):Eqv d(a++x::y::b)(a++y::x::b):=fun _ _ h _=>h a x y b h1 h2
theorem Eqv.trans {xs ys zs:List α}(h:Eqv d xs ys)(h':Eqv d ys zs):Eqv d xs zs:=fun R h1 h2 h3=>h3 xs ys zs(h R h1 h2 h3)(h' R h1 h2 h3)
theorem Eqv.snoc {xs ys:List α}(h:Eqv d xs ys)(z:α):Eqv d(xs++ [z])(ys++ [z]):=by
 refine h(fun xs ys=>Eqv d(xs++ [z])(ys++ [z]))(fun _=>Eqv.refl _)(fun a x y b h1 h2=> ?_)(fun _ _ _ i1 i2=>i1.trans i2);simpa using Eqv.swap a x y(b++ [z])h1 h2
end
theorem tC:∀ {a b:List(Nat × Nat)},a.Perm b->a.Pairwise(fun x y=>x.1<y.1\/(x.1=y.1/\x.2<=y.2))->b.Pairwise(fun x y=>x.1<y.1\/(x.1=y.1/\x.2<=y.2))->a=b
 | [],b,h,_,_=>(List.nil_perm.1 h).symm
 | x::a, [],h,_,_=>absurd h.length_eq(by simp)
 | x::a,y::b,h,h1,h2=>by
  rw [List.pairwise_cons]at h1 h2;have e:x=y:=by
   have hx:x∈y::b:=h.mem_iff.1(List.mem_cons_self ..);have hy:y∈x::a:=h.mem_iff.2(List.mem_cons_self ..);rcases List.mem_cons.1 hx with hx | hx
   ·exact hx
   ·rcases List.mem_cons.1 hy with hy | hy
    ·exact hy.symm
    ·have k1:=h1.1 y hy;have k2:=h2.1 x hx;obtain⟨x1,x2⟩:=x;obtain⟨y1,y2⟩:=y;simp only at k1 k2;have e1:x1=y1:=by omega
     have e2:x2=y2:=by omega
     rw [e1,e2]
  subst e;rw [tC(List.perm_cons _ |>.1 h)h1.2 h2.2]
end
section
open Go.RowKit (wrap64)
def tou(i:Ins):Nat × Nat:=if i.op=9\/i.op=10 then(1,i.a.toNat)else if i.op=2 then(2,i.b.toNat)else if i.op=3 then(3,i.a.toNat)else(0,0)
def md(x y:Nat × Nat):Bool:=x.1 !=0 && y.1 !=0 && x.2==y.2 &&((x.1==1)==(y.1==1))&& !(x.1==2 && y.1==2)
structure Ev where
 t:Nat
 k:Int
 bad:Bool
def i6(p:List(List Ins))(x y:Ev):Bool:=x.bad || y.bad || x.t==y.t || md(tou(jq p x.t x.k))(tou(jq p y.t y.k))
def F6(p:List(List Ins))(s:St)(x:Ev):Prop:=x.t<p.length/\jB p s x.t=true/\s.next x.t=x.k/\(jM p s x.t).1= !x.bad
def RunE(p:List(List Ins)):St->List Ev->St->Prop
 | s, [],s'=>s'=s
 | s,x::r,s'=>F6 p s x/\RunE p(jM p s x.t).2 r s'
theorem St.eq_of {s s':St}(h1:s.vars=s'.vars)(h2:s.held=s'.held)(h3:s.own=s'.own)(h4:s.regs=s'.regs)(h5:s.next=s'.next):s=s':=by
 cases s;cases s';simp at*;exact⟨h1,h2,h3,h4,h5⟩
theorem RunE.append {p:List(List Ins)}:∀ {a b:List Ev} {s s':St},RunE p s(a++b)s'↔∃ s1,RunE p s a s1/\RunE p s1 b s'
 | [],b,s,s'=>by simp [RunE]
 | x::a,b,s,s'=>by
  simp only [List.cons_append,RunE,RunE.append(a:=a)];constructor
  ·rintro⟨h1,s1,h2,h3⟩;exact⟨s1,⟨h1,h2⟩,h3⟩
  ·rintro⟨s1,⟨h1,h2⟩,h3⟩;exact⟨h1,s1,h2,h3⟩
end
section
def Ev.tI(e:Ev):Int:=(e.t:Int)
def Ev.pr(e:Ev):Int × Int:=((e.t:Int),e.k)
def evG(x:Int × Int):Ev:=⟨x.1.toNat,x.2,false⟩
def evB(x:Int × Int):Ev:=⟨x.1.toNat,x.2,true⟩
def good(xs:List Ev):Prop:=∀ e∈xs,e.bad=false
def uE(o:Out):List Ev:=if o.kind=1 then o.steps.dropLast.map evG++(o.steps.getLast?.map evB).toList else o.steps.map evG
theorem F7 {e:Ev}(h:e.bad=false):evG e.pr=e:=by cases e;simp [evG,Ev.pr]at*;exact h
theorem Ga {e:Ev}(h:e.bad=true):evB e.pr=e:=by cases e;simp [evB,Ev.pr]at*;exact h
theorem Ak {xs:List Ev}(h:good xs):(xs.map Ev.pr).map evG=xs:=by
 induction xs with
 | nil=>rfl
 | cons x r ih=>
  simp only [List.map_cons];rw [F7(h x(List.mem_cons_self ..)),ih(fun e he=>h e(List.mem_cons_of_mem _ he))]
theorem yO {o:Out} {xs:List Ev}(hk:o.kind≠1)(hs:o.steps=xs.map Ev.pr)(h:good xs):uE o=xs:=by
 unfold uE;rw [if_neg hk,hs,Ak h]
theorem Bh {o:Out} {ys:List Ev} {z:Ev}(hk:o.kind=1)(hs:o.steps=(ys++ [z]).map Ev.pr)(h:good ys)(hz:z.bad=true):uE o=ys++ [z]:=by
 unfold uE;rw [if_pos hk,hs];simp [Ak h,Ga hz]
theorem Ag {p:List(List Ins)} {s:St} {x:Ev}(h:F6 p s x):nh p s x.tI=true:=by
 obtain⟨h1,h2,_⟩:=h;simp [nh,jA,Ev.tI,h1,h2]
theorem nb(p:List(List Ins)):∀ (l:List Int)(i:Int)(s:St)(aa:List(Int × Int)),∃ xs s',RunE p s xs s'/\(ja p l i s aa).steps=aa++xs.map Ev.pr/\(ja p l i s aa).st=s'/\
  ((good xs/\xs.map Ev.tI=l/\(ja p l i s aa).kind=jN p s'/\(ja p l i s aa).thread=0/\(ja p l i s aa).at_=0)\/
   (good xs/\(∃ u r,l=xs.map Ev.tI++u::r/\nh p s' u=false)/\(ja p l i s aa).kind=2/\(ja p l i s aa).thread=0/\(ja p l i s aa).at_=i+xs.length)\/
   (∃ ys z r,xs=ys++ [z]/\good ys/\z.bad=true/\l=xs.map Ev.tI++r/\(ja p l i s aa).kind=1/\(ja p l i s aa).thread=z.tI/\(ja p l i s aa).at_=z.k))
 | [],i,s,aa=>⟨[],s,rfl,by simp [ja],rfl,Or.inl⟨by simp [good],rfl,rfl,rfl,rfl⟩⟩
 | t::r,i,s,aa=>by
  by_cases h1:nh p s t=true
  ·have hb:0<=t/\t<p.length/\jB p s t.toNat=true:=by
    simp [nh,jA]at h1;exact⟨h1.1.1,h1.1.2,h1.2⟩
   obtain⟨hb1,hb2,ac⟩:=hb;have ht:((t.toNat:Nat):Int)=t:=by omega
   by_cases h2:(jM p s t.toNat).1=true
   ·obtain⟨xs,s',hr,hs,ad,hc⟩:=nb p r(i+1)(jM p s t.toNat).2(aa++ [(t,s.next t.toNat)]);rw [oe p t r i s aa h1 h2];have hg:F6 p s⟨t.toNat,s.next t.toNat,false⟩:=⟨by simp only;omega,ac,rfl,by simpa using h2⟩;refine⟨⟨t.toNat,s.next t.toNat,false⟩::xs,s',⟨hg,hr⟩, ?_,ad, ?_⟩
    ·rw [hs];simp [Ev.pr,ht]
    ·have ab:∀ {zs:List Ev},good zs->good(⟨t.toNat,s.next t.toNat,false⟩::zs):=fun h e he=>by
      rcases List.mem_cons.1 he with he | he
      ·rw [he]
      ·exact h e he
     rcases hc with⟨g1,g2,g3,g4,g5⟩ | ⟨g1,⟨u,r',g2,g2'⟩,g3,g4,g5⟩ | ⟨ys,z,r',g1,g2,g3,g4,g5,g6,g7⟩
     ·exact Or.inl⟨ab g1,by simp [Ev.tI,ht];exact g2,g3,g4,g5⟩
     ·exact Or.inr(Or.inl⟨ab g1,⟨u,r',by simp [Ev.tI,ht];exact g2,g2'⟩,g3,g4,by rw [g5];simp;omega⟩)
     ·exact Or.inr(Or.inr⟨⟨t.toNat,s.next t.toNat,false⟩::ys,z,r',by rw [g1];rfl,ab g2,g3,by simp [Ev.tI,ht];exact g4,g5,g6,g7⟩)
   ·have h3:(jM p s t.toNat).1=false:=by simpa using h2
    rw [mT p t r i s aa h1 h3];refine⟨[⟨t.toNat,s.next t.toNat,true⟩],_,⟨⟨by simp only;omega,ac,rfl,by simpa using h3⟩,rfl⟩,by simp [Ev.pr,ht],rfl,Or.inr(Or.inr⟨[],_,r,rfl,by simp [good],rfl,by simp [Ev.tI,ht],rfl,by simp [Ev.tI,ht],rfl⟩)⟩
  ·have h3:nh p s t=false:=by simpa using h1
   rw [ku p t r i s aa h3];exact⟨[],s,rfl,by simp,rfl,Or.inr(Or.inl⟨by simp [good],⟨t,r,rfl,h3⟩,rfl,rfl,by simp⟩)⟩
theorem nt(p:List(List Ins)):∀ (xs:List Ev)(l:List Int)(i:Int)(s s':St)(acc:List(Int × Int)),good xs->RunE p s xs s'->ja p(xs.map Ev.tI++l)i s acc=ja p l(i+xs.length)s'(acc++xs.map Ev.pr)
 | [],l,i,s,s',acc,_,h=>by cases h;simp
 | x::r,l,i,s,s',acc,hg,⟨h1,h2⟩=>by
  have hb:=hg x(List.mem_cons_self ..);have hok:=Ag h1;obtain⟨g1,g2,g3,g4⟩:=h1;have e1:x.tI.toNat=x.t:=by simp [Ev.tI]
  rw [List.map_cons,List.cons_append,oe p _ _ i s acc hok(by rw [e1,g4,hb];rfl),e1,nt p r l(i+1)_ s' _(fun e he=>hg e(List.mem_cons_of_mem _ he))h2];congr 1
  ·simp;omega
  ·simp [Ev.pr,Ev.tI,g3]
theorem yR {p:List(List Ins)} {ys:List Ev} {z:Ev} {i:Int} {s s':St} {aa:List(Int × Int)}(hg:good ys)(hz:z.bad=true)(h:RunE p s(ys++ [z])s'):ja p((ys++ [z]).map Ev.tI)i s aa=⟨aa++(ys++ [z]).map Ev.pr,1,z.tI,z.k,s'⟩:=by
 rw [RunE.append]at h;obtain⟨s1,h1,h2,h3⟩:=h;have ab:=Ag h2;obtain⟨g1,g2,g3,g4⟩:=h2;have e1:z.tI.toNat=z.t:=by simp [Ev.tI]
 rw [List.map_append,nt p ys _ i s s1 aa hg h1,List.map_cons,List.map_nil,mT p _ _ _ s1 _ ab(by rw [e1,g4,hz];rfl),e1,g3];cases h3
 simp [Ev.pr,Ev.tI]
def yr(x:Nat × Nat):List(Nat × Nat)->List(Nat × Nat)
 | []=> [x]
 | y::r=>if x.1<y.1\/(x.1=y.1/\x.2<=y.2)then x::y::r else y::yr x r
def nB:List(Nat × Nat)->List(Nat × Nat)
 | []=> []
 | x::r=>yr x(nB r)
def leP(x y:Nat × Nat):Prop:=x.1<y.1\/(x.1=y.1/\x.2<=y.2)
theorem rz(x:Nat × Nat):∀ l,(yr x l).Perm(x::l)
 | []=>List.Perm.refl _
 | y::r=>by
  unfold yr;split
  ·exact List.Perm.refl _
  ·exact((rz x r).cons y).trans(List.Perm.swap _ _ _)
theorem mG:∀ l,(nB l).Perm l
 | []=>List.Perm.refl _
 | x::r=>(rz x(nB r)).trans((mG r).cons x)
theorem rX(x:Nat × Nat):∀ l,l.Pairwise leP->(yr x l).Pairwise leP
 | [],_=>by simp [yr]
 | y::r,h=>by
  have h0:=h;rw [List.pairwise_cons]at h;unfold yr;split
  ·rename_i hxy
   rw [List.pairwise_cons];refine⟨fun z hz=> ?_,h0⟩;rcases List.mem_cons.1 hz with hz | hz
   ·subst hz;exact hxy
   ·have:=h.1 z hz;unfold leP at*;omega
  ·rename_i hxy
   rw [List.pairwise_cons];refine⟨fun z hz=> ?_,rX x r h.2⟩;have hz':=(rz x r).mem_iff.1 hz;rcases List.mem_cons.1 hz' with hz' | hz'
   ·subst hz';unfold leP;omega
   ·exact h.1 z hz'
theorem qW:∀ l,(nB l).Pairwise leP
 | []=>List.Pairwise.nil
 | x::r=>rX x _(qW r)
theorem uU {a b:List(Nat × Nat)}(h:a.Perm b)(hb:b.Pairwise leP):nB a=b:=tC((mG a).trans h)(qW a)hb
def zk(x:Ev × Nat):Nat × Nat:=(x.2,x.1.t)
def jt(p:List(List Ins))(xs:List Ev):List(Nat × Nat):=(tl(i6 p) []xs).map zk
def lM(p:List(List Ins))(xs:List Ev):List Int:=(nB(jt p xs)).map fun x=>(x.2:Int)
def kC(p:List(List Ins))(o:Out):List Int:=lM p(uE o)
theorem nj(p:List(List Ins))(xs:List Ev):(lM p xs).length=xs.length:=by
 unfold lM jt;rw [List.length_map,(mG _).length_eq,List.length_map,jy]
end
end Go.Proofs.YtklenjmfalljgabGreatDoor
