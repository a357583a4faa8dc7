/- The texts Hgn Hgd0 Hgv Hgd1 Hgd2 Hgs Tla Hgr Hgu Frm Frn Fro. -/
import Derived.Test.YtklenjmfalljgabGreatDoorMD
import Derived.ChangeKeysEq
import Derived.Control
import Derived.RowKit
namespace Go.Proofs.YtklenjmfalljgabGreatDoor
set_option maxRecDepth 100000
set_option maxHeartbeats 8000000
section
open Go.RowKit
theorem Bx(a b c d:Int)(w:World):(Op.equalIn 10000 28 (.agg #[.int .i64 a,.int .i64 b,.int .i64 c,.int .i64 d]) (.agg #[.int .i64 a,.int .i64 b,.int .i64 c,.int .i64 d])).run Tryz.prog w= .ok true w:=by
 obtain⟨i0,h,hz0,k,hz2⟩:=info_parts ko;have hc:Tryz.prog.cellsOf 3=1:=by simp [Program.cellsOf,h,k]
 have f:Tryz.prog.plainKey 3=true:=by simp [Program.plainKey,Tryz.underlying3]
 rw [show (10000:Nat)=9999+1 from rfl,run_equalIn_array w 9999 _ _ (n:=4) (e:=3) (by first | exact Tryz.underlying28 | kernel_rfl) h,hc];have o:∀ (d:Nat) (v:Int),(Op.equalIn (d+1) 3 (.int .i64 v) (.int .i64 v)).run Tryz.prog w= .ok true w:=fun d v=>by
  rw [run_equalIn_int w d _ _ .i64 v v Tryz.underlying3];simp
 have i:=o 9998;simp only [Nat.reduceAdd]at i;have j:=run_part_plain w f (xs:= #[.int .i64 a,.int .i64 b,.int .i64 c,.int .i64 d]) (off:=0) rfl;have m:=run_part_plain w f (xs:= #[.int .i64 a,.int .i64 b,.int .i64 c,.int .i64 d]) (off:=1) rfl;have p:=run_part_plain w f (xs:= #[.int .i64 a,.int .i64 b,.int .i64 c,.int .i64 d]) (off:=2) rfl;have l:=run_part_plain w f (xs:= #[.int .i64 a,.int .i64 b,.int .i64 c,.int .i64 d]) (off:=3) rfl;simp [List.range,List.range.loop,Op.eqItems,Sem.run_bind,j,m,p,l,i,Result.andThen_ok]
attribute [local go_sem] Go.World.cell?_alloc_some Bx
theorem pd{c:Nat}{w:World}{who:Nat->Role}{v:Value}{m:Int}(h:KeptC c w who (v,m))(hc:c≠4):∃ xa xl xc,v= .slice xa xl xc/\xl<=1000/\∀ j,j<xl->∃ g,xa=some ⟨g,0,none⟩/\∀ t u,(elC m c)[t]?=some u->w.cell? ⟨g,j*(elC m c).length+t,none⟩=some u:=by
 rcases h with e | ⟨g,len,cap,e,hl,hin⟩
 ·exact⟨none,0,0,e,by omega,fun j hj=>by omega⟩
 ·exact⟨some ⟨g,0,none⟩,len,cap,e,hl,fun j hj=>⟨g,rfl,(mo hc).1 hin j hj⟩⟩
theorem yG{w:World}{who:Nat->Role}{v:Value}{m:Int}(h:KeptC 4 w who (v,m)):∃ xa xl xc,v= .slice xa xl xc/\xl<=1000/\∀ j,j<xl->∃ g g' cap',xa=some ⟨g,0,none⟩/\w.cell? ⟨g,j,none⟩=some (.slice (some ⟨g',0,none⟩) 1 cap')/\w.heap[g']?=some (.cells (elC m 3).toArray 65 (0,0)):=by
 rcases h with e | ⟨g,len,cap,e,hl,hin⟩
 ·exact⟨none,0,0,e,by omega,fun j hj=>by omega⟩
 ·refine⟨some ⟨g,0,none⟩,len,cap,e,hl,fun j hj=>?_⟩;obtain⟨g',cap',a,b,_⟩:=mR.1 hin j hj;exact⟨g,g',cap',rfl,a,b⟩
theorem oP{w:World}{B:Nat}{T:TypeId}{v u:Value}{L:List (Value × Int)}(a:w.ownsRow B T 1 v L.length (L.map (·.1)))(b:w.ownsRow B 3 1 u L.length (iL (L.map (·.2)))){i:Nat}(f:i<L.length):
  ∃ g c g' c',v= .slice (some ⟨g,0,none⟩) L.length c/\u= .slice (some ⟨g',0,none⟩) L.length c'/\w.cell? ⟨g,i,none⟩=some L[i].1/\w.cell? ⟨g',i,none⟩=some (.int .i64 L[i].2):=by
 obtain⟨g,c,e,_,_⟩:=a.form (by omega);obtain⟨g',c',d,_,_⟩:=b.form (by omega);refine⟨g,c,g',c',e,d,?_,?_⟩
 ·rw [e]at a;rw [a.cellAt i (by omega)];simp [f]
 ·rw [d]at b;rw [b.cellAt i (by omega)];simp [iL,f]
theorem qf(B:Nat)(w:World)(b:Nat)(who:Nat->Role)(n:Int)(f:Nat->Value)(K:Nat->List (Value × Int))(s:HsK B w b who n f K)(S:∀ c,c<5->(K c).length<=6000000000000):
  Calls Tryz.prog 27 #[pt b] w fun e w'=>e= .returned (.bool true)/\jt w' w:=by
 have HH:=ij s;have aX:pt b= .pointer (some ⟨b,0,none⟩):=rfl;rw [aX];have hK0:=S 0 (by omega);have Y:w.ownsRow B 39 1 (f 6) (K 0).length ((K 0).map (·.1)):=s.1.lst 0 (by omega);have V:w.ownsRow B 3 1 (f 7) (K 0).length (iL ((K 0).map (·.2))):=by have:=s.1.mrk 0 (by omega);simpa [jo]using this
 have bp:=ij Y;have bl:=ij V;have ar:=s.1.blk.cell (o:=6) (by omega);have av:=s.1.blk.cell (o:=7) (by omega);obtain⟨bU,lb0,aW,ay⟩:=iw Y;obtain⟨ma0,mb0,ba,au⟩:=iw V;rw [ay]at ar Y;rw [au]at av V;have bB:=iB Y;have bL:=iB V;subst bB bL;have aP:=ij ar;have bm:=ij av;have bn:=ij ay;have bx:=ij au;have bh:=ij (fun x hx=>(s.1.kept 0 (by omega) x hx).1);clear Y V ar av ay au;have hK1:=S 1 (by omega);have W:w.ownsRow B 27 1 (f 8) (K 1).length ((K 1).map (·.1)):=s.1.lst 1 (by omega);have X:w.ownsRow B 3 1 (f 9) (K 1).length (iL ((K 1).map (·.2))):=by have:=s.1.mrk 1 (by omega);simpa [jo]using this
 have bd:=ij W;have a5:=ij X;have aE:=s.1.blk.cell (o:=8) (by omega);have aJ:=s.1.blk.cell (o:=9) (by omega);obtain⟨bA,lb1,aT,aK⟩:=iw W;obtain⟨ma1,mb1,bH,aF⟩:=iw X;rw [aK]at aE W;rw [aF]at aJ X;have a6:=iB W;have bc:=iB X;subst a6 bc;have aO:=ij aE;have a2:=ij aJ;have bK:=ij aK;have bS:=ij aF;have be:=ij (fun x hx=>(s.1.kept 1 (by omega) x hx).1);clear W X aE aJ aK aF;have hK2:=S 2 (by omega);have ae:w.ownsRow B 29 1 (f 10) (K 2).length ((K 2).map (·.1)):=s.1.lst 2 (by omega);have Z:w.ownsRow B 3 1 (f 11) (K 2).length (iL ((K 2).map (·.2))):=by have:=s.1.mrk 2 (by omega);simpa [jo]using this
 have bq:=ij ae;have a0:=ij Z;have az:=s.1.blk.cell (o:=10) (by omega);have aM:=s.1.blk.cell (o:=11) (by omega);obtain⟨a3,lb2,aN,ax⟩:=iw ae;obtain⟨ma2,mb2,bR,aH⟩:=iw Z;rw [ax]at az ae;rw [aH]at aM Z;have bg:=iB ae;have bO:=iB Z;subst bg bO;have aV:=ij az;have bQ:=ij aM;have bJ:=ij ax;have bF:=ij aH;have a7:=ij (fun x hx=>(s.1.kept 2 (by omega) x hx).1);clear ae Z az aM ax aH;have hK3:=S 3 (by omega);have ab:w.ownsRow B 66 1 (f 12) (K 3).length ((K 3).map (·.1)):=s.1.lst 3 (by omega);have ad:w.ownsRow B 3 1 (f 13) (K 3).length (iL ((K 3).map (·.2))):=by have:=s.1.mrk 3 (by omega);simpa [jo]using this
 have a1:=ij ab;have bj:=ij ad;have aC:=s.1.blk.cell (o:=12) (by omega);have aA:=s.1.blk.cell (o:=13) (by omega);obtain⟨bC,lb3,aR,aD⟩:=iw ab;obtain⟨ma3,mb3,aZ,aG⟩:=iw ad;rw [aD]at aC ab;rw [aG]at aA ad;have bf:=iB ab;have bk:=iB ad;subst bf bk;have aQ:=ij aC;have bo:=ij aA;have bT:=ij aD;have bD:=ij aG;have bI:=ij (fun x hx=>(s.1.kept 3 (by omega) x hx).1);clear ab ad aC aA aD aG;have hK4:=S 4 (by omega);have U:w.ownsRow B 35 1 (f 14) (K 4).length ((K 4).map (·.1)):=s.1.lst 4 (by omega);have aa:w.ownsRow B 3 1 (f 15) (K 4).length (iL ((K 4).map (·.2))):=by have:=s.1.mrk 4 (by omega);simpa [jo]using this
 have bM:=ij U;have bu:=ij aa;have aw:=s.1.blk.cell (o:=14) (by omega);have aB:=s.1.blk.cell (o:=15) (by omega);obtain⟨bb,lb4,aU,aL⟩:=iw U;obtain⟨ma4,mb4,bG,aI⟩:=iw aa;rw [aL]at aw U;rw [aI]at aB aa;have a8:=iB U;have a9:=iB aa;subst a8 a9;have aY:=ij aw;have br:=ij aB;have bt:=ij aL;have bv:=ij aI;have bN:=ij (fun x hx=>(s.1.kept 4 (by omega) x hx).1);clear U aa aw aB aL aI;have l:Hid (∀ w',jt w' w->∀ a,w'.cell? a=w.cell? a):=fun w' hl a=>by simp [World.cell?,hl.1]
 clear s S aX;have qK0:((K 0).length:Int)<=6000000000000:=by omega
 generalize bi:K 0=L0 at*;clear bi;have qK1:((K 1).length:Int)<=6000000000000:=by omega
 generalize a4:K 1=L1 at*;clear a4;have qK2:((K 2).length:Int)<=6000000000000:=by omega
 generalize bE:K 2=L2 at*;clear bE;have qK3:((K 3).length:Int)<=6000000000000:=by omega
 generalize bP:K 3=L3 at*;clear bP;have qK4:((K 4).length:Int)<=6000000000000:=by omega
 generalize bz:K 4=L4 at*;clear bz;go_enter Tryz.func27,Tryz.ntmps27
 go_wp2_with fail
 go_loopw [3] (fun i w'=>∃ k:Nat,k<=L0.length/\i= .int .i64 k/\Hid (jt w' w)) (fun i _=>L0.length - (intOf i).toNat)
 case atStart=>exact⟨0,Nat.zero_le _,rfl,ij (jq _)⟩
 case round=>
  skip
  obtain⟨k,hk,rfl,p⟩:=hrel;obtain⟨q,D⟩:∃ q,q=wr:=⟨_,rfl⟩;rw [<-D]at p ⊢;clear D;have O:q.cell? ⟨b,6,none⟩=some (.slice bU L0.length aW):=by rw [l.out q p.out];exact aP.out
  by_cases E:k<L0.length
  ·obtain⟨y,oc,I,mc,v,z,r,t⟩:=oP bp.out bl.out E;rw [bn.out]at v;rw [bx.out]at z;simp only [Value.slice.injEq,true_and]at v z;obtain⟨rfl,rfl⟩:=v;obtain⟨rfl,rfl⟩:=z;have H:=ij (bh.out L0[k] (List.getElem_mem E));have q0:(0:Int)<=(k:Int):=by omega
   have M:(k:Int)<L0.length:=by omega
   generalize L0[k]=x at*;obtain⟨xv,G⟩:=x;simp only at r t;obtain⟨A,m,C,Q,ah,J⟩:=pd H.out (by omega);subst Q;have R:=ij J;clear J H;have N:q.cell? ⟨y,k,none⟩=some (.slice A m C):=by rw [l.out q p.out];exact r
   have qx:(m:Int)<=1000:=by omega
   go_wp2_with fail
   go_loopw [4] (fun i w'=>∃ j:Nat,j<=m/\i= .int .i64 j/\Hid (jt w' w)) (fun i _=>m - (intOf i).toNat)
   case atStart=>exact⟨0,Nat.zero_le _,rfl,p⟩
   case round=>
    clear O N p;obtain⟨j,hj,rfl,h⟩:=hrel;obtain⟨d,F⟩:∃ d,d=wr:=⟨_,rfl⟩;rw [<-F]at h ⊢;clear F;have f6:d.cell? ⟨b,6,none⟩=some (.slice (some ⟨y,0,none⟩) L0.length aW):=by rw [l.out d h.out];exact aP.out
    have f7:d.cell? ⟨b,7,none⟩=some (.slice (some ⟨I,0,none⟩) L0.length ba):=by rw [l.out d h.out];exact bm.out
    have k0:d.cell? ⟨y,k,none⟩=some (.slice A m C):=by rw [l.out d h.out];exact r
    have k1:d.cell? ⟨I,k,none⟩=some (.int .i64 G):=by rw [l.out d h.out];exact t
    by_cases L:j<m
    ·obtain⟨g,rfl,u⟩:=R.out j L;have g0:d.cell? ⟨g,j,none⟩=some (.int .i64 G):=by rw [l.out d h.out];exact(by simpa [elC]using u 0 _ rfl)
     have q2:(0:Int)<=(j:Int):=by omega
     have P:(j:Int)<m:=by omega
     clear u r t;go_wp2_with fail
     go_quiet (fail)
     go_wp2_with fail
     go_roundw
     case rel=>exact⟨j+1,by omega,by go_num,ij (jV h.out _)⟩
     case measure=>simp [intOf];omega
    ·have P:(m:Int)<=(j:Int):=by omega
     clear r t;go_wp2_with fail
     go_roundw
     case rel=>exact⟨k+1,by omega,by go_num,h⟩
     case measure=>simp [intOf];omega
  ·have M:(L0.length:Int)<=(k:Int):=by omega
   go_wp2_with fail
   go_loopw [5] (fun i w'=>∃ k:Nat,k<=L1.length/\i= .int .i64 k/\Hid (jt w' w)) (fun i _=>L1.length - (intOf i).toNat)
   case atStart=>exact⟨0,Nat.zero_le _,rfl,p⟩
   case round=>
    clear p;obtain⟨k,hk,rfl,p⟩:=hrel;obtain⟨q,D⟩:∃ q,q=wr:=⟨_,rfl⟩;rw [<-D]at p ⊢;clear D;have O:q.cell? ⟨b,8,none⟩=some (.slice bA L1.length aT):=by rw [l.out q p.out];exact aO.out
    by_cases E:k<L1.length
    ·obtain⟨y,oc,I,mc,v,z,r,t⟩:=oP bd.out a5.out E;rw [bK.out]at v;rw [bS.out]at z;simp only [Value.slice.injEq,true_and]at v z;obtain⟨rfl,rfl⟩:=v;obtain⟨rfl,rfl⟩:=z;have H:=ij (be.out L1[k] (List.getElem_mem E));have q0:(0:Int)<=(k:Int):=by omega
     have M:(k:Int)<L1.length:=by omega
     generalize L1[k]=x at*;obtain⟨xv,G⟩:=x;simp only at r t;obtain⟨A,m,C,Q,ah,J⟩:=pd H.out (by omega);subst Q;have R:=ij J;clear J H;have N:q.cell? ⟨y,k,none⟩=some (.slice A m C):=by rw [l.out q p.out];exact r
     have qx:(m:Int)<=1000:=by omega
     go_wp2_with fail
     go_loopw [6] (fun i w'=>∃ j:Nat,j<=m/\i= .int .i64 j/\Hid (jt w' w)) (fun i _=>m - (intOf i).toNat)
     case atStart=>exact⟨0,Nat.zero_le _,rfl,p⟩
     case round=>
      clear O N p;obtain⟨j,hj,rfl,h⟩:=hrel;obtain⟨d,F⟩:∃ d,d=wr:=⟨_,rfl⟩;rw [<-F]at h ⊢;clear F;have f6:d.cell? ⟨b,8,none⟩=some (.slice (some ⟨y,0,none⟩) L1.length aT):=by rw [l.out d h.out];exact aO.out
      have f7:d.cell? ⟨b,9,none⟩=some (.slice (some ⟨I,0,none⟩) L1.length bH):=by rw [l.out d h.out];exact a2.out
      have k0:d.cell? ⟨y,k,none⟩=some (.slice A m C):=by rw [l.out d h.out];exact r
      have k1:d.cell? ⟨I,k,none⟩=some (.int .i64 G):=by rw [l.out d h.out];exact t
      by_cases L:j<m
      ·obtain⟨g,rfl,u⟩:=R.out j L;have g0:d.cell? ⟨g,j*2,none⟩=some (.int .i64 G):=by rw [l.out d h.out];exact u 0 _ rfl
       have g1:d.cell? ⟨g,j*2+1,none⟩=some (.int .i64 0):=by rw [l.out d h.out];exact u 1 _ rfl
       have q2:(0:Int)<=(j:Int):=by omega
       have P:(j:Int)<m:=by omega
       clear u r t;go_wp2_with fail
       go_quiet (fail)
       go_wp2_with fail
       go_roundw
       case rel=>exact⟨j+1,by omega,by go_num,ij (jV h.out _)⟩
       case measure=>simp [intOf];omega
      ·have P:(m:Int)<=(j:Int):=by omega
       clear r t;go_wp2_with fail
       go_roundw
       case rel=>exact⟨k+1,by omega,by go_num,h⟩
       case measure=>simp [intOf];omega
    ·have M:(L1.length:Int)<=(k:Int):=by omega
     go_wp2_with fail
     go_loopw [7] (fun i w'=>∃ k:Nat,k<=L2.length/\i= .int .i64 k/\Hid (jt w' w)) (fun i _=>L2.length - (intOf i).toNat)
     case atStart=>exact⟨0,Nat.zero_le _,rfl,p⟩
     case round=>
      clear p;obtain⟨k,hk,rfl,p⟩:=hrel;obtain⟨q,D⟩:∃ q,q=wr:=⟨_,rfl⟩;rw [<-D]at p ⊢;clear D;have O:q.cell? ⟨b,10,none⟩=some (.slice a3 L2.length aN):=by rw [l.out q p.out];exact aV.out
      by_cases E:k<L2.length
      ·obtain⟨y,oc,I,mc,v,z,r,t⟩:=oP bq.out a0.out E;rw [bJ.out]at v;rw [bF.out]at z;simp only [Value.slice.injEq,true_and]at v z;obtain⟨rfl,rfl⟩:=v;obtain⟨rfl,rfl⟩:=z;have H:=ij (a7.out L2[k] (List.getElem_mem E));have q0:(0:Int)<=(k:Int):=by omega
       have M:(k:Int)<L2.length:=by omega
       generalize L2[k]=x at*;obtain⟨xv,G⟩:=x;simp only at r t;obtain⟨A,m,C,Q,ah,J⟩:=pd H.out (by omega);subst Q;have R:=ij J;clear J H;have N:q.cell? ⟨y,k,none⟩=some (.slice A m C):=by rw [l.out q p.out];exact r
       have qx:(m:Int)<=1000:=by omega
       go_wp2_with fail
       go_loopw [8] (fun i w'=>∃ j:Nat,j<=m/\i= .int .i64 j/\Hid (jt w' w)) (fun i _=>m - (intOf i).toNat)
       case atStart=>exact⟨0,Nat.zero_le _,rfl,p⟩
       case round=>
        clear O N p;obtain⟨j,hj,rfl,h⟩:=hrel;obtain⟨d,F⟩:∃ d,d=wr:=⟨_,rfl⟩;rw [<-F]at h ⊢;clear F;have f6:d.cell? ⟨b,10,none⟩=some (.slice (some ⟨y,0,none⟩) L2.length aN):=by rw [l.out d h.out];exact aV.out
        have f7:d.cell? ⟨b,11,none⟩=some (.slice (some ⟨I,0,none⟩) L2.length bR):=by rw [l.out d h.out];exact bQ.out
        have k0:d.cell? ⟨y,k,none⟩=some (.slice A m C):=by rw [l.out d h.out];exact r
        have k1:d.cell? ⟨I,k,none⟩=some (.int .i64 G):=by rw [l.out d h.out];exact t
        by_cases L:j<m
        ·obtain⟨g,rfl,u⟩:=R.out j L;have g0:d.cell? ⟨g,j*4,none⟩=some (.int .i64 G):=by rw [l.out d h.out];exact u 0 _ rfl
         have g1:d.cell? ⟨g,j*4+1,none⟩=some (.int .i64 1):=by rw [l.out d h.out];exact u 1 _ rfl
         have g2:d.cell? ⟨g,j*4+2,none⟩=some (.int .i64 2):=by rw [l.out d h.out];exact u 2 _ rfl
         have g3:d.cell? ⟨g,j*4+3,none⟩=some (.int .i64 3):=by rw [l.out d h.out];exact u 3 _ rfl
         have q2:(0:Int)<=(j:Int):=by omega
         have P:(j:Int)<m:=by omega
         clear u r t;go_wp2_with fail
         go_quiet (fail)
         go_wp2_with fail
         go_roundw
         case rel=>exact⟨j+1,by omega,by go_num,ij (jV h.out _)⟩
         case measure=>simp [intOf];omega
        ·have P:(m:Int)<=(j:Int):=by omega
         clear r t;go_wp2_with fail
         go_roundw
         case rel=>exact⟨k+1,by omega,by go_num,h⟩
         case measure=>simp [intOf];omega
      ·have M:(L2.length:Int)<=(k:Int):=by omega
       go_wp2_with fail
       go_loopw [9] (fun i w'=>∃ k:Nat,k<=L3.length/\i= .int .i64 k/\Hid (jt w' w)) (fun i _=>L3.length - (intOf i).toNat)
       case atStart=>exact⟨0,Nat.zero_le _,rfl,p⟩
       case round=>
        clear p;obtain⟨k,hk,rfl,p⟩:=hrel;obtain⟨q,D⟩:∃ q,q=wr:=⟨_,rfl⟩;rw [<-D]at p ⊢;clear D;have O:q.cell? ⟨b,12,none⟩=some (.slice bC L3.length aR):=by rw [l.out q p.out];exact aQ.out
        by_cases E:k<L3.length
        ·obtain⟨y,oc,I,mc,v,z,r,t⟩:=oP a1.out bj.out E;rw [bT.out]at v;rw [bD.out]at z;simp only [Value.slice.injEq,true_and]at v z;obtain⟨rfl,rfl⟩:=v;obtain⟨rfl,rfl⟩:=z;have H:=ij (bI.out L3[k] (List.getElem_mem E));have q0:(0:Int)<=(k:Int):=by omega
         have M:(k:Int)<L3.length:=by omega
         generalize L3[k]=x at*;obtain⟨xv,G⟩:=x;simp only at r t;obtain⟨A,m,C,Q,ah,J⟩:=pd H.out (by omega);subst Q;have R:=ij J;clear J H;have N:q.cell? ⟨y,k,none⟩=some (.slice A m C):=by rw [l.out q p.out];exact r
         have qx:(m:Int)<=1000:=by omega
         go_wp2_with fail
         go_loopw [10] (fun i w'=>∃ j:Nat,j<=m/\i= .int .i64 j/\Hid (jt w' w)) (fun i _=>m - (intOf i).toNat)
         case atStart=>exact⟨0,Nat.zero_le _,rfl,p⟩
         case round=>
          clear O N p;obtain⟨j,hj,rfl,h⟩:=hrel;obtain⟨d,F⟩:∃ d,d=wr:=⟨_,rfl⟩;rw [<-F]at h ⊢;clear F;have f6:d.cell? ⟨b,12,none⟩=some (.slice (some ⟨y,0,none⟩) L3.length aR):=by rw [l.out d h.out];exact aQ.out
          have f7:d.cell? ⟨b,13,none⟩=some (.slice (some ⟨I,0,none⟩) L3.length aZ):=by rw [l.out d h.out];exact bo.out
          have k0:d.cell? ⟨y,k,none⟩=some (.slice A m C):=by rw [l.out d h.out];exact r
          have k1:d.cell? ⟨I,k,none⟩=some (.int .i64 G):=by rw [l.out d h.out];exact t
          by_cases L:j<m
          ·obtain⟨g,rfl,u⟩:=R.out j L;have g0:d.cell? ⟨g,j*4,none⟩=some (.int .i64 G):=by rw [l.out d h.out];exact u 0 _ rfl
           have g1:d.cell? ⟨g,j*4+1,none⟩=some (.int .i64 0):=by rw [l.out d h.out];exact u 1 _ rfl
           have g2:d.cell? ⟨g,j*4+2,none⟩=some (.int .i64 0):=by rw [l.out d h.out];exact u 2 _ rfl
           have g3:d.cell? ⟨g,j*4+3,none⟩=some (.int .i64 0):=by rw [l.out d h.out];exact u 3 _ rfl
           have q2:(0:Int)<=(j:Int):=by omega
           have P:(j:Int)<m:=by omega
           clear u r t;go_wp2_with fail
           go_quiet (fail)
           go_wp2_with fail
           go_roundw
           case rel=>exact⟨j+1,by omega,by go_num,ij (jV h.out _)⟩
           case measure=>simp [intOf];omega
          ·have P:(m:Int)<=(j:Int):=by omega
           clear r t;go_wp2_with fail
           go_roundw
           case rel=>exact⟨k+1,by omega,by go_num,h⟩
           case measure=>simp [intOf];omega
        ·have M:(L3.length:Int)<=(k:Int):=by omega
         go_wp2_with fail
         go_loopw [11] (fun i w'=>∃ k:Nat,k<=L4.length/\i= .int .i64 k/\Hid (jt w' w)) (fun i _=>L4.length - (intOf i).toNat)
         case atStart=>exact⟨0,Nat.zero_le _,rfl,p⟩
         case round=>
          clear p;obtain⟨k,hk,rfl,p⟩:=hrel;obtain⟨q,D⟩:∃ q,q=wr:=⟨_,rfl⟩;rw [<-D]at p ⊢;clear D;have O:q.cell? ⟨b,14,none⟩=some (.slice bb L4.length aU):=by rw [l.out q p.out];exact aY.out
          by_cases E:k<L4.length
          ·obtain⟨y,oc,I,mc,v,z,r,t⟩:=oP bM.out bu.out E;rw [bt.out]at v;rw [bv.out]at z;simp only [Value.slice.injEq,true_and]at v z;obtain⟨rfl,rfl⟩:=v;obtain⟨rfl,rfl⟩:=z;have H:=ij (bN.out L4[k] (List.getElem_mem E));have q0:(0:Int)<=(k:Int):=by omega
           have M:(k:Int)<L4.length:=by omega
           generalize L4[k]=x at*;obtain⟨xv,G⟩:=x;simp only at r t;obtain⟨A,m,C,Q,ah,J⟩:=yG H.out;subst Q;have R:=ij J;clear J H;have N:q.cell? ⟨y,k,none⟩=some (.slice A m C):=by rw [l.out q p.out];exact r
           have qx:(m:Int)<=1000:=by omega
           go_wp2_with fail
           go_loopw [12] (fun i w'=>∃ j:Nat,j<=m/\i= .int .i64 j/\Hid (jt w' w)) (fun i _=>m - (intOf i).toNat)
           case atStart=>exact⟨0,Nat.zero_le _,rfl,p⟩
           case round=>
            clear O N p;obtain⟨j,hj,rfl,h⟩:=hrel;obtain⟨d,F⟩:∃ d,d=wr:=⟨_,rfl⟩;rw [<-F]at h ⊢;clear F;have f6:d.cell? ⟨b,14,none⟩=some (.slice (some ⟨y,0,none⟩) L4.length aU):=by rw [l.out d h.out];exact aY.out
            have f7:d.cell? ⟨b,15,none⟩=some (.slice (some ⟨I,0,none⟩) L4.length bG):=by rw [l.out d h.out];exact br.out
            have k0:d.cell? ⟨y,k,none⟩=some (.slice A m C):=by rw [l.out d h.out];exact r
            have k1:d.cell? ⟨I,k,none⟩=some (.int .i64 G):=by rw [l.out d h.out];exact t
            by_cases L:j<m
            ·obtain⟨g,g',bw,rfl,u,T⟩:=R.out j L;have g0:d.cell? ⟨g,j,none⟩=some (.slice (some ⟨g',0,none⟩) 1 bw):=by rw [l.out d h.out];exact u
             have g1:d.cell? ⟨g',0,none⟩=some (.int .i64 G):=by rw [l.out d h.out];simp [World.cell?,T,elC]
             have g2:d.cell? ⟨g',1,none⟩=some (.int .i64 0):=by rw [l.out d h.out];simp [World.cell?,T,elC]
             have g3:d.cell? ⟨g',2,none⟩=some (.int .i64 0):=by rw [l.out d h.out];simp [World.cell?,T,elC]
             have g4:d.cell? ⟨g',3,none⟩=some (.int .i64 0):=by rw [l.out d h.out];simp [World.cell?,T,elC]
             have q2:(0:Int)<=(j:Int):=by omega
             have P:(j:Int)<m:=by omega
             clear u T r t;go_wp2_with fail
             go_quiet (fail)
             go_wp2_with fail
             go_roundw
             case rel=>exact⟨j+1,by omega,by go_num,ij (jV h.out _)⟩
             case measure=>simp [intOf];omega
            ·have P:(m:Int)<=(j:Int):=by omega
             clear r t;go_wp2_with fail
             go_roundw
             case rel=>exact⟨k+1,by omega,by go_num,h⟩
             case measure=>simp [intOf];omega
          ·have M:(L4.length:Int)<=(k:Int):=by omega
           go_wp2_with fail
           go_ret;exact⟨rfl,p.out⟩
end
section
open Go.RowKit
attribute [local go_sem] Go.World.cell?_alloc_some
theorem D7(m:Int)(xs:List Value)(k len:Nat)(hx:xs.length=len*1)(hk:k<len):(((List.replicate k (elC m 0)).flatten++xs.drop (k*1)).set (k) (.int .i64 m))=(List.replicate (k+1) (elC m 0)).flatten++xs.drop ((k+1)*1):=by
 obtain⟨b,f⟩:∃ b,b=(List.replicate k (elC m 0)).flatten:=⟨_,rfl⟩;have hyl:b.length=k*1:=by rw [f];exact mr _ _
 rw [<-kY,<-f];have d:1<=(xs.drop (k*1)).length:=by rw [List.length_drop];omega
 have h:xs.drop ((k+1)*1)=(xs.drop (k*1)).drop 1:=by rw [List.drop_drop];congr 1<;>omega
 rw [h];generalize xs.drop (k*1)=zs at d;obtain⟨a,c,rfl⟩:∃ a c,zs=a::c:=by
  match zs,d with
  | a::c,_=>exact⟨a,c,rfl⟩
 rw [List.set_append,if_neg (by omega)];have e:k - b.length=0:=by omega
 rw [e];simp [elC]
theorem od(B:Nat)(w:World)(b:Nat)(who:Nat->Role)(n:Int)(f:Nat->Value)(K:Nat->List (Value × Int))(H:Value)(len:Nat)(xs:List Value)(q:HsK B w b who n f K)(C:w.ownsRow B 3 1 H len xs)(F:∀ g,H.ownBlock=some g->who g= .other)
  (bq:0<=n) (hn1:n<=10000000000000) (hK:(K 0).length<=5000000000000) (ha:len<=900):
  Calls Tryz.prog 31 #[pt b,H] w fun e w'=>(∃ v,e= .returned v)/\∃ who' f' K',HsK B w' b who' (n+1) f' K'/\oz 0 w w' who who' f f' K K' (fun g=>H.ownBlock=some g):=by
 obtain⟨i0,bh,bg,a1,a8⟩:=info_parts ko;obtain⟨i1,a9,be,bd,ba⟩:=info_parts uj;obtain⟨i2,bl,a5,aT,X⟩:=info_parts ko;have ai:=C.1;obtain⟨x1,x2,x3,rfl⟩:=iw C;have X:=(iB C).symm;subst X;have HM:=ij (sT q.1 bq (by omega));have HO:=ij F;have H0:Hid (WrG B 0 w (w.setCell ⟨b,5,none⟩ (.int .i64 (n+1))) b who (n+1) f (lw f 5 (.int .i64 (n+1))) K (.slice x1 len x3) len xs (-77000000 - (n+1)) 0):=by
  refine⟨⟨q.1.setCnt _,q.2⟩,?_,?_,fun o F=>iW _ _ (by omega)⟩
  ·have aJ:(Value.slice x1 len x3).ownBlock≠some b:=fun e=>by have:=F b e;rw [q.1.wb]at this;cases this
   have h5:=ownsRow_setCell_other (a:=⟨b,5,none⟩) C aJ (.int .i64 (n+1));have e5:(List.replicate 0 (elC (-77000000 - (n+1)) 0)).flatten++xs.drop (0*(elC (-77000000 - (n+1)) 0).length)=xs:=by simp
   rw [e5];exact h5
  ·exact Fr.set (Or.inl (by rw [q.1.wb];simp))
 have aE:pt b= .pointer (some ⟨b,0,none⟩):=rfl;rw [aE]at*;clear q C F aE;generalize hm: -77000000 - (n+1)=m at*;have HMM:=ij hm;clear hm;go_enter Tryz.func31,Tryz.ntmps31
 go_wp2_with (go_at_call 55;refine HM.out.mono ?_;rintro e w1 ⟨rfl,rfl⟩)
 go_loopw [5] (fun i w'=>∃ k:Nat,k<=len/\i= .int .i64 k/\Hid (WrG B 0 w w' b who (n+1) f (lw f 5 (.int .i64 (n+1))) K (.slice x1 len x3) len xs m k)) (fun i _=>len - (intOf i).toNat)
 case atStart=>exact⟨0,Nat.zero_le _,rfl,H0⟩
 case round=>
  clear H0 HM;obtain⟨k,R,rfl,s⟩:=hrel;obtain⟨h,am⟩:∃ h,h=wr:=⟨_,rfl⟩;rw [<-am]at s ⊢;clear am;by_cases a6:k<len
  ·obtain⟨g,cp,O,_,_⟩:=s.out.row.form (by omega);have z:h.ownsRow B 3 1 (.slice x1 len x3) len ((List.replicate k (elC m 0)).flatten++xs.drop (k*1)):=s.out.row;rw [O]at z;simp only [Value.slice.injEq,true_and]at O;obtain⟨rfl,rfl⟩:=O;have aj:=HO.out g rfl;obtain⟨u0,y0⟩:∃ u,h.cell? ⟨g,k,none⟩=some u:=lO z (by omega);have z0:h.frozen? ⟨g,k,none⟩=false:=lN z;have aR:Hid (WrG B 0 w (h.setCell ⟨g,k,none⟩ (.int .i64 m)) b who (n+1) f (lw f 5 (.int .i64 (n+1))) K (.slice (some ⟨g,0,none⟩) len x3) len xs m (k+1)):=by
    have Q:=s.out;refine⟨(Q.hs.setOther aj),?_,?_,Q.lent⟩
    ·have h9:=(js z (k) (.int .i64 m));have e9:=D7 m xs k len ai a6;rw [e9]at h9;exact h9
    ·exact(Q.fr).trans (Fr.set (Or.inr rfl))
   have q0:(0:Int)<=(k:Int):=by omega
   have q1:(k:Int)<len:=by omega
   clear z aj;go_wp2_with fail
   go_roundw
   case rel=>exact⟨k+1,by omega,by go_num,aR⟩
   case measure=>simp [intOf];omega
  ·have ek:k=len:=by omega
   have q1:(len:Int)<=(k:Int):=by omega
   have HS:Hid (∃ aa,KpG B 0 w h b who aa (n+1) m f (lw f 5 (.int .i64 (n+1))) K K (.slice x1 len x3) len 0 (fun g=>(Value.slice x1 len x3).ownBlock=some g)):=by
    have hi:=s.out;rw [ek]at hi;exact hi.kp (by omega) ai (by omega) HO.out
   clear s ek;go_wp2_with fail
   go_loopw [1,6] (fun lv' i w'=>∃ (k:Nat) (who':Nat->Role) (f':Nat->Value) (K':Nat->List (Value × Int)),k<=4/\i= .int .i64 k/\Hid (KpG B 0 w w' b who who' (n+1) m f f' K K' lv' (len+k) k (fun g=>(Value.slice x1 len x3).ownBlock=some g))) (fun _ i _=>4 - (intOf i).toNat)
   case atStart=>
    obtain⟨aa,h1⟩:=HS.out;exact⟨0,aa,_,K,by omega,rfl,ij h1⟩
   case round=>
    clear HS;obtain⟨j,who',f',K',hj,rfl,d⟩:=hrel;obtain⟨c,an⟩:∃ c,c=wr:=⟨_,rfl⟩;rw [<-an]at d ⊢;clear an;have A:c.ownsRow B 39 1 (f' 6) (K' 0).length ((K' 0).map (·.1)):=d.out.hs.lst 0 (by omega);have rM:c.ownsRow B 3 1 (f' 7) (K' 0).length (iL ((K' 0).map (·.2))):=by have:=d.out.hs.mrk 0 (by omega);simpa [jo]using this
    have G:c.ownsRow B 3 1 u1 (len+j) (List.replicate (len+j) (elC m 0)).flatten:=d.out.cu.row;have aK:Hid ((K' 0).length=(K 0).length+j):=d.out.len;have c6:c.cell? ⟨b,6,none⟩=some (f' 6):=d.out.hs.blk.cell (by omega);have hbase:B<=c.heap.size:=by have:=d.out.hs.blk.lt;have:=(d.out.hs.dom b (by rw [d.out.hs.wb];simp)).1;omega
    obtain⟨r,l2,x,rfl⟩:=iw G;have a3:=iB G;subst a3;obtain⟨Y,o2,L,eO⟩:=iw A;rw [eO]at A c6;have bk:=iB A;subst bk;have aI:(K' 0).length<=5000000000003\/¬j<4:=by have:=aK.out;omega
    have aM:=ij G;have ap:=ij A;have J:=ij eO;have bf:=ij rM;clear G A rM eO;by_cases hj4:j<4
    ·have aI:(K' 0).length<=5000000000003:=by omega
     have z2:(j:Int)<4:=by omega
     have aC:(K' 0).length+1<=maxLen:=by unfold maxLen;omega
     have aH:len+j+1<=maxLen:=by unfold maxLen;omega
     have P:Hid (∀ {o:Obj} {g6 c6:Nat} {w6:World},w6.ownsRow B 39 1 (.slice (some ⟨g6,0,none⟩) ((K' 0).length+1) c6) ((K' 0).length+1) ((K' 0).map (·.1)++[.slice r (len+j) x])->
       (((Value.slice Y (K' 0).length L).ownBlock=some g6/\(c.alloc o).grownBy w6 (some g6))\/(g6=c.heap.size+1/\(c.alloc o).grownBy w6 none))->
       HB w6 b f'/\∃ who'' f'',KpA B 0 w (w6.setCell ⟨b,6,none⟩ (.slice (some ⟨g6,0,none⟩) ((K' 0).length+1) c6)) b who who'' (n+1) m f f'' K K' (.slice r (len+j) x) (len+j) j (fun g=>(Value.slice x1 len x3).ownBlock=some g)/\f'' 7=f' 7):=by
      intro o g6 c6 w6 aO key;rw [<-J.out]at key;exact d.out.push (by omega) aO key
     generalize ax:(K' 0).length=N at*;generalize bj:(K' 0).map (·.1)=L1 at*;have ad:=ij ax;clear ax bj;go_upto_region 9 with (at_builtin;go_must (refine iG rfl _ _ _ rfl B 39 i1 _ 1 24 Tryz.underlying23 a9 be bd ba rfl (by omega) (.slice Y N L) N L1 rfl (iJ ap.out) ⟨c.heap.size,0,none⟩ 1 1 [.slice r (len+j) x] rfl rfl (World.news_of_block (cs:= #[.slice r (len+j) x]) (t:=39) (fr:=(0,0)) (heap_alloc_new c _)) (by simp [Value.oneCell']) (by omega) aC (by omega) (by simp;omega) (c.heap.size+1) (by simp) ?_);intro g8 a7 w8 ag T aP;have V:=(P.out ag T).1;have M:w8.cell? ⟨b,6,none⟩=some (.slice Y N L):=(by rw [V.cell (by omega),J.out]);have p7:=V.frozen 6)
     obtain⟨_,who9,f9,l,e9⟩:=P.out ag T;generalize w8.setCell ⟨b,6,none⟩ (.slice (some ⟨g8,0,none⟩) (N+1) a7)=w9 at*;have Z:=ij l;have y:w9.ownsRow B 3 1 (f9 7) N (iL ((K' 0).map (·.2))):=by
      have:=l.hs.mrk 0 (by omega);rw [<-ad.out];simpa [jo]using this
     have c7:w9.cell? ⟨b,7,none⟩=some (f9 7):=l.hs.blk.cell (by omega);obtain⟨E,m2,I,U⟩:=iw y;rw [U]at y c7;have bi:=(iB y).symm;subst bi;have hbase9:B<=w9.heap.size:=by have:=l.hs.blk.lt;have:=(l.hs.dom b (by rw [l.hs.wb];simp)).1;omega
     have al:=ij y;have D:=ij U;clear ag T V M p7 aP c6 l e9 P y U J ap bf;go_upto_region 10 with (at_builtin;go_must (refine iG rfl _ _ _ rfl B 3 i2 _ 1 8 Tryz.underlying39 bl a5 aT X rfl (by omega) (.slice E N I) N (iL ((K' 0).map (·.2))) rfl (iJ al.out) ⟨w9.heap.size,0,none⟩ 1 1 [.int .i64 m] rfl rfl (World.news_of_block (cs:= #[.int .i64 m]) (t:=3) (fr:=(0,0)) (heap_alloc_new w9 _)) (by simp [Value.oneCell']) (by omega) aC (by omega) (by simp;omega) (w9.heap.size+1) (by simp) ?_);intro bn bm ao ae W aZ;have S:=(Z.out.tell (by omega) (M1:=E) (M3:=I) D.out ad.out ae W).1;have M:ao.cell? ⟨b,7,none⟩=some (.slice E N I):=(by rw [S.cell (by omega),D.out]);have p7:=S.frozen 7)
     obtain⟨_,who11,f11,p⟩:=Z.out.tell (by omega) (M1:=E) (M3:=I) D.out ad.out ae W;generalize ao.setCell ⟨b,7,none⟩ (.slice (some ⟨bn,0,none⟩) (N+1) bm)=w11 at*;have aL:=ij p;have bc:Hid (w11.ownsRow B 3 1 (.slice r (len+j) x) (len+j) (List.replicate (len+j) (elC m 0)).flatten):=p.cu.row;have hbase11:B<=w11.heap.size:=by have:=p.hs.blk.lt;have:=(p.hs.dom b (by rw [p.hs.wb];simp)).1;omega
     clear ae W S M p7 aZ c7 p Z al D aM;go_wp2_with (at_builtin;go_must (refine iG rfl _ _ _ rfl B 3 i0 _ 1 8 Tryz.underlying39 bh bg a1 a8 rfl (by omega) (.slice r (len+j) x) (len+j) (List.replicate (len+j) (elC m 0)).flatten rfl (iJ bc.out) ⟨w11.heap.size,0,none⟩ 1 1 [.int .i64 m] rfl rfl (World.news_of_block (cs:= #[.int .i64 m]) (t:=3) (fr:=(0,0)) (heap_alloc_new w11 _)) (by simp [Value.oneCell']) (by omega) aH (by omega) (by simp;omega) (w11.heap.size+1) (by simp) ?_);intro g12 cap12 w12 ay av aQ;have bo:=ij (aL.out.grow (by omega) (by omega) ay av);clear ay av aQ)
     go_roundw
     case rel=>
      obtain⟨bb,aY⟩:=bo.out;exact⟨j+1,bb,_,_,by omega,by go_num,ij aY⟩
     case measure=>simp [intOf];omega
    ·have z2:(4:Int)<=(j:Int):=by omega
     have HE:Hid (∃ who' f' K',HsK B c b who' (n+1) f' K'/\oz 0 w c who who' f f' K K' (fun g=>(Value.slice x1 len x3).ownBlock=some g)):=by
      have ej:j=4:=by omega
      have R:=d.out;rw [ej]at R;exact R.done
     go_wp2_with fail
     go_end0
     exact⟨⟨_,rfl⟩,HE.out⟩
end
section
open Go.RowKit
theorem mF{B:Nat}{W w:World}{b:Nat}{who:Nat->Role}{n:Int}{f:Nat->Value}{K:Nat->List (Value × Int)}{sv:Value}{s:List Int}(k:HsK B w b who n f K)(hWB:W.heap.size<=B)(i:IntsAt W.heap.size W sv s):valOther who sv:=by
 intro g o l c e hl;obtain⟨ao,cap,rfl,_,h⟩:=i;simp only [Value.slice.injEq]at e;obtain⟨j,e2,_⟩:=e;obtain⟨g',o',d,e4,_⟩:=h 0 (by omega);rw [j]at d;simp only [Option.some.injEq,Addr.mk.injEq,and_true]at d;by_cases a:who g= .other
 ·exact a
 ·have:=(k.1.dom g a).1;omega
def HzG(W:World)(B b:Nat)(n:Int)(K:Nat->List (Value × Int))(e:Ending)(w':World):Prop:=
 e= .returned (.bool true)/\∃ who' f' K',Hz B w' b who' n f' K'/\W.grownBy w' none/\∀ c,c<5->(K' c).length<=(K c).length+4
theorem Fr.step0{w w1 w2:World}{who who1 who2:Nat->Role}{ex:Nat->Prop}(h:Fr w w1 who who1 ex)(hf:Fr w1 w2 who1 who2 (fun _=>False)):Fr w w2 who who2 ex:=h.trans (hf.mono fun _ e=>e.elim)
theorem Fr.stepG{w w1 w2:World}{who who1:Nat->Role}{ex:Nat->Prop}(h:Fr w w1 who who1 ex)(hg:w1.grownBy w2 none):Fr w w2 who who1 ex:=h.trans (Fr.grown hg)
def HzF(W:World)(B b:Nat)(n:Int)(K:Nat->List (Value × Int))(w:World)(who:Nat->Role)(e:Ending)(w':World):Prop:=
 e= .returned (.bool true)/\∃ who' f' K',Hz B w' b who' n f' K'/\W.grownBy w' none/\(∀ c,c<5->(K' c).length<=(K c).length+4)/\Fr w w' who who' (fun g=>w.heap.size<=g)
theorem HzF.g{W w:World}{B b:Nat}{n:Int}{K:Nat->List (Value × Int)}{who:Nat->Role}{e:Ending}{w':World}(h:HzF W B b n K w who e w'):HzG W B b n K e w':=by
 obtain⟨a,k,j,i,c,f,d,_⟩:=h;exact⟨a,k,j,i,c,f,d⟩
def HzE(W:World)(B b:Nat)(n:Int)(K:Nat->List (Value × Int))(w:World)(who:Nat->Role)(e:Ending)(w':World):Prop:=
 e= .returned (.bool true)/\∃ who' f',Hz B w' b who' n f' K/\W.grownBy w' none/\Fr w w' who who' (fun g=>w.heap.size<=g)
theorem HzE.g{W w:World}{B b:Nat}{n:Int}{K:Nat->List (Value × Int)}{who:Nat->Role}{e:Ending}{w':World}(h:HzE W B b n K w who e w'):HzG W B b n K e w':=by
 obtain⟨a,j,f,d,i,_⟩:=h;exact⟨a,j,f,K,d,i,fun c _=>Nat.le_add_right _ _⟩
end
section
open Go.RowKit
attribute [local go_sem] Go.World.cell?_alloc_some
theorem CI:((Tryz.prog.info? 76).map fun i=>(i.zero,i.size,i.bytes))=some (some (.agg #[.int .i64 0,.int .i64 0]),2,16):=by kernel_rfl
theorem BW:((Tryz.prog.info? 27).map fun i=>(i.zero,i.size,i.bytes))=some (some (.slice none 0 0),1,24):=by kernel_rfl
theorem EU(m:Int)(xs:List Value)(k len:Nat)(hx:xs.length=len*2)(hk:k<len):((((List.replicate k (elC m 1)).flatten++xs.drop (k*2)).set (k*2) (.int .i64 m)).set (k*2+1) (.int .i64 0))=(List.replicate (k+1) (elC m 1)).flatten++xs.drop ((k+1)*2):=by
 obtain⟨c,e⟩:∃ c,c=(List.replicate k (elC m 1)).flatten:=⟨_,rfl⟩;have h:c.length=k*2:=by rw [e];exact mr _ _
 rw [<-kY,<-e];have d:2<=(xs.drop (k*2)).length:=by rw [List.length_drop];omega
 have f:xs.drop ((k+1)*2)=(xs.drop (k*2)).drop 2:=by rw [List.drop_drop];congr 1<;>omega
 rw [f];generalize xs.drop (k*2)=zs at d;obtain⟨a,z1,b,rfl⟩:∃ a z1 b,zs=a::z1::b:=by
  match zs,d with
  | a::z1::b,_=>exact⟨a,z1,b,rfl⟩
 rw [<-h];simp [elC]
theorem wo(B:Nat)(w:World)(b:Nat)(who:Nat->Role)(n:Int)(f:Nat->Value)(K:Nat->List (Value × Int))(H:Value)(len:Nat)(xs:List Value)(r:HsK B w b who n f K)(C:w.ownsRow B 76 2 H len xs)(F:∀ g,H.ownBlock=some g->who g= .other)
  (br:0<=n) (hn1:n<=10000000000000) (hK:(K 1).length<=5000000000000) (ha:len<=900):
  Calls Tryz.prog 25 #[pt b,H] w fun e w'=>(∃ v,e= .returned v)/\∃ who' f' K',HsK B w' b who' (n+1) f' K'/\oz 1 w w' who who' f f' K K' (fun g=>H.ownBlock=some g):=by
 obtain⟨i0,bi,bh,a2,a9⟩:=info_parts CI;obtain⟨i1,ba,bf,be,bb⟩:=info_parts BW;obtain⟨i2,bm,a6,aU,Y⟩:=info_parts ko;have aj:=C.1;obtain⟨x1,x2,x3,rfl⟩:=iw C;have Y:=(iB C).symm;subst Y;have HM:=ij (sT r.1 br (by omega));have HO:=ij F;have H0:Hid (WrG B 1 w (w.setCell ⟨b,5,none⟩ (.int .i64 (n+1))) b who (n+1) f (lw f 5 (.int .i64 (n+1))) K (.slice x1 len x3) len xs (-77000000 - (n+1)) 0):=by
  refine⟨⟨r.1.setCnt _,r.2⟩,?_,?_,fun o F=>iW _ _ (by omega)⟩
  ·have aK:(Value.slice x1 len x3).ownBlock≠some b:=fun e=>by have:=F b e;rw [r.1.wb]at this;cases this
   have h5:=ownsRow_setCell_other (a:=⟨b,5,none⟩) C aK (.int .i64 (n+1));have e5:(List.replicate 0 (elC (-77000000 - (n+1)) 1)).flatten++xs.drop (0*(elC (-77000000 - (n+1)) 1).length)=xs:=by simp
   rw [e5];exact h5
  ·exact Fr.set (Or.inl (by rw [r.1.wb];simp))
 have aE:pt b= .pointer (some ⟨b,0,none⟩):=rfl;rw [aE]at*;clear r C F aE;generalize hm: -77000000 - (n+1)=m at*;have HMM:=ij hm;clear hm;go_enter Tryz.func25,Tryz.ntmps25
 go_wp2_with (go_at_call 55;refine HM.out.mono ?_;rintro e w1 ⟨rfl,rfl⟩)
 go_loopw [5] (fun i w'=>∃ k:Nat,k<=len/\i= .int .i64 k/\Hid (WrG B 1 w w' b who (n+1) f (lw f 5 (.int .i64 (n+1))) K (.slice x1 len x3) len xs m k)) (fun i _=>len - (intOf i).toNat)
 case atStart=>exact⟨0,Nat.zero_le _,rfl,H0⟩
 case round=>
  clear H0 HM;obtain⟨k,S,rfl,x⟩:=hrel;obtain⟨h,am⟩:∃ h,h=wr:=⟨_,rfl⟩;rw [<-am]at x ⊢;clear am;by_cases a7:k<len
  ·obtain⟨g,cp,P,_,_⟩:=x.out.row.form (by omega);have l:h.ownsRow B 76 2 (.slice x1 len x3) len ((List.replicate k (elC m 1)).flatten++xs.drop (k*2)):=x.out.row;rw [P]at l;simp only [Value.slice.injEq,true_and]at P;obtain⟨rfl,rfl⟩:=P;have M:=HO.out g rfl;obtain⟨u0,y0⟩:∃ u,h.cell? ⟨g,k*2,none⟩=some u:=lO l (by omega);have z0:h.frozen? ⟨g,k*2,none⟩=false:=lN l;obtain⟨u1,y1⟩:∃ u,h.cell? ⟨g,k*2+1,none⟩=some u:=lO l (by omega);have z1:h.frozen? ⟨g,k*2+1,none⟩=false:=lN l;have aS:Hid (WrG B 1 w ((h.setCell ⟨g,k*2,none⟩ (.int .i64 m)).setCell ⟨g,k*2+1,none⟩ (.int .i64 0)) b who (n+1) f (lw f 5 (.int .i64 (n+1))) K (.slice (some ⟨g,0,none⟩) len x3) len xs m (k+1)):=by
    have R:=x.out;refine⟨((R.hs.setOther M).setOther M),?_,?_,R.lent⟩
    ·have h9:=(js (js l (k*2) (.int .i64 m)) (k*2+1) (.int .i64 0));have e9:=EU m xs k len aj a7;rw [e9]at h9;exact h9
    ·exact((R.fr).trans (Fr.set (Or.inr rfl))).trans (Fr.set (Or.inr rfl))
   have q0:(0:Int)<=(k:Int):=by omega
   have q1:(k:Int)<len:=by omega
   clear l M;go_wp2_with fail
   go_roundw
   case rel=>exact⟨k+1,by omega,by go_num,aS⟩
   case measure=>simp [intOf];omega
  ·have ek:k=len:=by omega
   have q1:(len:Int)<=(k:Int):=by omega
   have HS:Hid (∃ ab,KpG B 1 w h b who ab (n+1) m f (lw f 5 (.int .i64 (n+1))) K K (.slice x1 len x3) len 0 (fun g=>(Value.slice x1 len x3).ownBlock=some g)):=by
    have hi:=x.out;rw [ek]at hi;exact hi.kp (by omega) aj (by omega) HO.out
   clear x ek;go_wp2_with fail
   go_loopw [1,6] (fun lv' i w'=>∃ (k:Nat) (who':Nat->Role) (f':Nat->Value) (K':Nat->List (Value × Int)),k<=4/\i= .int .i64 k/\Hid (KpG B 1 w w' b who who' (n+1) m f f' K K' lv' (len+k) k (fun g=>(Value.slice x1 len x3).ownBlock=some g))) (fun _ i _=>4 - (intOf i).toNat)
   case atStart=>
    obtain⟨ab,h1⟩:=HS.out;exact⟨0,ab,_,K,by omega,rfl,ij h1⟩
   case round=>
    clear HS;obtain⟨j,who',f',K',hj,rfl,d⟩:=hrel;obtain⟨c,an⟩:∃ c,c=wr:=⟨_,rfl⟩;rw [<-an]at d ⊢;clear an;have A:c.ownsRow B 27 1 (f' 8) (K' 1).length ((K' 1).map (·.1)):=d.out.hs.lst 1 (by omega);have rM:c.ownsRow B 3 1 (f' 9) (K' 1).length (iL ((K' 1).map (·.2))):=by have:=d.out.hs.mrk 1 (by omega);simpa [jo]using this
    have G:c.ownsRow B 76 2 u1 (len+j) (List.replicate (len+j) (elC m 1)).flatten:=d.out.cu.row;have aL:Hid ((K' 1).length=(K 1).length+j):=d.out.len;have c6:c.cell? ⟨b,8,none⟩=some (f' 8):=d.out.hs.blk.cell (by omega);have hbase:B<=c.heap.size:=by have:=d.out.hs.blk.lt;have:=(d.out.hs.dom b (by rw [d.out.hs.wb];simp)).1;omega
    obtain⟨s,l2,y,rfl⟩:=iw G;have a4:=iB G;subst a4;obtain⟨Z,o2,L,eO⟩:=iw A;rw [eO]at A c6;have bl:=iB A;subst bl;have aI:(K' 1).length<=5000000000003\/¬j<4:=by have:=aL.out;omega
    have aN:=ij G;have ap:=ij A;have J:=ij eO;have bg:=ij rM;clear G A rM eO;by_cases hj4:j<4
    ·have aI:(K' 1).length<=5000000000003:=by omega
     have z2:(j:Int)<4:=by omega
     have aC:(K' 1).length+1<=maxLen:=by unfold maxLen;omega
     have aH:len+j+1<=maxLen:=by unfold maxLen;omega
     have Q:Hid (∀ {o:Obj} {g6 c6:Nat} {w6:World},w6.ownsRow B 27 1 (.slice (some ⟨g6,0,none⟩) ((K' 1).length+1) c6) ((K' 1).length+1) ((K' 1).map (·.1)++[.slice s (len+j) y])->
       (((Value.slice Z (K' 1).length L).ownBlock=some g6/\(c.alloc o).grownBy w6 (some g6))\/(g6=c.heap.size+1/\(c.alloc o).grownBy w6 none))->
       HB w6 b f'/\∃ who'' f'',KpA B 1 w (w6.setCell ⟨b,8,none⟩ (.slice (some ⟨g6,0,none⟩) ((K' 1).length+1) c6)) b who who'' (n+1) m f f'' K K' (.slice s (len+j) y) (len+j) j (fun g=>(Value.slice x1 len x3).ownBlock=some g)/\f'' 9=f' 9):=by
      intro o g6 c6 w6 aP key;rw [<-J.out]at key;exact d.out.push (by omega) aP key
     generalize ax:(K' 1).length=N at*;generalize bk:(K' 1).map (·.1)=L1 at*;have ae:=ij ax;clear ax bk;go_upto_region 9 with (at_builtin;go_must (refine iG rfl _ _ _ rfl B 27 i1 _ 1 24 Tryz.underlying42 ba bf be bb rfl (by omega) (.slice Z N L) N L1 rfl (iJ ap.out) ⟨c.heap.size,0,none⟩ 1 1 [.slice s (len+j) y] rfl rfl (World.news_of_block (cs:= #[.slice s (len+j) y]) (t:=27) (fr:=(0,0)) (heap_alloc_new c _)) (by simp [Value.oneCell']) (by omega) aC (by omega) (by simp;omega) (c.heap.size+1) (by simp) ?_);intro g8 a8 w8 ah U aQ;have W:=(Q.out ah U).1;have O:w8.cell? ⟨b,8,none⟩=some (.slice Z N L):=(by rw [W.cell (by omega),J.out]);have p7:=W.frozen 8)
     obtain⟨_,who9,f9,p,e9⟩:=Q.out ah U;generalize w8.setCell ⟨b,8,none⟩ (.slice (some ⟨g8,0,none⟩) (N+1) a8)=w9 at*;have aa:=ij p;have z:w9.ownsRow B 3 1 (f9 9) N (iL ((K' 1).map (·.2))):=by
      have:=p.hs.mrk 1 (by omega);rw [<-ae.out];simpa [jo]using this
     have c7:w9.cell? ⟨b,9,none⟩=some (f9 9):=p.hs.blk.cell (by omega);obtain⟨E,m2,I,V⟩:=iw z;rw [V]at z c7;have bj:=(iB z).symm;subst bj;have hbase9:B<=w9.heap.size:=by have:=p.hs.blk.lt;have:=(p.hs.dom b (by rw [p.hs.wb];simp)).1;omega
     have al:=ij z;have D:=ij V;clear ah U W O p7 aQ c6 p e9 Q z V J ap bg;go_upto_region 10 with (at_builtin;go_must (refine iG rfl _ _ _ rfl B 3 i2 _ 1 8 Tryz.underlying39 bm a6 aU Y rfl (by omega) (.slice E N I) N (iL ((K' 1).map (·.2))) rfl (iJ al.out) ⟨w9.heap.size,0,none⟩ 1 1 [.int .i64 m] rfl rfl (World.news_of_block (cs:= #[.int .i64 m]) (t:=3) (fr:=(0,0)) (heap_alloc_new w9 _)) (by simp [Value.oneCell']) (by omega) aC (by omega) (by simp;omega) (w9.heap.size+1) (by simp) ?_);intro bo bn ao af X a0;have T:=(aa.out.tell (by omega) (M1:=E) (M3:=I) D.out ae.out af X).1;have O:ao.cell? ⟨b,9,none⟩=some (.slice E N I):=(by rw [T.cell (by omega),D.out]);have p7:=T.frozen 9)
     obtain⟨_,who11,f11,q⟩:=aa.out.tell (by omega) (M1:=E) (M3:=I) D.out ae.out af X;generalize ao.setCell ⟨b,9,none⟩ (.slice (some ⟨bo,0,none⟩) (N+1) bn)=w11 at*;have aM:=ij q;have bd:Hid (w11.ownsRow B 76 2 (.slice s (len+j) y) (len+j) (List.replicate (len+j) (elC m 1)).flatten):=q.cu.row;have hbase11:B<=w11.heap.size:=by have:=q.hs.blk.lt;have:=(q.hs.dom b (by rw [q.hs.wb];simp)).1;omega
     clear af X T O p7 a0 c7 q aa al D aN;go_wp2_with (at_builtin;go_must (refine iG rfl _ _ _ rfl B 76 i0 _ 2 16 Tryz.underlying27 bi bh a2 a9 rfl (by omega) (.slice s (len+j) y) (len+j) (List.replicate (len+j) (elC m 1)).flatten rfl (iJ bd.out) ⟨w11.heap.size,0,none⟩ 1 1 [.int .i64 m,.int .i64 0] rfl rfl (World.news_of_block (cs:= #[.int .i64 m,.int .i64 0]) (t:=76) (fr:=(0,0)) (heap_alloc_new w11 _)) (by simp [Value.oneCell']) (by omega) aH (by omega) (by simp;omega) (w11.heap.size+1) (by simp) ?_);intro g12 cap12 w12 ay av aR;have bp:=ij (aM.out.grow (by omega) (by omega) ay av);clear ay av aR)
     go_roundw
     case rel=>
      obtain⟨bc,aZ⟩:=bp.out;exact⟨j+1,bc,_,_,by omega,by go_num,ij aZ⟩
     case measure=>simp [intOf];omega
    ·have z2:(4:Int)<=(j:Int):=by omega
     have HE:Hid (∃ who' f' K',HsK B c b who' (n+1) f' K'/\oz 1 w c who who' f f' K K' (fun g=>(Value.slice x1 len x3).ownBlock=some g)):=by
      have ej:j=4:=by omega
      have S:=d.out;rw [ej]at S;exact S.done
     go_wp2_with fail
     go_end0
     exact⟨⟨_,rfl⟩,HE.out⟩
theorem B3:((Tryz.prog.info? 28).map fun i=>(i.zero,i.size,i.bytes))=some (some (.agg #[.int .i64 0,.int .i64 0,.int .i64 0,.int .i64 0]),4,32):=by kernel_rfl
theorem C7:((Tryz.prog.info? 29).map fun i=>(i.zero,i.size,i.bytes))=some (some (.slice none 0 0),1,24):=by kernel_rfl
theorem Ej(m:Int)(xs:List Value)(k len:Nat)(hx:xs.length=len*4)(hk:k<len):((((((List.replicate k (elC m 2)).flatten++xs.drop (k*4)).set (k*4) (.int .i64 m)).set (k*4+1) (.int .i64 1)).set (k*4+2) (.int .i64 2)).set (k*4+3) (.int .i64 3))=(List.replicate (k+1) (elC m 2)).flatten++xs.drop ((k+1)*4):=by
 obtain⟨e,h⟩:∃ e,e=(List.replicate k (elC m 2)).flatten:=⟨_,rfl⟩;have j:e.length=k*4:=by rw [h];exact mr _ _
 rw [<-kY,<-h];have f:4<=(xs.drop (k*4)).length:=by rw [List.length_drop];omega
 have i:xs.drop ((k+1)*4)=(xs.drop (k*4)).drop 4:=by rw [List.drop_drop];congr 1<;>omega
 rw [i];generalize xs.drop (k*4)=zs at f;obtain⟨a,z1,b,c,d,rfl⟩:∃ a z1 b c d,zs=a::z1::b::c::d:=by
  match zs,f with
  | a::z1::b::c::d,_=>exact⟨a,z1,b,c,d,rfl⟩
 rw [<-j];simp [elC]
theorem xX(B:Nat)(w:World)(b:Nat)(who:Nat->Role)(n:Int)(f:Nat->Value)(K:Nat->List (Value × Int))(I:Value)(len:Nat)(xs:List Value)(r:HsK B w b who n f K)(D:w.ownsRow B 28 4 I len xs)(G:∀ g,I.ownBlock=some g->who g= .other)
  (br:0<=n) (hn1:n<=10000000000000) (hK:(K 2).length<=5000000000000) (ha:len<=900):
  Calls Tryz.prog 26 #[pt b,I] w fun e w'=>(∃ v,e= .returned v)/\∃ who' f' K',HsK B w' b who' (n+1) f' K'/\oz 2 w w' who who' f f' K K' (fun g=>I.ownBlock=some g):=by
 obtain⟨i0,bi,bh,a2,a9⟩:=info_parts B3;obtain⟨i1,ba,bf,be,bb⟩:=info_parts C7;obtain⟨i2,bm,a6,aV,Y⟩:=info_parts ko;have aj:=D.1;obtain⟨x1,x2,x3,rfl⟩:=iw D;have Y:=(iB D).symm;subst Y;have HM:=ij (sT r.1 br (by omega));have HO:=ij G;have H0:Hid (WrG B 2 w (w.setCell ⟨b,5,none⟩ (.int .i64 (n+1))) b who (n+1) f (lw f 5 (.int .i64 (n+1))) K (.slice x1 len x3) len xs (-77000000 - (n+1)) 0):=by
  refine⟨⟨r.1.setCnt _,r.2⟩,?_,?_,fun o G=>iW _ _ (by omega)⟩
  ·have aL:(Value.slice x1 len x3).ownBlock≠some b:=fun e=>by have:=G b e;rw [r.1.wb]at this;cases this
   have h5:=ownsRow_setCell_other (a:=⟨b,5,none⟩) D aL (.int .i64 (n+1));have e5:(List.replicate 0 (elC (-77000000 - (n+1)) 2)).flatten++xs.drop (0*(elC (-77000000 - (n+1)) 2).length)=xs:=by simp
   rw [e5];exact h5
  ·exact Fr.set (Or.inl (by rw [r.1.wb];simp))
 have aF:pt b= .pointer (some ⟨b,0,none⟩):=rfl;rw [aF]at*;clear r D G aF;generalize hm: -77000000 - (n+1)=m at*;have HMM:=ij hm;clear hm;go_enter Tryz.func26,Tryz.ntmps26
 go_wp2_with (go_at_call 55;refine HM.out.mono ?_;rintro e w1 ⟨rfl,rfl⟩)
 go_loopw [5] (fun i w'=>∃ k:Nat,k<=len/\i= .int .i64 k/\Hid (WrG B 2 w w' b who (n+1) f (lw f 5 (.int .i64 (n+1))) K (.slice x1 len x3) len xs m k)) (fun i _=>len - (intOf i).toNat)
 case atStart=>exact⟨0,Nat.zero_le _,rfl,H0⟩
 case round=>
  clear H0 HM;obtain⟨k,S,rfl,x⟩:=hrel;obtain⟨d,an⟩:∃ d,d=wr:=⟨_,rfl⟩;rw [<-an]at x ⊢;clear an;by_cases a7:k<len
  ·obtain⟨g,cp,P,_,_⟩:=x.out.row.form (by omega);have l:d.ownsRow B 28 4 (.slice x1 len x3) len ((List.replicate k (elC m 2)).flatten++xs.drop (k*4)):=x.out.row;rw [P]at l;simp only [Value.slice.injEq,true_and]at P;obtain⟨rfl,rfl⟩:=P;have z:=HO.out g rfl;obtain⟨u0,y0⟩:∃ u,d.cell? ⟨g,k*4,none⟩=some u:=lO l (by omega);have z0:d.frozen? ⟨g,k*4,none⟩=false:=lN l;obtain⟨u1,y1⟩:∃ u,d.cell? ⟨g,k*4+1,none⟩=some u:=lO l (by omega);have z1:d.frozen? ⟨g,k*4+1,none⟩=false:=lN l;obtain⟨u2,y2⟩:∃ u,d.cell? ⟨g,k*4+2,none⟩=some u:=lO l (by omega);have z2:d.frozen? ⟨g,k*4+2,none⟩=false:=lN l;obtain⟨u3,y3⟩:∃ u,d.cell? ⟨g,k*4+3,none⟩=some u:=lO l (by omega);have z3:d.frozen? ⟨g,k*4+3,none⟩=false:=lN l;have aT:Hid (WrG B 2 w ((((d.setCell ⟨g,k*4,none⟩ (.int .i64 m)).setCell ⟨g,k*4+1,none⟩ (.int .i64 1)).setCell ⟨g,k*4+2,none⟩ (.int .i64 2)).setCell ⟨g,k*4+3,none⟩ (.int .i64 3)) b who (n+1) f (lw f 5 (.int .i64 (n+1))) K (.slice (some ⟨g,0,none⟩) len x3) len xs m (k+1)):=by
    have R:=x.out;refine⟨((((R.hs.setOther z).setOther z).setOther z).setOther z),?_,?_,R.lent⟩
    ·have h9:=(js (js (js (js l (k*4) (.int .i64 m)) (k*4+1) (.int .i64 1)) (k*4+2) (.int .i64 2)) (k*4+3) (.int .i64 3));have e9:=Ej m xs k len aj a7;rw [e9]at h9;exact h9
    ·exact((((R.fr).trans (Fr.set (Or.inr rfl))).trans (Fr.set (Or.inr rfl))).trans (Fr.set (Or.inr rfl))).trans (Fr.set (Or.inr rfl))
   have q0:(0:Int)<=(k:Int):=by omega
   have q1:(k:Int)<len:=by omega
   clear l z;go_wp2_with fail
   go_roundw
   case rel=>exact⟨k+1,by omega,by go_num,aT⟩
   case measure=>simp [intOf];omega
  ·have ek:k=len:=by omega
   have q1:(len:Int)<=(k:Int):=by omega
   have HS:Hid (∃ ab,KpG B 2 w d b who ab (n+1) m f (lw f 5 (.int .i64 (n+1))) K K (.slice x1 len x3) len 0 (fun g=>(Value.slice x1 len x3).ownBlock=some g)):=by
    have hi:=x.out;rw [ek]at hi;exact hi.kp (by omega) aj (by omega) HO.out
   clear x ek;go_wp2_with fail
   go_loopw [1,6] (fun lv' i w'=>∃ (k:Nat) (who':Nat->Role) (f':Nat->Value) (K':Nat->List (Value × Int)),k<=4/\i= .int .i64 k/\Hid (KpG B 2 w w' b who who' (n+1) m f f' K K' lv' (len+k) k (fun g=>(Value.slice x1 len x3).ownBlock=some g))) (fun _ i _=>4 - (intOf i).toNat)
   case atStart=>
    obtain⟨ab,h1⟩:=HS.out;exact⟨0,ab,_,K,by omega,rfl,ij h1⟩
   case round=>
    clear HS;obtain⟨j,who',f',K',hj,rfl,h⟩:=hrel;obtain⟨c,ao⟩:∃ c,c=wr:=⟨_,rfl⟩;rw [<-ao]at h ⊢;clear ao;have C:c.ownsRow B 29 1 (f' 10) (K' 2).length ((K' 2).map (·.1)):=h.out.hs.lst 2 (by omega);have rM:c.ownsRow B 3 1 (f' 11) (K' 2).length (iL ((K' 2).map (·.2))):=by have:=h.out.hs.mrk 2 (by omega);simpa [jo]using this
    have H:c.ownsRow B 28 4 u1 (len+j) (List.replicate (len+j) (elC m 2)).flatten:=h.out.cu.row;have aM:Hid ((K' 2).length=(K 2).length+j):=h.out.len;have c6:c.cell? ⟨b,10,none⟩=some (f' 10):=h.out.hs.blk.cell (by omega);have hbase:B<=c.heap.size:=by have:=h.out.hs.blk.lt;have:=(h.out.hs.dom b (by rw [h.out.hs.wb];simp)).1;omega
    obtain⟨s,l2,y,rfl⟩:=iw H;have a4:=iB H;subst a4;obtain⟨Z,o2,M,eO⟩:=iw C;rw [eO]at C c6;have bl:=iB C;subst bl;have aJ:(K' 2).length<=5000000000003\/¬j<4:=by have:=aM.out;omega
    have aO:=ij H;have aq:=ij C;have L:=ij eO;have bg:=ij rM;clear H C rM eO;by_cases hj4:j<4
    ·have aJ:(K' 2).length<=5000000000003:=by omega
     have z2:(j:Int)<4:=by omega
     have aD:(K' 2).length+1<=maxLen:=by unfold maxLen;omega
     have aI:len+j+1<=maxLen:=by unfold maxLen;omega
     have Q:Hid (∀ {o:Obj} {g6 c6:Nat} {w6:World},w6.ownsRow B 29 1 (.slice (some ⟨g6,0,none⟩) ((K' 2).length+1) c6) ((K' 2).length+1) ((K' 2).map (·.1)++[.slice s (len+j) y])->
       (((Value.slice Z (K' 2).length M).ownBlock=some g6/\(c.alloc o).grownBy w6 (some g6))\/(g6=c.heap.size+1/\(c.alloc o).grownBy w6 none))->
       HB w6 b f'/\∃ who'' f'',KpA B 2 w (w6.setCell ⟨b,10,none⟩ (.slice (some ⟨g6,0,none⟩) ((K' 2).length+1) c6)) b who who'' (n+1) m f f'' K K' (.slice s (len+j) y) (len+j) j (fun g=>(Value.slice x1 len x3).ownBlock=some g)/\f'' 11=f' 11):=by
      intro o g6 c6 w6 aQ key;rw [<-L.out]at key;exact h.out.push (by omega) aQ key
     generalize ay:(K' 2).length=N at*;generalize bk:(K' 2).map (·.1)=L1 at*;have ae:=ij ay;clear ay bk;go_upto_region 9 with (at_builtin;go_must (refine iG rfl _ _ _ rfl B 29 i1 _ 1 24 Tryz.underlying43 ba bf be bb rfl (by omega) (.slice Z N M) N L1 rfl (iJ aq.out) ⟨c.heap.size,0,none⟩ 1 1 [.slice s (len+j) y] rfl rfl (World.news_of_block (cs:= #[.slice s (len+j) y]) (t:=29) (fr:=(0,0)) (heap_alloc_new c _)) (by simp [Value.oneCell']) (by omega) aD (by omega) (by simp;omega) (c.heap.size+1) (by simp) ?_);intro g8 a8 w8 ah U aR;have W:=(Q.out ah U).1;have O:w8.cell? ⟨b,10,none⟩=some (.slice Z N M):=(by rw [W.cell (by omega),L.out]);have p7:=W.frozen 10)
     obtain⟨_,who9,f9,p,e9⟩:=Q.out ah U;generalize w8.setCell ⟨b,10,none⟩ (.slice (some ⟨g8,0,none⟩) (N+1) a8)=w9 at*;have aa:=ij p;have A:w9.ownsRow B 3 1 (f9 11) N (iL ((K' 2).map (·.2))):=by
      have:=p.hs.mrk 2 (by omega);rw [<-ae.out];simpa [jo]using this
     have c7:w9.cell? ⟨b,11,none⟩=some (f9 11):=p.hs.blk.cell (by omega);obtain⟨F,m2,J,V⟩:=iw A;rw [V]at A c7;have bj:=(iB A).symm;subst bj;have hbase9:B<=w9.heap.size:=by have:=p.hs.blk.lt;have:=(p.hs.dom b (by rw [p.hs.wb];simp)).1;omega
     have am:=ij A;have E:=ij V;clear ah U W O p7 aR c6 p e9 Q A V L aq bg;go_upto_region 10 with (at_builtin;go_must (refine iG rfl _ _ _ rfl B 3 i2 _ 1 8 Tryz.underlying39 bm a6 aV Y rfl (by omega) (.slice F N J) N (iL ((K' 2).map (·.2))) rfl (iJ am.out) ⟨w9.heap.size,0,none⟩ 1 1 [.int .i64 m] rfl rfl (World.news_of_block (cs:= #[.int .i64 m]) (t:=3) (fr:=(0,0)) (heap_alloc_new w9 _)) (by simp [Value.oneCell']) (by omega) aD (by omega) (by simp;omega) (w9.heap.size+1) (by simp) ?_);intro bo bn ap af X a1;have T:=(aa.out.tell (by omega) (M1:=F) (M3:=J) E.out ae.out af X).1;have O:ap.cell? ⟨b,11,none⟩=some (.slice F N J):=(by rw [T.cell (by omega),E.out]);have p7:=T.frozen 11)
     obtain⟨_,who11,f11,q⟩:=aa.out.tell (by omega) (M1:=F) (M3:=J) E.out ae.out af X;generalize ap.setCell ⟨b,11,none⟩ (.slice (some ⟨bo,0,none⟩) (N+1) bn)=w11 at*;have aN:=ij q;have bd:Hid (w11.ownsRow B 28 4 (.slice s (len+j) y) (len+j) (List.replicate (len+j) (elC m 2)).flatten):=q.cu.row;have hbase11:B<=w11.heap.size:=by have:=q.hs.blk.lt;have:=(q.hs.dom b (by rw [q.hs.wb];simp)).1;omega
     clear af X T O p7 a1 c7 q aa am E aO;go_wp2_with (at_builtin;go_must (refine iG rfl _ _ _ rfl B 28 i0 _ 4 32 Tryz.underlying29 bi bh a2 a9 rfl (by omega) (.slice s (len+j) y) (len+j) (List.replicate (len+j) (elC m 2)).flatten rfl (iJ bd.out) ⟨w11.heap.size,0,none⟩ 1 1 [.int .i64 m,.int .i64 1,.int .i64 2,.int .i64 3] rfl rfl (World.news_of_block (cs:= #[.int .i64 m,.int .i64 1,.int .i64 2,.int .i64 3]) (t:=28) (fr:=(0,0)) (heap_alloc_new w11 _)) (by simp [Value.oneCell']) (by omega) aI (by omega) (by simp;omega) (w11.heap.size+1) (by simp) ?_);intro g12 cap12 w12 az aw aS;have bp:=ij (aN.out.grow (by omega) (by omega) az aw);clear az aw aS)
     go_roundw
     case rel=>
      obtain⟨bc,a0⟩:=bp.out;exact⟨j+1,bc,_,_,by omega,by go_num,ij a0⟩
     case measure=>simp [intOf];omega
    ·have z2:(4:Int)<=(j:Int):=by omega
     have HE:Hid (∃ who' f' K',HsK B c b who' (n+1) f' K'/\oz 2 w c who who' f f' K K' (fun g=>(Value.slice x1 len x3).ownBlock=some g)):=by
      have ej:j=4:=by omega
      have S:=h.out;rw [ej]at S;exact S.done
     go_wp2_with fail
     go_end0
     exact⟨⟨_,rfl⟩,HE.out⟩
end
section
open Go.RowKit
theorem tD{w w':World}(h:w.drew.grownBy w' none):w.grownBy w' none:=⟨h.os,h.tape,h.output,h.size,h.block⟩
def rR(p:List (List Ins))(s:List Int):List (Int × Int):=if iC p s=0 then (iI p s).steps else []
def rU(p:List (List Ins))(s:List Int):Nat:=if iC p s=0 then p.length else 0
theorem rO{p:List (List Ins)}{s:List Int}(h:iC p s=0):iU p=true/\s.length<=500:=by
 unfold iC at h;by_cases a:iU p=true
 ·by_cases b:s.length<=500
  ·exact⟨a,b⟩
  ·simp [a,b]at h
 ·simp [a]at h
theorem Ec(p:List (List Ins))(s:List Int):(rR p s).length<=500:=by
 unfold rR;by_cases h:iC p s=0
 ·rw [if_pos h];obtain⟨m,h1,_,a,_⟩:=og p s 0 St.zero [];have h5:=(rO h).2;unfold iI;simp at a;omega
 ·rw [if_neg h];simp
theorem Eg(p:List (List Ins))(s:List Int):rU p s<=4:=by
 unfold rU;by_cases h:iC p s=0
 ·rw [if_pos h];exact(jz (rO h).1).2
 ·rw [if_neg h];omega
theorem ResV.rows{p:List (List Ins)}{s:List Int}{B:Nat}{w:World}{k t a l o n r c:Int}{x1 j:Option Addr}{m x3 q i:Nat}
  (h:ResV p s B w (.agg #[.int .i64 k,.int .i64 t,.int .i64 a,.slice x1 m x3,.int .i64 l,.int .i64 o,.int .i64 n,.int .i64 r,.slice j q i]) c):
  m=(rR p s).length/\q=rU p s/\w.ownsRow B 76 2 (.slice x1 m x3) m (iR (rR p s))/\w.ownsRow B 28 4 (.slice j q i) q (jp (rU p s) (iI p s).st):=by
 obtain⟨k',t',a',u0,u1,u2,u3,z1,z3,r1,r3,m',q',e,hc,h⟩:=h;simp only [Value.agg.injEq,Array.mk.injEq,List.cons.injEq,Value.int.injEq,Value.slice.injEq,true_and,and_true]at e;obtain⟨rfl,rfl,rfl,⟨rfl,rfl,rfl⟩,rfl,rfl,rfl,rfl,rfl,rfl,rfl⟩:=e;rcases h with ⟨h0,_,_,_,_,_,_,_,hm,hq,h1,h2⟩ | ⟨h0,_,_,_,_,_,_,_,hm,hq,e1,e3,f1,f3⟩
 ·have f:iC p s=0:=by rw [<-hc,h0]
  have b:rR p s=(iI p s).steps:=by unfold rR;rw [if_pos f]
  have d:rU p s=p.length:=by unfold rU;rw [if_pos f]
  refine⟨by rw [b,hm],by rw [d,hq],?_,?_⟩
  ·rw [b];rw [<-hm]at h1;exact h1
  ·rw [d];rw [hq]at h2 ⊢;exact h2
 ·have f:iC p s≠0:=by rw [<-hc];exact h0
  have b:rR p s=[]:=by unfold rR;rw [if_neg f]
  have d:rU p s=0:=by unfold rU;rw [if_neg f]
  subst hm hq e1 e3 f1 f3;exact⟨by rw [b];rfl,by rw [d],by rw [b];exact⟨rfl,Or.inl ⟨rfl,rfl⟩⟩,by rw [d];exact⟨rfl,Or.inl ⟨rfl,rfl⟩⟩⟩
theorem uf:∀ (l:List (Int × Int)) (j:Nat) (hj:j<l.length),(iR l)[j*2]?=some (.int .i64 l[j].1)/\(iR l)[j*2+1]?=some (.int .i64 l[j].2)
 | [],j,hj=>by simp at hj
 | x::l,0,hj=>by simp [iR]
 | x::l,j+1,hj=>by
  have h:=uf l j (by simpa using hj);have e:iR (x::l)=[.int .i64 x.1,.int .i64 x.2]++iR l:=by simp [iR]
  have e2:∀ q,(iR (x::l))[(j+1)*2+q]?=(iR l)[j*2+q]?:=fun q=>by
   rw [e,List.getElem?_append_right (by simp;omega)];congr 1
   simp;omega
  refine⟨?_,?_⟩
  ·have:=e2 0;simp only [Nat.add_zero]at this;rw [this];simpa using h.1
  ·rw [e2 1];simpa using h.2
theorem s7(s:St):∀ (n t:Nat),t<n->(jp n s)[t*4]?=some (.int .i64 (s.regs t 0))/\(jp n s)[t*4+1]?=some (.int .i64 (s.regs t 1))/\(jp n s)[t*4+2]?=some (.int .i64 (s.regs t 2))/\(jp n s)[t*4+3]?=some (.int .i64 (s.regs t 3))
 | 0,t,h=>by omega
 | n+1,t,h=>by
  have e:jp (n+1) s=jp n s++[.int .i64 (s.regs n 0),.int .i64 (s.regs n 1),.int .i64 (s.regs n 2),.int .i64 (s.regs n 3)]:=by
   unfold jp;rw [List.range_succ,List.flatMap_append];simp
  have a:=kk n s;rw [e];by_cases i:t<n
  ·obtain⟨c,b,d,f⟩:=s7 s n t i;refine⟨?_,?_,?_,?_⟩
   ·rw [List.getElem?_append_left (by omega)];exact c
   ·rw [List.getElem?_append_left (by omega)];exact b
   ·rw [List.getElem?_append_left (by omega)];exact d
   ·rw [List.getElem?_append_left (by omega)];exact f
  ·have:t=n:=by omega
   subst this;refine⟨?_,?_,?_,?_⟩
   ·rw [List.getElem?_append_right (by omega),a,Nat.sub_self];rfl
   ·rw [List.getElem?_append_right (by omega),a,Nat.add_sub_cancel_left];rfl
   ·rw [List.getElem?_append_right (by omega),a,Nat.add_sub_cancel_left];rfl
   ·rw [List.getElem?_append_right (by omega),a,Nat.add_sub_cancel_left];rfl
theorem pf{w:World}{B:Nat}{e:TypeId}{z:Nat}{a:Option Addr}{m c n:Nat}{xs:List Value}(h:w.ownsRow B e z (.slice a m c) n xs)(hn:0<n):∃ g,a=some ⟨g,0,none⟩:=by
 rcases h.2 with ⟨_,e⟩ | ⟨g,cap,cur,hv,_⟩
 ·omega
 ·simp only [Value.slice.injEq]at hv;exact⟨g,hv.1⟩
def SamS(w:World)(x1 z1:Option Addr)(m:Nat):Prop:=∀ i,i<m->∃ g g' A D,x1=some ⟨g,0,none⟩/\z1=some ⟨g',0,none⟩/\w.cell? ⟨g,i*2,none⟩=some (.int .i64 A)/\w.cell? ⟨g,i*2+1,none⟩=some (.int .i64 D)/\w.cell? ⟨g',i*2,none⟩=some (.int .i64 A)/\w.cell? ⟨g',i*2+1,none⟩=some (.int .i64 D)
def SamR(w:World)(y1 r1:Option Addr)(q:Nat):Prop:=∀ i,i<q->∃ g g' A D E F,y1=some ⟨g,0,none⟩/\r1=some ⟨g',0,none⟩/\w.cell? ⟨g,i*4,none⟩=some (.int .i64 A)/\w.cell? ⟨g,i*4+1,none⟩=some (.int .i64 D)/\w.cell? ⟨g,i*4+2,none⟩=some (.int .i64 E)/\w.cell? ⟨g,i*4+3,none⟩=some (.int .i64 F)/\
 w.cell? ⟨g',i*4,none⟩=some (.int .i64 A)/\w.cell? ⟨g',i*4+1,none⟩=some (.int .i64 D)/\w.cell? ⟨g',i*4+2,none⟩=some (.int .i64 E)/\w.cell? ⟨g',i*4+3,none⟩=some (.int .i64 F)
theorem EQ{w:World}{B f:Nat}{x1 z1:Option Addr}{m c j:Nat}{L:List (Int × Int)}(hm:m=L.length)(h:w.ownsRow B 76 2 (.slice x1 m c) m (iR L))(a:w.ownsRow f 76 2 (.slice z1 m j) m (iR L)):SamS w x1 z1 m:=by
 intro i hi;obtain⟨g,rfl⟩:=pf h (by omega);obtain⟨e,rfl⟩:=pf a (by omega);obtain⟨b,d⟩:=uf L i (by omega);exact⟨g,e,_,_,rfl,rfl,by rw [h.cellAt _ (by omega)];exact b,by rw [h.cellAt _ (by omega)];exact d,by rw [a.cellAt _ (by omega)];exact b,by rw [a.cellAt _ (by omega)];exact d⟩
theorem EH{w:World}{B o:Nat}{l k:Option Addr}{q c p:Nat}{b:St}(h:w.ownsRow B 28 4 (.slice l q c) q (jp q b))(a:w.ownsRow o 28 4 (.slice k q p) q (jp q b)):SamR w l k q:=by
 intro i m;obtain⟨g,rfl⟩:=pf h (by omega);obtain⟨n,rfl⟩:=pf a (by omega);obtain⟨d,j,e,f⟩:=s7 b q i m;exact⟨g,n,_,_,_,_,rfl,rfl,by rw [h.cellAt _ (by omega)];exact d,by rw [h.cellAt _ (by omega)];exact j,by rw [h.cellAt _ (by omega)];exact e,by rw [h.cellAt _ (by omega)];exact f,by rw [a.cellAt _ (by omega)];exact d,by rw [a.cellAt _ (by omega)];exact j,by rw [a.cellAt _ (by omega)];exact e,by rw [a.cellAt _ (by omega)];exact f⟩
theorem SamS.pres{w w':World}{x1 z1:Option Addr}{m:Nat}(h:SamS w x1 z1 m)(hp:Pres w w'):SamS w' x1 z1 m:=fun i hi=>by
 obtain⟨g,g',A,D,e1,e2,c1,c2,c3,c4⟩:=h i hi;exact⟨g,g',A,D,e1,e2,hp _ _ c1,hp _ _ c2,hp _ _ c3,hp _ _ c4⟩
theorem SamR.pres{w w':World}{x1 z1:Option Addr}{m:Nat}(h:SamR w x1 z1 m)(hp:Pres w w'):SamR w' x1 z1 m:=fun i hi=>by
 obtain⟨g,g',A,D,E,F,e1,e2,c1,c2,c3,c4,c5,c6,c7,c8⟩:=h i hi;exact⟨g,g',A,D,E,F,e1,e2,hp _ _ c1,hp _ _ c2,hp _ _ c3,hp _ _ c4,hp _ _ c5,hp _ _ c6,hp _ _ c7,hp _ _ c8⟩
theorem AN{w:World}{B f:Nat}{v b:Value}{m q:Nat}{xs c:List Value}(h:w.ownsRow B 76 2 v m xs)(d:w.ownsRow f 28 4 b q c){g:Nat}(e:v.ownBlock=some g)(a:b.ownBlock=some g):False:=by
 rcases h.2 with ⟨rfl,_⟩ | ⟨g1,cap1,cur1,rfl,_,hh,_⟩
 ·cases e
 ·rcases d.2 with ⟨rfl,_⟩ | ⟨g2,cap2,cur2,rfl,_,hh',_⟩
  ·cases a
  ·simp only [Value.ownBlock,Option.some.injEq]at e a;subst e a;rw [hh]at hh';simp only [Option.some.injEq,Obj.cells.injEq]at hh';exact absurd hh'.2.1 (by decide)
end
section
def atR(n:Nat):Code->Bool
 | .region k _ _=>Nat.beq k n
 | .seq a _=>atR n a
 | .block _ c=>atR n c
 | .scope c=>atR n c
 | .loop c=>atR n c
 | _=>false
def oI(n:Nat):Code->Option Code
 | .seq a b=>match atR n a with
  | true=>some (.seq a b)
  | false=>match oI n a with
   | some c=>some c
   | none=>oI n b
 | .block _ c=>oI n c
 | .scope c=>oI n c
 | .loop c=>oI n c
 | .cond _ a b=>match oI n a with
  | some c=>some c
  | none=>oI n b
 | _=>none
def oM(f:Func)(n:Nat):Code:=match f.body with
 | some c=>(oI n c).getD .skip
 | none=> .skip
end
section
open Go.RowKit
attribute [local go_sem] Go.World.cell?_alloc_some rZ
theorem Du{B:Nat}{W w:World}{b s Z:Nat}{who:Nat->Role}{n:Int}{f:Nat->Value}{K:Nat->List (Value × Int)}{x1 d z1 r1:Option Addr}{m q x3 l z3 r3:Nat}{L G:List Value}
  (HZ:Hid (Hz B w b who n f K)) (HW:Hid (W.grownBy w none)) (al:W.heap.size<=B) (HX:Hid (w.ownsRow B 76 2 (.slice x1 m x3) m L)) (HY:Hid (w.ownsRow B 28 4 (.slice d q l) q G))
  (dC:Hid (∀ g,(Value.slice x1 m x3).ownBlock=some g->who g= .other)) (cO:Hid (∀ g,(Value.slice d q l).ownBlock=some g->who g= .other)) (fu:Hid (SamS w x1 z1 m)) (dw:Hid (SamR w d r1 q))
  (ak:Hid (w.cell? ⟨s,3,none⟩=some (.slice x1 m x3))) (es:Hid (w.cell? ⟨s,8,none⟩=some (.slice d q l))) (cA:Hid (w.cell? ⟨Z,3,none⟩=some (.slice z1 m z3))) (dH:Hid (w.cell? ⟨Z,8,none⟩=some (.slice r1 q r3)))
  (bw:Hid (who s= .other)) (aH:Hid ((Value.slice x1 m x3).ownBlock≠some s)) (hm:m<=500) (hq:q<=4) (df:0<=n) (hn1:n<=9000000000000) (H:Hid (∀ c,c<5->(K c).length<=4900000000000))
  {Q:Exit->Act->World->Prop} {c1 c2 c3 c4 c5 c6 c7 c9 ei fb ea fh aP bM dr eG dg dW fK fD a0 fd cV cr fk az ca dx dM eb dF bZ b6 aQ ee cS eH cM bC aE di cY cB ck cf aI be d2 eX dQ cC eQ d4 fc a1 dj ch e9 fv a4 bB da ez d6 eD bc cy er ay cK a8 b8 dt eP fi cq fB bX dN dL ex cx aJ aR eC bQ eW eJ cd ce fm aA co ej db dm ar fa aF bK dZ aD fo aZ fI ba el aU dU fj d9 fg dc fw bx bG cv av cw cN dO eZ cR d1 ep aO bF b2 bb d0 eU dy en ew eI dI cQ:Value}
  (HQ:Hid (∀ {z0 z1 z2 z3 z4 z5 z7 z8 z9 dp cE fx bo aV cl bg cs eM dP bP ff cp dq cG aX bN ax bS b5 cj bH bI cF cW fH eT dV bV dR fE eu dn aN dJ aK eL eB dS fz cg a9 aB dK dd b1 bm fA dh ek dk aG dz eY bL b9 dB fe bd eF a7 d5 d8 aY fC bz dG bU eO dX ds b4 eg eN bi aC bJ cz cT b7 eK br aS du cI aT bv em fJ et bW dD aL cU dv a2 ec bh bO dA bf cP eo ef fG dT cH fp dY bp cL cb bl fq fn bD ft bE bu bA d7 eq ct ev eV fs aW cu eA cc bY:Value} (w':World),(∃ who' f' K',Hz B w' b who' (n+2) f' K'/\W.grownBy w' none/\(∀ c,c<5->(K' c).length<=(K c).length+4)/\Fr w w' who who' (fun g=>(Value.slice x1 m x3).ownBlock=some g\/(Value.slice d q l).ownBlock=some g))->Q .ret ⟨#[z0,z1,z2,z3,z4,z5,.bool true,z7,z8,z9,dp,cE,fx,bo,aV,cl,bg,cs,eM,dP,bP,ff,cp,dq,cG,aX,bN,ax,bS,b5,cj,bH,bI,cF,cW,fH,eT,dV,bV,dR,fE,eu,dn,aN,dJ,aK,eL,eB,dS,fz,cg,a9,aB,dK,dd,b1,bm,fA,dh,ek,dk,aG,dz,eY,bL,b9,dB,fe,bd,eF,a7,d5,d8,aY,fC,bz,dG,bU,eO,dX,ds,b4,eg,eN,bi,aC,bJ,cz,cT,b7,eK,br,aS,du,cI,aT,bv,em,fJ,et,bW,dD,aL,cU,dv,a2,ec,bh,bO,dA,bf,cP,eo,ef,fG,dT,cH,fp,dY,bp,cL,cb,bl,fq,fn,bD,ft,bE,bu,bA,d7,eq,ct,ev,eV,fs,aW,cu,eA,cc,bY],[]⟩ w')):
  Code.wp Tryz.prog (oM Tryz.f6 6) Q ⟨#[.pointer (some ⟨b,0,none⟩),c1,c2,c3,c4,c5,c6,c7,.pointer (some ⟨s,0,none⟩),c9,ei,.pointer (some ⟨Z,0,none⟩),fb,.bool true,ea,fh,aP,bM,dr,eG,dg,dW,fK,fD,a0,fd,cV,cr,fk,az,ca,dx,dM,eb,dF,bZ,b6,aQ,ee,cS,eH,cM,bC,aE,di,cY,cB,ck,cf,aI,be,d2,eX,dQ,cC,eQ,d4,fc,a1,dj,ch,e9,fv,a4,bB,da,ez,d6,eD,bc,cy,er,ay,cK,a8,b8,dt,eP,fi,cq,fB,bX,dN,dL,ex,cx,aJ,aR,eC,bQ,eW,eJ,cd,ce,fm,aA,co,ej,db,dm,ar,fa,aF,bK,dZ,aD,fo,aZ,fI,ba,el,aU,dU,fj,d9,fg,dc,fw,bx,bG,cv,av,cw,cN,dO,eZ,cR,d1,ep,aO,bF,b2,bb,d0,eU,dy,en,ew,eI,dI,cQ],[]⟩ w:=by
 conv=>arg 2;whnf
 have qm:(m:Int)<=500:=by omega
 have qq:(q:Int)<=4:=by omega
 go_wp2_with fail
 go_loopw [13,14] (fun ov iv w'=>∃ i:Nat,i<=m/\ov= .bool true/\iv= .int .i64 i/\Hid (jt w' w)) (fun _ iv _=>m - (intOf iv).toNat)
 case atStart=>exact⟨0,Nat.zero_le _,rfl,rfl,ij (jq _)⟩
 case round=>
  obtain⟨i,hi,rfl,rfl,p⟩:=hrel;obtain⟨X,ah⟩:∃ X,X=wr:=⟨_,rfl⟩;rw [<-ah]at p ⊢;clear ah;have a:Hid (w.grownBy X none):=iK p.out;have U:=ip a.out _ _ ak.out;by_cases eh:i<m
  ·have t0:(0:Int)<=(i:Int):=by omega
   have t1:(i:Int)<m:=by omega
   obtain⟨g,g',A,D,rfl,rfl,e1,C,e3,e4⟩:=fu.out.pres (ip a.out) i eh;have k4:=ip a.out _ _ cA.out;go_wp2_with fail
   go_quiet (fail)
   go_wp2_with fail
   go_roundw
   case rel=>exact⟨i+1,by omega,by simp,by go_num,ij (jV p.out _)⟩
   case measure=>simp [intOf];omega
  ·have t1:(m:Int)<=(i:Int):=by omega
   go_wp2_with fail
   go_loopw [13,15] (fun ov iv w'=>∃ i:Nat,i<=q/\ov= .bool true/\iv= .int .i64 i/\Hid (jt w' w)) (fun _ iv _=>q - (intOf iv).toNat)
   case atStart=>exact⟨0,Nat.zero_le _,rfl,rfl,p⟩
   case round=>
    clear U a p;obtain⟨j,hj,rfl,rfl,p⟩:=hrel;obtain⟨o,af⟩:∃ o,o=wr:=⟨_,rfl⟩;rw [<-af]at p ⊢;clear af;have a:Hid (w.grownBy o none):=iK p.out;have z:=ip a.out _ _ es.out;by_cases dE:j<q
    ·have t2:(0:Int)<=(j:Int):=by omega
     have t3:(j:Int)<q:=by omega
     obtain⟨g,g',A,D,E,F,rfl,rfl,e1,C,e3,e4,e5,e6,e7,e8⟩:=dw.out.pres (ip a.out) j dE;have k9:=ip a.out _ _ dH.out;go_wp2_with fail
     go_quiet (fail)
     go_wp2_with fail
     go_roundw
     case rel=>exact⟨j+1,by omega,by simp,by go_num,ij (jV p.out _)⟩
     case measure=>simp [intOf];omega
    ·have t3:(q:Int)<=(j:Int):=by omega
     have U:=ip a.out _ _ ak.out;have ad:pt b= .pointer (some ⟨b,0,none⟩):=rfl;have T:=ij (wo B o b who n f K (.slice x1 m x3) m L (HZ.out.1.grown a.out) (iD HX.out a.out (fun _ e=>by cases e)) dC.out df (by omega) (by have:=H.out 1 (by omega);omega) (by omega));rw [ad]at T;have y:Hid (o.ownsRow B 28 4 (.slice d q l) q G):=iD HY.out a.out (fun _ e=>by cases e);have am:Hid (o.ownsRow B 76 2 (.slice x1 m x3) m L):=iD HX.out a.out (fun _ e=>by cases e);have cJ:Hid (W.grownBy o none):=il HW.out a.out;have aa:=ij z;go_wp2_with fail
     refine T.out.mono ?_;clear T U z;rintro e u ⟨⟨rv,rfl⟩,x,f3,J,P,r⟩;have aj:s<o.heap.size:=World.block_lt_of_cell? o _ aa.out;have an:=r.fr.oth s aj bw.out (fun e=>aH.out e);have z:u.cell? ⟨s,8,none⟩=some (.slice d q l):=by rw [World.cell?_of_block an.1];exact aa.out
     have V:∀ g,(Value.slice d q l).ownBlock=some g->u.heap[g]?=o.heap[g]?/\x g= .other:=fun g e=>r.fr.oth g (iZ y.out g e) (cO.out g e) (fun C=>AN am.out y.out C e)
     have bj:Hid (u.ownsRow B 28 4 (.slice d q l) q G):=iM y.out (fun g e=>(V g e).1);have b0:Hid (∀ g,(Value.slice d q l).ownBlock=some g->x g= .other):=fun g e=>(V g e).2
     have aM:Hid (∀ g,(Value.slice x1 m x3).ownBlock=some g->W.heap.size<=g):=fun g e=>by have:=iA am.out g e;omega
     have bq:Hid (∀ g,(Value.slice d q l).ownBlock=some g->W.heap.size<=g):=fun g e=>by have:=iA y.out g e;omega
     have cD:Hid (W.grownBy u none):=r.fr.base cJ.out al (fun g e=>(HZ.out.1.1.dom g e).1) aM.out;have a6:Hid (Fr w u who x (fun g=>(Value.slice x1 m x3).ownBlock=some g\/(Value.slice d q l).ownBlock=some g)):=(Fr.grown a.out).trans (r.fr.mono fun _ e=>Or.inl e);have ci:Hid (∀ k,k<5->f3 k= .slice none 0 0):=fun k hk=>by rw [r.lent k hk];exact HZ.out.2 k hk
     have ac:Hid (∀ c,c<5->(J c).length<=(K c).length+4/\(c≠1->(J c).length<=(K c).length)):=fun c hc=>by
      by_cases e:c=1
      ·subst e;have:=r.len;exact⟨by omega,fun h=>absurd rfl h⟩
      ·rw [r.oth c e];exact⟨by omega,fun _=>by omega⟩
     have R:=ij (xX B u b x (n+1) f3 J (.slice d q l) q G P bj.out b0.out (by omega) (by omega) (by have:=ac.out 2 (by omega);have:=H.out 2 (by omega);omega) (by omega));rw [ad]at R;have bk:=ij P;clear P r V an aj aa;go_wp2_with fail
     refine R.out.mono ?_;clear R z;rintro e v ⟨⟨rv',rfl⟩,M,S,I,Y,t⟩;have au:Hid (W.grownBy v none):=t.fr.base cD.out al (fun g e=>(bk.out.1.dom g e).1) bq.out;have cZ:Hid (Fr w v who M (fun g=>(Value.slice x1 m x3).ownBlock=some g\/(Value.slice d q l).ownBlock=some g)):=a6.out.trans (t.fr.mono fun _ e=>Or.inr e);have ey:Hid (∀ k,k<5->S k= .slice none 0 0):=fun k hk=>by rw [t.lent k hk];exact ci.out k hk
     have ao:Hid (∀ c,c<5->(I c).length<=(K c).length+4):=fun c hc=>by
      by_cases e:c=2
      ·subst e;have:=t.len;have:=(ac.out 2 (by omega)).2 (by omega);omega
      ·rw [t.oth c e];exact(ac.out c hc).1
     have O:=ij (qf B v b M (n+1+1) S I Y (fun c hc=>by have:=ao.out c hc;have:=H.out c hc;omega));rw [ad]at O;have b3:=ij Y;clear Y t;go_wp2_with fail
     refine O.out.mono ?_;clear O;rintro e w5 ⟨rfl,ag⟩;have N:Hid (v.grownBy w5 none):=iK ag;clear ag;go_wp2_with fail
     exact HQ.out w5 ⟨M,S,I,⟨by have:=b3.out.grown N.out;rw [show n+1+1=n+2 by omega]at this;exact this,ey.out⟩,il au.out N.out,ao.out,cZ.out.stepG N.out⟩
theorem xV(W:World)(B:Nat)(w:World)(b:Nat)(who:Nat->Role)(n:Int)(f:Nat->Value)(K:Nat->List (Value × Int))(pv sv:Value)(p:List (List Ins))(s:List Int)
  (h:Hz B w b who n f K) (hW:W.grownBy w none) (X:W.heap.size<=B) (hS:ShpAt W) (hP:ProgAt W pv p) (hI:IntsAt W.heap.size W sv s) (hpl:p.length<=2932031007300) (a8:∀ c∈p,c.length<=4398046510976) (dd:s.length<=17592186043904) (c5:0<=n) (cO:n<=9000000000000) (hK:∀ c,c<5->(K c).length<=4900000000000):
  Calls Tryz.prog 6 #[pt b,pv,sv] w (HzF W B b (n+2) K w who):=by
 have HH:=ij h;have HW:=ij hW;have HS:=ij hS;have HP:=ij hP;have HI:=ij hI;have bg:=ij a8;have HK:=ij hK;obtain⟨R,T,rfl⟩:=hP.form;obtain⟨so,sc,rfl⟩:=hI.form;have aM:pt b= .pointer (some ⟨b,0,none⟩):=rfl;have ac:=ij (nh W B (w.alloc (.cells #[.slice R p.length T] 37)) b who n f K [] [] [] (.agg #[.slice R p.length T]) p (h.lx.grown (iq (ir _ _))) (iq hW) X hP (by omega) a8 (by simp;omega) (by simp));clear h hW hS hP hI a8 hK;rw [aM]at ac ⊢;go_enter Tryz.func6,Tryz.ntmps6
 go_wp2_with fail
 refine ac.out.mono ?_;clear ac;rintro e w1 ⟨g,LC1,a6,f1,rfl,aF,aP,aI,j⟩;have co:who w.heap.size= .other:=by
  by_cases e:who w.heap.size= .other
  ·exact e
  ·exact absurd (HH.out.1.1.dom _ e).2 (by omega)
 obtain⟨V,ab⟩:=aI.oth w.heap.size (by simp) co (fun e=>e);have b7:Hid (W.grownBy w1 none):=aI.base (iq HW.out) X (fun g e=>(HH.out.1.1.dom g e).1) (fun _ e=>e.elim);have cz:Hid (Fr w w1 who a6 (fun g=>w.heap.size<=g)):=(Fr.grown (iq (ir _ _))).step0 aI;have c1:w1.cell? ⟨w.heap.size,0,none⟩=some (.slice R p.length T):=by
  simp only [World.cell?,V,heap_alloc_new];rfl
 have b4:LC1.length=p.length:=by rw [<-aP];simp
 simp only [List.nil_append]at aF;have ar:ProgAt w1 (.agg #[.slice (some ⟨g,0,none⟩) p.length (p.length+2)]) p:=ni (LC0:=[]) (by simpa using aF.le) j aP _;have cq:=ij (zg p _ w1 (HS.out.pres (ip b7.out)) ar);have b3:=ij aF;have br:=ij ab;have aJ:=ij b4;have b5:=ij c1;clear aF aP aI j V co ab b4 ar c1;go_wp2_with fail
 refine cq.out.mono ?_;clear cq;rintro e w2 ⟨rfl,az⟩;have bU:Hid (W.grownBy w2 none):=il b7.out az;have db:Hid (Fr w w2 who a6 (fun g=>w.heap.size<=g)):=cz.out.stepG az;have a7:=ij (b3.out.grown az);have c2:=ip az _ _ b5.out;have ce:w.heap.size<w2.heap.size:=World.block_lt_of_cell? w2 _ c2;have ac:=ij (nh W B w2 b a6 n f1 K [] LC1 [(g,p.length)] (.agg #[.slice R p.length T]) p a7.out bU.out X HP.out (by omega) bg.out (by rw [aJ.out];omega) (by simp));have bM:=ij c2;obtain⟨cn,bh⟩:∃ cn,cn=jh p:=⟨_,rfl⟩;rw [<-bh];have bt:=ij bh;clear az b3 b5 bh;rw [aM]at ac;go_wp2_with fail
 refine ac.out.mono ?_;clear ac c2;rintro e w3 ⟨g3,aN,b8,f3,rfl,ay,aY,aH,o⟩;have a5:Hid (W.grownBy w3 none):=aH.base bU.out X (fun g e=>(a7.out.hs.1.dom g e).1) (fun _ e=>e.elim);have cU:Hid (Fr w w3 who b8 (fun g=>w.heap.size<=g)):=db.out.step0 aH;obtain⟨V,ab⟩:=aH.oth w.heap.size ce br.out (fun e=>e);have bj:Hid (w3.cell? ⟨w.heap.size,0,none⟩=some (.slice R p.length T)):=by
  unfold Hid;rw [World.cell?_of_block V];exact bM.out
 have bE:w.heap.size<w3.heap.size:=World.block_lt_of_cell? w3 _ bj.out;have bL:aN.length=p.length:=by rw [<-aY];simp
 simp only [List.singleton_append]at ay;have aR:=ij (lV B w3 b b8 n f3 K [] (LC1++aN) [(g,p.length),(g3,p.length)] 0 (.slice so s.length sc) s ay ((HI.out.pres (ip a5.out)).mono a5.out.size) (mF ay.hs X HI.out) dd (by simp));have bw:=ij ay;have cQ:=ij aY;have bD:=ij bL;have cp:=ij ab;clear ay aY aH o V ab bL a7 bM br;rw [aM]at aR;go_wp2_with fail
 refine aR.out.mono ?_;clear aR;rintro e P ⟨gs,S,f4,rfl,al,aD⟩;simp only [List.nil_append]at al;have bp:Hid (W.grownBy P none):=aD.base a5.out X (fun g e=>(bw.out.hs.1.dom g e).1) (fun _ e=>e.elim);have ca:Hid (Fr w P who S (fun g=>w.heap.size<=g)):=cU.out.step0 aD;obtain⟨V,ab⟩:=aD.oth w.heap.size bE cp.out (fun e=>e);have cm:=ij ab;have bC:Hid (P.cell? ⟨w.heap.size,0,none⟩=some (.slice R p.length T)):=by
  unfold Hid;rw [World.cell?_of_block V];exact bj.out
 have b6:P.heap[g3]?=some (.cells (jA aN) 66 (0,0)):=by
  have:=(al.le.lr 1 (by simp)).1;simp only [List.getElem_cons_succ,List.getElem_cons_zero,List.take_succ_cons,List.take_zero,List.map_cons,List.map_nil,List.sum_cons,List.sum_nil,Nat.add_zero]at this;rw [List.drop_append_of_le_length (by rw [aJ.out];omega),List.drop_eq_nil_of_le (by rw [aJ.out];omega),List.nil_append,List.take_of_length_le (by rw [bD.out];omega)]at this;exact this
 have ar:ProgAt P (.agg #[.slice (some ⟨g3,0,none⟩) p.length (p.length+2)]) p:=ni (LC0:=LC1) al.le b6 cQ.out _;have bY:IntsAt P.heap.size P (.slice (some ⟨gs,0,none⟩) s.length (s.length+2)) s:=md (al.le.li (gs,s,.slice so s.length sc) (by simp)).1;have bV:=ij (xp p s _ _ P (HS.out.pres (ip bp.out)) ar bY);have aA:=ij al;clear al aD V ab b6 ar bY bw bj cp ce bE;go_wp2_with fail
 refine bV.out.mono ?_;clear bV;intro e N hR;obtain⟨bP,rv,c,he,hV⟩:=hR.form;clear hR;subst he;have HR:=ij hV;obtain⟨k,t,a,Q,v1,v2,v3,x1,x3,y1,y3,m,q,cs,hx⟩:=hV;clear hx;subst cs;have av:=ij bP;clear bP;go_wp2_with fail
 have ag:N.grownBy (N.alloc (.cells #[.int .i64 k,.int .i64 t,.int .i64 a,.slice x1 m x3,.int .i64 Q,.int .i64 v1,.int .i64 v2,.int .i64 v3,.slice y1 q y3] 31)) none:=iq (ir _ _);have d:=heap_alloc_new N (.cells #[.int .i64 k,.int .i64 t,.int .i64 a,.slice x1 m x3,.int .i64 Q,.int .i64 v1,.int .i64 v2,.int .i64 v3,.slice y1 q y3] 31);generalize N.alloc (.cells #[.int .i64 k,.int .i64 t,.int .i64 a,.slice x1 m x3,.int .i64 Q,.int .i64 v1,.int .i64 v2,.int .i64 v3,.slice y1 q y3] 31)=w6 at ag d ⊢;have am:=ij ag;have cb:=ij d;have b2:Hid (N.heap.size<w6.heap.size):=(Array.getElem?_eq_some_iff.1 d).1;have bv:Hid (W.grownBy w6 none):=il bp.out (il av.out ag);have cy:Hid (Fr w w6 who S (fun g=>w.heap.size<=g)):=ca.out.stepG (il av.out ag);have a1:=ij (rq B w6 b S n f4 K _ _ _ (aA.out.grown (il av.out ag)) (by simp) (by rw [List.length_append,aJ.out,bD.out];omega) (by simp));rw [aM]at a1;clear ag d;refine a1.out.mono ?_;clear a1;rintro e Y ⟨rfl,f7,bG,ad⟩;have aC:Hid (W.grownBy Y none):=ad.base bv.out X (fun g e=>(aA.out.hs.1.dom g e).1) (fun _ e=>e.elim);have cM:Hid (Fr w Y who S (fun g=>w.heap.size<=g)):=cy.out.step0 ad;have U:∀ g,P.heap.size<=g->S g= .other:=fun g h1=>by
  by_cases e:S g= .other
  ·exact e
  ·exact absurd (aA.out.hs.1.dom g e).2 (by omega)
 have HOT:=ij U;have cl:Hid (B<=P.heap.size):=by
  have:=aA.out.low;unfold Hid;omega
 have bf:=av.out.size;have bl:Hid (Y.heap[N.heap.size]?=some (.cells #[.int .i64 k,.int .i64 t,.int .i64 a,.slice x1 m x3,.int .i64 Q,.int .i64 v1,.int .i64 v2,.int .i64 v3,.slice y1 q y3] 31 (0,0))):=by
  unfold Hid;rw [(ad.oth N.heap.size b2.out (U _ bf) (fun e=>e)).1];exact cb.out
 have bm:Hid (Y.cell? ⟨w.heap.size,0,none⟩=some (.slice R p.length T)):=by
  have bQ:=ip (il av.out am.out) _ _ bC.out;unfold Hid;rw [World.cell?_of_block (ad.oth w.heap.size (World.block_lt_of_cell? w6 _ bQ) cm.out (fun e=>e)).1];exact bQ
 obtain⟨hm,hq,ak,aw⟩:=HR.out.rows;have cj:Hid (Y.ownsRow P.heap.size 76 2 (.slice x1 m x3) m (iR (rR p s))):=iM (iD ak am.out (fun _ e=>by cases e)) (fun g e=>(ad.oth g (Nat.lt_of_lt_of_le (iZ ak g e) am.out.size) (U g (iA ak g e)) (fun e=>e)).1);have bI:Hid (Y.ownsRow P.heap.size 28 4 (.slice y1 q y3) q (jp (rU p s) (iI p s).st)):=iM (iD aw am.out (fun _ e=>by cases e)) (fun g e=>(ad.oth g (Nat.lt_of_lt_of_le (iZ aw g e) am.out.size) (U g (iA aw g e)) (fun e=>e)).1);have cv:Hid ((Value.slice x1 m x3).ownBlock≠some N.heap.size):=fun e=>by have:=iZ ak _ e;omega
 have cJ:Hid (∀ g,(Value.slice x1 m x3).ownBlock=some g->S g= .other):=fun g e=>U g (iA ak g e)
 have ct:Hid (∀ g,(Value.slice y1 q y3).ownBlock=some g->S g= .other):=fun g e=>U g (iA aw g e)
 have bk:Hid (m=(rR p s).length/\q=rU p s):=⟨hm,hq⟩;have aT:=ij bG;have b0:=ij (wD p s _ _ Y (HP.out.pres (ip aC.out)) ((HI.out.pres (ip aC.out)).mono aC.out.size) (by omega) bg.out);have c7:=bm.out;have c9:Hid (S N.heap.size= .other):=U _ bf;clear bG ad U hm hq ak aw aA bC cb bv b2 am cm bf;go_wp2_with fail
 refine b0.out.mono ?_;clear b0 c7;intro e O hR;obtain⟨cc,rv,c',he,hV⟩:=hR.form;clear hR;subst he;have bT:=ij hV;obtain⟨cT,k2,t2,a2,u0,u1,u2,u3,e1,e2,e3,e4,m2,q2,z1,z3,Z,r3,hA,hB⟩:=HR.out.same hV;clear hV;simp only [Value.agg.injEq,Array.mk.injEq,List.cons.injEq,Value.int.injEq,Value.slice.injEq,true_and,and_true]at hA;obtain⟨rfl,rfl,rfl,⟨rfl,rfl,rfl⟩,rfl,rfl,rfl,rfl,rfl,rfl,rfl⟩:=hA;subst hB cT;have bF:=ij cc;clear cc HR;go_upto_region 5 with fail
 have aq:O.grownBy (O.alloc (.cells #[.int .i64 k,.int .i64 t,.int .i64 a,.slice z1 m z3,.int .i64 Q,.int .i64 v1,.int .i64 v2,.int .i64 v3,.slice Z q r3] 31)) none:=iq (ir _ _);have bb:=heap_alloc_new O (.cells #[.int .i64 k,.int .i64 t,.int .i64 a,.slice z1 m z3,.int .i64 Q,.int .i64 v1,.int .i64 v2,.int .i64 v3,.slice Z q r3] 31);generalize O.alloc (.cells #[.int .i64 k,.int .i64 t,.int .i64 a,.slice z1 m z3,.int .i64 Q,.int .i64 v1,.int .i64 v2,.int .i64 v3,.slice Z q r3] 31)=w9 at aq bb ⊢;have aa:Hid (Y.grownBy w9 none):=il bF.out aq;have a9:=ij bb;have a4:Hid (w9.heap[N.heap.size]?=some (.cells #[.int .i64 k,.int .i64 t,.int .i64 a,.slice x1 m x3,.int .i64 Q,.int .i64 v1,.int .i64 v2,.int .i64 v3,.slice y1 q y3] 31 (0,0))):=by
  unfold Hid;rw [aa.out.block _ (Array.getElem?_eq_some_iff.1 bl.out).1 (by simp)];exact bl.out
 obtain⟨hm,hq,bA,bW⟩:=bT.out.rows;have aK:Hid (w9.ownsRow P.heap.size 76 2 (.slice x1 m x3) m (iR (rR p s))):=iD cj.out aa.out (fun _ e=>by cases e);have aE:Hid (w9.ownsRow P.heap.size 28 4 (.slice y1 q y3) q (jp (rU p s) (iI p s).st)):=iD bI.out aa.out (fun _ e=>by cases e);have ci:Hid (SamS w9 x1 z1 m):=EQ hm aK.out (iD bA aq (fun _ e=>by cases e));have b1:Hid (SamR w9 y1 Z q):=by
  have h1:=aE.out;have h2:=iD bW aq (fun _ e=>by cases e);rw [<-hq]at h1 h2;exact EH h1 h2
 clear aq bb hm hq bA bW bl cj bI bF bT;have bq:Hid (∀ u,w9.grownBy u none->u.cell? ⟨w.heap.size,0,none⟩=some (.slice R p.length T)/\(u.cell? ⟨N.heap.size,0,none⟩=some (.int .i64 k)/\u.cell? ⟨N.heap.size,1,none⟩=some (.int .i64 t)/\u.cell? ⟨N.heap.size,2,none⟩=some (.int .i64 a)/\u.cell? ⟨N.heap.size,3,none⟩=some (.slice x1 m x3)/\u.cell? ⟨N.heap.size,4,none⟩=some (.int .i64 Q)/\u.cell? ⟨N.heap.size,5,none⟩=some (.int .i64 v1)/\u.cell? ⟨N.heap.size,6,none⟩=some (.int .i64 v2)/\u.cell? ⟨N.heap.size,7,none⟩=some (.int .i64 v3)/\u.cell? ⟨N.heap.size,8,none⟩=some (.slice y1 q y3))/\(u.cell? ⟨O.heap.size,0,none⟩=some (.int .i64 k)/\u.cell? ⟨O.heap.size,1,none⟩=some (.int .i64 t)/\u.cell? ⟨O.heap.size,2,none⟩=some (.int .i64 a)/\u.cell? ⟨O.heap.size,3,none⟩=some (.slice z1 m z3)/\u.cell? ⟨O.heap.size,4,none⟩=some (.int .i64 Q)/\u.cell? ⟨O.heap.size,5,none⟩=some (.int .i64 v1)/\u.cell? ⟨O.heap.size,6,none⟩=some (.int .i64 v2)/\u.cell? ⟨O.heap.size,7,none⟩=some (.int .i64 v3)/\u.cell? ⟨O.heap.size,8,none⟩=some (.slice Z q r3))):=fun u hu=>by
  have ka:u.heap[N.heap.size]?=some (.cells #[.int .i64 k,.int .i64 t,.int .i64 a,.slice x1 m x3,.int .i64 Q,.int .i64 v1,.int .i64 v2,.int .i64 v3,.slice y1 q y3] 31 (0,0)):=by rw [hu.block _ (Array.getElem?_eq_some_iff.1 a4.out).1 (by simp)];exact a4.out
  have kb:u.heap[O.heap.size]?=some (.cells #[.int .i64 k,.int .i64 t,.int .i64 a,.slice z1 m z3,.int .i64 Q,.int .i64 v1,.int .i64 v2,.int .i64 v3,.slice Z q r3] 31 (0,0)):=by rw [hu.block _ (Array.getElem?_eq_some_iff.1 a9.out).1 (by simp)];exact a9.out
  obtain⟨p0,p1,p2,p3,p4,p5,p6,p7,p8,_⟩:=kw ka;obtain⟨q0,q1,q2,q3,q4,q5,q6,q7,q8,_⟩:=kw kb;exact⟨ip (il aa.out hu) _ _ bm.out,⟨p0,p1,p2,p3,p4,p5,p6,p7,p8⟩,⟨q0,q1,q2,q3,q4,q5,q6,q7,q8⟩⟩
 have cL:Hid (∀ u,w9.grownBy u none->Calls Tryz.prog 24 #[.agg #[.slice R p.length T]] u fun e w'=>e= .returned (.int .i64 cn)/\u.grownBy w' none):=fun u hu=>by
  rw [bt.out];exact mG p _ u (HP.out.pres (ip (il aC.out (il aa.out hu)))) (by omega) bg.out
 have dj:Hid (∀ u,w9.grownBy u none->Hz B u b S n f7 K/\W.grownBy u none/\u.ownsRow B 76 2 (.slice x1 m x3) m (iR (rR p s))/\u.ownsRow B 28 4 (.slice y1 q y3) q (jp (rU p s) (iI p s).st)/\SamS u x1 z1 m/\SamR u y1 Z q):=fun u hu=>
  ⟨⟨aT.out.1.grown (il aa.out hu),aT.out.2⟩,il aC.out (il aa.out hu),iQ (iD aK.out hu (fun _ e=>by cases e)) cl.out,iQ (iD aE.out hu (fun _ e=>by cases e)) cl.out,ci.out.pres (ip hu),b1.out.pres (ip hu)⟩
 have ck:Hid (m<=500/\q<=4):=⟨by rw [bk.out.1];exact Ec p s,by rw [bk.out.2];exact Eg p s⟩;have cE:Hid (∀ g,((Value.slice x1 m x3).ownBlock=some g\/(Value.slice y1 q y3).ownBlock=some g)->w.heap.size<=g):=fun g e=>by
  have h4:=ca.out.size;rcases e with e | e
  ·have:=iA aK.out g e;omega
  ·have:=iA aE.out g e;omega
 have di:=bq.out w9.drew (iy (ir _ _));clear aK aE ci b1 a4 a9 aT bm bt bk;refine iz (fun u=>u.cell? ⟨w.heap.size,0,none⟩=some (.slice R p.length T)/\(u.cell? ⟨N.heap.size,0,none⟩=some (.int .i64 k)/\u.cell? ⟨N.heap.size,1,none⟩=some (.int .i64 t)/\u.cell? ⟨N.heap.size,2,none⟩=some (.int .i64 a)/\u.cell? ⟨N.heap.size,3,none⟩=some (.slice x1 m x3)/\u.cell? ⟨N.heap.size,4,none⟩=some (.int .i64 Q)/\u.cell? ⟨N.heap.size,5,none⟩=some (.int .i64 v1)/\u.cell? ⟨N.heap.size,6,none⟩=some (.int .i64 v2)/\u.cell? ⟨N.heap.size,7,none⟩=some (.int .i64 v3)/\u.cell? ⟨N.heap.size,8,none⟩=some (.slice y1 q y3))/\(u.cell? ⟨O.heap.size,0,none⟩=some (.int .i64 k)/\u.cell? ⟨O.heap.size,1,none⟩=some (.int .i64 t)/\u.cell? ⟨O.heap.size,2,none⟩=some (.int .i64 a)/\u.cell? ⟨O.heap.size,3,none⟩=some (.slice z1 m z3)/\u.cell? ⟨O.heap.size,4,none⟩=some (.int .i64 Q)/\u.cell? ⟨O.heap.size,5,none⟩=some (.int .i64 v1)/\u.cell? ⟨O.heap.size,6,none⟩=some (.int .i64 v2)/\u.cell? ⟨O.heap.size,7,none⟩=some (.int .i64 v3)/\u.cell? ⟨O.heap.size,8,none⟩=some (.slice Z q r3))) 46 (by kernel_rfl) (by kernel_rfl) di ?_;intro aj;refine gJ 0 ?v1 rfl (by kernel_rfl) (fun _ _ _ h=>h) (by kernel_rfl) ?y1 aj ?_
 case y1=>(rintro u ⟨x,⟨z,v,M,A,F,C,r,E,J⟩,⟨L,j,H,o,D,y,d,G,I⟩⟩;go_simp;try rfl)
 simp only [Act.put,List.setIfInBounds_toArray];refine gJ 1 ?v2 rfl (by kernel_rfl) (fun _ _ _ h=>h) (by kernel_rfl) ?y2 aj ?_
 case y2=>(rintro u ⟨x,⟨z,v,M,A,F,C,r,E,J⟩,⟨L,j,H,o,D,y,d,G,I⟩⟩;go_simp;try rfl)
 simp only [Act.put];refine gJ 2 ?v3 rfl (by kernel_rfl) (fun _ _ _ h=>h) (by kernel_rfl) ?y3 aj ?_
 case y3=>(rintro u ⟨x,⟨z,v,M,A,F,C,r,E,J⟩,⟨L,j,H,o,D,y,d,G,I⟩⟩;go_simp;try rfl)
 simp only [Act.put];refine gJ 4 ?v4 rfl (by kernel_rfl) (fun _ _ _ h=>h) (by kernel_rfl) ?y4 aj ?_
 case y4=>(rintro u ⟨x,⟨z,v,M,A,F,C,r,E,J⟩,⟨L,j,H,o,D,y,d,G,I⟩⟩;go_simp;try rfl)
 simp only [Act.put];refine iu (i:=3) rfl (by kernel_rfl) (by kernel_rfl) (by kernel_rfl) ?_;intro K3 bK;have cg:=ij bK;clear bK;go_simp;refine(qP _ _).mono ?_;rintro e wA ⟨rfl,cI⟩;obtain rfl:=cI.symm;refine cg.out _ _ aj ?_;clear cg;try simp only [Act.put,List.setIfInBounds_toArray]
 refine iu (i:=5) rfl (by kernel_rfl) (by kernel_rfl) (by kernel_rfl) ?_;intro K5 cf;have bJ:=ij cf;clear cf;go_simp;refine(cL.out _ (iy (ir _ _))).mono ?_;rintro e be ⟨rfl,bH⟩;have aO:Hid (w9.grownBy be none):=tD bH;have l:=bq.out be aO.out;clear bH;refine bJ.out _ _ l ?_;clear bJ;try simp only [Act.put,List.setIfInBounds_toArray]
 refine gJ 6 ?v5 rfl (by kernel_rfl) (fun _ _ _ h=>h) (by kernel_rfl) ?y5 l ?_
 case y5=>(rintro u ⟨x,⟨z,v,M,A,F,C,r,E,J⟩,⟨L,j,H,o,D,y,d,G,I⟩⟩;go_simp;try rfl)
 simp only [Act.put,List.setIfInBounds_toArray];refine gJ 7 ?v6 rfl (by kernel_rfl) (fun _ _ _ h=>h) (by kernel_rfl) ?y6 l ?_
 case y6=>(rintro u ⟨x,⟨z,v,M,A,F,C,r,E,J⟩,⟨L,j,H,o,D,y,d,G,I⟩⟩;go_simp;try rfl)
 simp only [Act.put];refine gJ 8 ?v7 rfl (by kernel_rfl) (fun _ _ _ h=>h) (by kernel_rfl) ?y7 l ?_
 case y7=>(rintro u ⟨x,⟨z,v,M,A,F,C,r,E,J⟩,⟨L,j,H,o,D,y,d,G,I⟩⟩;go_simp;try rfl)
 simp only [Act.put];refine gJ 9 ?v8 rfl (by kernel_rfl) (fun _ _ _ h=>h) (by kernel_rfl) ?y8 l ?_
 case y8=>(rintro u ⟨x,⟨z,v,M,A,F,C,r,E,J⟩,⟨L,j,H,o,D,y,d,G,I⟩⟩;go_simp;try rfl)
 simp only [Act.put];refine gJ 11 ?v9 rfl (by kernel_rfl) (fun _ _ _ h=>h) (by kernel_rfl) ?y9 l ?_
 case y9=>(rintro u ⟨x,⟨z,v,M,A,F,C,r,E,J⟩,⟨L,j,H,o,D,y,d,G,I⟩⟩;go_simp;try rfl)
 simp only [Act.put];refine iu (i:=10) rfl (by kernel_rfl) (by kernel_rfl) (by kernel_rfl) ?_;intro K10 bz;have bu:=ij bz;clear bz;go_simp;refine(qP _ _).mono ?_;rintro e wB ⟨rfl,cY⟩;obtain rfl:=cY.symm;refine bu.out _ _ l ?_;clear bu;try simp only [Act.put,List.setIfInBounds_toArray]
 refine gJ 12 ?v10 rfl (by kernel_rfl) (fun _ _ _ h=>h) (by kernel_rfl) ?y10 l ?_
 case y10=>(rintro u ⟨x,⟨z,v,M,A,F,C,r,E,J⟩,⟨L,j,H,o,D,y,d,G,I⟩⟩;go_simp;try rfl)
 simp only [Act.put,List.setIfInBounds_toArray];refine gJ 13 ?v11 rfl (by kernel_rfl) (fun _ _ _ h=>h) (by kernel_rfl) ?y11 l ?_
 case y11=>(rintro u ⟨x,⟨z,v,M,A,F,C,r,E,J⟩,⟨L,j,H,o,D,y,d,G,I⟩⟩;go_simp;try rfl)
 simp only [Act.put];refine gJ 14 ?v12 rfl (by kernel_rfl) (fun _ _ _ h=>h) (by kernel_rfl) ?y12 l ?_
 case y12=>(rintro u ⟨x,⟨z,v,M,A,F,C,r,E,J⟩,⟨L,j,H,o,D,y,d,G,I⟩⟩;go_simp;try rfl)
 simp only [Act.put];refine gJ 15 ?v13 rfl (by kernel_rfl) (fun _ _ _ h=>h) (by kernel_rfl) ?y13 l ?_
 case y13=>(rintro u ⟨x,⟨z,v,M,A,F,C,r,E,J⟩,⟨L,j,H,o,D,y,d,G,I⟩⟩;go_simp;try rfl)
 simp only [Act.put];refine gJ 16 ?v14 rfl (by kernel_rfl) (fun _ _ _ h=>h) (by kernel_rfl) ?y14 l ?_
 case y14=>(rintro u ⟨x,⟨z,v,M,A,F,C,r,E,J⟩,⟨L,j,H,o,D,y,d,G,I⟩⟩;go_simp;try rfl)
 simp only [Act.put];refine gJ 17 ?v15 rfl (by kernel_rfl) (fun _ _ _ h=>h) (by kernel_rfl) ?y15 l ?_
 case y15=>(rintro u ⟨x,⟨z,v,M,A,F,C,r,E,J⟩,⟨L,j,H,o,D,y,d,G,I⟩⟩;go_simp;try rfl)
 simp only [Act.put];refine gJ 18 ?v16 rfl (by kernel_rfl) (fun _ _ _ h=>h) (by kernel_rfl) ?y16 l ?_
 case y16=>(rintro u ⟨x,⟨z,v,M,A,F,C,r,E,J⟩,⟨L,j,H,o,D,y,d,G,I⟩⟩;go_simp;try rfl)
 simp only [Act.put];refine gJ 19 ?v17 rfl (by kernel_rfl) (fun _ _ _ h=>h) (by kernel_rfl) ?y17 l ?_
 case y17=>(rintro u ⟨x,⟨z,v,M,A,F,C,r,E,J⟩,⟨L,j,H,o,D,y,d,G,I⟩⟩;go_simp;try rfl)
 simp only [Act.put];refine gJ 20 ?v18 rfl (by kernel_rfl) (fun _ _ _ h=>h) (by kernel_rfl) ?y18 l ?_
 case y18=>(rintro u ⟨x,⟨z,v,M,A,F,C,r,E,J⟩,⟨L,j,H,o,D,y,d,G,I⟩⟩;go_simp;try rfl)
 simp only [Act.put];refine gJ 21 ?v19 rfl (by kernel_rfl) (fun _ _ _ h=>h) (by kernel_rfl) ?y19 l ?_
 case y19=>(rintro u ⟨x,⟨z,v,M,A,F,C,r,E,J⟩,⟨L,j,H,o,D,y,d,G,I⟩⟩;go_simp;try rfl)
 simp only [Act.put];refine gJ 22 ?v20 rfl (by kernel_rfl) (fun _ _ _ h=>h) (by kernel_rfl) ?y20 l ?_
 case y20=>(rintro u ⟨x,⟨z,v,M,A,F,C,r,E,J⟩,⟨L,j,H,o,D,y,d,G,I⟩⟩;go_simp;try rfl)
 simp only [Act.put];refine gJ 23 ?v21 rfl (by kernel_rfl) (fun _ _ _ h=>h) (by kernel_rfl) ?y21 l ?_
 case y21=>(rintro u ⟨x,⟨z,v,M,A,F,C,r,E,J⟩,⟨L,j,H,o,D,y,d,G,I⟩⟩;go_simp;try rfl)
 simp only [Act.put];refine gJ 24 ?v22 rfl (by kernel_rfl) (fun _ _ _ h=>h) (by kernel_rfl) ?y22 l ?_
 case y22=>(rintro u ⟨x,⟨z,v,M,A,F,C,r,E,J⟩,⟨L,j,H,o,D,y,d,G,I⟩⟩;go_simp;try rfl)
 simp only [Act.put];refine gJ 25 ?v23 rfl (by kernel_rfl) (fun _ _ _ h=>h) (by kernel_rfl) ?y23 l ?_
 case y23=>(rintro u ⟨x,⟨z,v,M,A,F,C,r,E,J⟩,⟨L,j,H,o,D,y,d,G,I⟩⟩;go_simp;try rfl)
 simp only [Act.put];refine gJ 26 ?v24 rfl (by kernel_rfl) (fun _ _ _ h=>h) (by kernel_rfl) ?y24 l ?_
 case y24=>(rintro u ⟨x,⟨z,v,M,A,F,C,r,E,J⟩,⟨L,j,H,o,D,y,d,G,I⟩⟩;go_simp;try rfl)
 simp only [Act.put];refine gJ 27 ?v25 rfl (by kernel_rfl) (fun _ _ _ h=>h) (by kernel_rfl) ?y25 l ?_
 case y25=>(rintro u ⟨x,⟨z,v,M,A,F,C,r,E,J⟩,⟨L,j,H,o,D,y,d,G,I⟩⟩;go_simp;try rfl)
 simp only [Act.put];refine gJ 28 ?v26 rfl (by kernel_rfl) (fun _ _ _ h=>h) (by kernel_rfl) ?y26 l ?_
 case y26=>(rintro u ⟨x,⟨z,v,M,A,F,C,r,E,J⟩,⟨L,j,H,o,D,y,d,G,I⟩⟩;go_simp;try rfl)
 simp only [Act.put];refine gJ 29 ?v27 rfl (by kernel_rfl) (fun _ _ _ h=>h) (by kernel_rfl) ?y27 l ?_
 case y27=>(rintro u ⟨x,⟨z,v,M,A,F,C,r,E,J⟩,⟨L,j,H,o,D,y,d,G,I⟩⟩;go_simp;try rfl)
 simp only [Act.put];refine gJ 30 ?v28 rfl (by kernel_rfl) (fun _ _ _ h=>h) (by kernel_rfl) ?y28 l ?_
 case y28=>(rintro u ⟨x,⟨z,v,M,A,F,C,r,E,J⟩,⟨L,j,H,o,D,y,d,G,I⟩⟩;go_simp;try rfl)
 simp only [Act.put];refine gJ 31 ?v29 rfl (by kernel_rfl) (fun _ _ _ h=>h) (by kernel_rfl) ?y29 l ?_
 case y29=>(rintro u ⟨x,⟨z,v,M,A,F,C,r,E,J⟩,⟨L,j,H,o,D,y,d,G,I⟩⟩;go_simp;try rfl)
 simp only [Act.put];refine gJ 32 ?v30 rfl (by kernel_rfl) (fun _ _ _ h=>h) (by kernel_rfl) ?y30 l ?_
 case y30=>(rintro u ⟨x,⟨z,v,M,A,F,C,r,E,J⟩,⟨L,j,H,o,D,y,d,G,I⟩⟩;go_simp;try rfl)
 simp only [Act.put];refine gJ 33 ?v31 rfl (by kernel_rfl) (fun _ _ _ h=>h) (by kernel_rfl) ?y31 l ?_
 case y31=>(rintro u ⟨x,⟨z,v,M,A,F,C,r,E,J⟩,⟨L,j,H,o,D,y,d,G,I⟩⟩;go_simp;try rfl)
 simp only [Act.put];refine gJ 34 ?v32 rfl (by kernel_rfl) (fun _ _ _ h=>h) (by kernel_rfl) ?y32 l ?_
 case y32=>(rintro u ⟨x,⟨z,v,M,A,F,C,r,E,J⟩,⟨L,j,H,o,D,y,d,G,I⟩⟩;go_simp;try rfl)
 simp only [Act.put];refine gJ 35 ?v33 rfl (by kernel_rfl) (fun _ _ _ h=>h) (by kernel_rfl) ?y33 l ?_
 case y33=>(rintro u ⟨x,⟨z,v,M,A,F,C,r,E,J⟩,⟨L,j,H,o,D,y,d,G,I⟩⟩;go_simp;try rfl)
 simp only [Act.put];refine gJ 36 ?v34 rfl (by kernel_rfl) (fun _ _ _ h=>h) (by kernel_rfl) ?y34 l ?_
 case y34=>(rintro u ⟨x,⟨z,v,M,A,F,C,r,E,J⟩,⟨L,j,H,o,D,y,d,G,I⟩⟩;go_simp;try rfl)
 simp only [Act.put];refine gJ 37 ?v35 rfl (by kernel_rfl) (fun _ _ _ h=>h) (by kernel_rfl) ?y35 l ?_
 case y35=>(rintro u ⟨x,⟨z,v,M,A,F,C,r,E,J⟩,⟨L,j,H,o,D,y,d,G,I⟩⟩;go_simp;try rfl)
 simp only [Act.put];refine gJ 38 ?v36 rfl (by kernel_rfl) (fun _ _ _ h=>h) (by kernel_rfl) ?y36 l ?_
 case y36=>(rintro u ⟨x,⟨z,v,M,A,F,C,r,E,J⟩,⟨L,j,H,o,D,y,d,G,I⟩⟩;go_simp;try rfl)
 simp only [Act.put];refine gJ 39 ?v37 rfl (by kernel_rfl) (fun _ _ _ h=>h) (by kernel_rfl) ?y37 l ?_
 case y37=>(rintro u ⟨x,⟨z,v,M,A,F,C,r,E,J⟩,⟨L,j,H,o,D,y,d,G,I⟩⟩;go_simp;try rfl)
 simp only [Act.put];refine gJ 40 ?v38 rfl (by kernel_rfl) (fun _ _ _ h=>h) (by kernel_rfl) ?y38 l ?_
 case y38=>(rintro u ⟨x,⟨z,v,M,A,F,C,r,E,J⟩,⟨L,j,H,o,D,y,d,G,I⟩⟩;go_simp;try rfl)
 simp only [Act.put];refine gJ 41 ?v39 rfl (by kernel_rfl) (fun _ _ _ h=>h) (by kernel_rfl) ?y39 l ?_
 case y39=>(rintro u ⟨x,⟨z,v,M,A,F,C,r,E,J⟩,⟨L,j,H,o,D,y,d,G,I⟩⟩;go_simp;try rfl)
 simp only [Act.put];refine gJ 42 ?v40 rfl (by kernel_rfl) (fun _ _ _ h=>h) (by kernel_rfl) ?y40 l ?_
 case y40=>(rintro u ⟨x,⟨z,v,M,A,F,C,r,E,J⟩,⟨L,j,H,o,D,y,d,G,I⟩⟩;go_simp;try rfl)
 simp only [Act.put];refine gJ 43 ?v41 rfl (by kernel_rfl) (fun _ _ _ h=>h) (by kernel_rfl) ?y41 l ?_
 case y41=>(rintro u ⟨x,⟨z,v,M,A,F,C,r,E,J⟩,⟨L,j,H,o,D,y,d,G,I⟩⟩;go_simp;try rfl)
 simp only [Act.put];refine gJ 44 ?v42 rfl (by kernel_rfl) (fun _ _ _ h=>h) (by kernel_rfl) ?y42 l ?_
 case y42=>(rintro u ⟨x,⟨z,v,M,A,F,C,r,E,J⟩,⟨L,j,H,o,D,y,d,G,I⟩⟩;go_simp;try rfl)
 simp only [Act.put];refine gJ 45 ?v43 rfl (by kernel_rfl) (fun _ _ _ h=>h) (by kernel_rfl) ?y43 l ?_
 case y43=>(rintro u ⟨x,⟨z,v,M,A,F,C,r,E,J⟩,⟨L,j,H,o,D,y,d,G,I⟩⟩;go_simp;try rfl)
 simp only [Act.put];refine iH rfl (by kernel_rfl) (by kernel_rfl) (by kernel_rfl) ?_;go_simp;clear aj;refine ‹∀ a w,Code.wp Tryz.prog _ _ a w->_› _ _ ?_;obtain⟨z0,z2,cH,z4,z5,z6⟩:=dj.out be aO.out;refine Du z0 z2 X cH z4 cJ ct z5 z6 l.2.1.2.2.2.1 l.2.1.2.2.2.2.2.2.2.2 l.2.2.2.2.2.1 l.2.2.2.2.2.2.2.2.2.2 c9 cv ck.out.1 ck.out.2 c5 cO HK ?_;intro z0 z1 z2 z3 z4 z5 z7 z8 z9 z10 z11 z12 z13 z14 z15 z16 z17 z18 z19 z20 z21 z22 z23 z24 z25 z26 z27 z28 z29 z30 z31 z32 z33 z34 z35 z36 z37 z38 z39 z40 z41 z42 z43 z44 z45 z46 z47 z48 z49 z50 z51 z52 z53 z54 z55 z56 z57 z58 z59 z60 z61 z62 z63 z64 z65 z66 z67 z68 z69 z70 z71 z72 z73 z74 z75 z76 z77 z78 z79 z80 z81 z82 z83 z84 z85 z86 z87 z88 z89 z90 z91 z92 z93 z94 z95 z96 z97 z98 z99 z100 z101 z102 z103 z104 z105 z106 z107 z108 z109 z110 z111 z112 z113 z114 z115 z116 z117 z118 z119 z120 z121 z122 z123 z124 z125 z126 z127 z128 z129 z130 z131 z132 z133 z134 z135 z136 z137 z138 z139 z140 w' hh;have cN:=ij hh;clear hh;go_ret;obtain⟨cS,f',K',q1,q2,q3,q4⟩:=cN.out;exact⟨rfl,cS,f',K',q1,q2,q3,(cM.out.stepG (il aa.out aO.out)).trans (q4.mono cE.out)⟩
end
section
section
variable {α : Type} (d : α -> α -> Bool) (th : α -> Nat)
def ji:List (α × Nat)->α->Nat
 | [],_=>0
 | y::r,x=>if d y.1 x=true then max (y.2+1) (ji r x) else ji r x
def tl:List (α × Nat)->List α->List (α × Nat)
 | _,[]=>[]
 | past,x::r=>(x,ji d past x)::tl ((x,ji d past x)::past) r
theorem uS(a b:List (α × Nat))(x:α):ji d (a++b) x=max (ji d a x) (ji d b x):=by
 induction a with
 | nil=>simp [ji]
 | cons y r ih=>
  simp only [List.cons_append,ji,ih];split<;>omega
theorem xT{a b:List (α × Nat)}(h:a.Perm b)(x:α):ji d a x=ji d b x:=by
 induction h with
 | nil=>rfl
 | cons y _ ih=>simp only [ji,ih]
 | swap y z l=>
  simp only [ji];split<;>split<;>omega
 | trans _ _ ih1 ih2=>rw [ih1,ih2]
theorem EO{a b:List (α × Nat)}(h:a.Perm b)(xs:List α):tl d a xs=tl d b xs:=by
 induction xs generalizing a b with
 | nil=>rfl
 | cons x r ih=>
  simp only [tl];rw [xT d h x,ih (h.cons _)]
theorem Bl(past:List (α × Nat))(xs a:List α):tl d past (xs++a)=tl d past xs++tl d (tl d past xs++past) a:=by
 induction xs generalizing past with
 | nil=>simp [tl]
 | cons x r ih=>
  simp only [List.cons_append,tl];rw [ih];congr 2
  exact EO d (by simp) a
theorem tw(past:List (α × Nat))(xs:List α):(tl d past xs).map (·.1)=xs:=by
 induction xs generalizing past with
 | nil=>rfl
 | cons x r ih=>simp only [tl,List.map_cons,ih]
theorem jB(past:List (α × Nat))(xs:List α):(tl d past xs).length=xs.length:=by
 have:=congrArg List.length (tw d past xs);simpa using this
theorem Ey(xs:List α)(x:α):tl d [] (xs++[x])=tl d [] xs++[(x,ji d (tl d [] xs) x)]:=by
 rw [Bl];simp [tl]
theorem Db{past:List (α × Nat)}{y:α × Nat}{x:α}(h:y∈past)(a:d y.1 x=true):y.2+1<=ji d past x:=by
 induction past with
 | nil=>cases h
 | cons z r ih=>
  simp only [ji];rcases List.mem_cons.1 h with h | h
  ·subst h;rw [if_pos a];omega
  ·have:=ih h;split<;>omega
theorem pZ{past:List (α × Nat)}{x:α}{n:Nat}(h:∀ y∈past,d y.1 x=true->y.2+1<=n):ji d past x<=n:=by
 induction past with
 | nil=>simp [ji]
 | cons z r ih=>
  simp only [ji];have a:=ih (fun y hy=>h y (List.mem_cons_of_mem _ hy));split
  ·have:=h z (List.mem_cons_self ..) ‹_›;omega
  ·exact a
def Eqv(xs ys:List α):Prop:=∀ R:List α->List α->Prop,(∀ a,R a a)->(∀ (a:List α) (x y:α) (b:List α),d x y=false->d y x=false->R (a++x::y::b) (a++y::x::b))->(∀ a b c,R a b->R b c->R a c)->R xs ys
variable {d}
theorem Eqv.refl(xs:List α):Eqv d xs xs:=fun _ h _ _=>h xs
theorem Eqv.swap(a:List α)(x y:α)(b:List α)(h1:d x y=false)(h2:d y x=false):Eqv d (a++x::y::b) (a++y::x::b):=fun _ _ h _=>h a x y b h1 h2
theorem Eqv.trans{xs ys zs:List α}(h:Eqv d xs ys)(h':Eqv d ys zs):Eqv d xs zs:=fun R h1 h2 h3=>h3 xs ys zs (h R h1 h2 h3) (h' R h1 h2 h3)
theorem Eqv.snoc{xs c:List α}(h:Eqv d xs c)(z:α):Eqv d (xs++[z]) (c++[z]):=by
 refine h (fun xs c=>Eqv d (xs++[z]) (c++[z])) (fun _=>Eqv.refl _) (fun a x y b h1 h2=>?_) (fun _ _ _ i1 i2=>i1.trans i2);simpa using Eqv.swap a x y (b++[z]) h1 h2
end
theorem sw:∀ {a b:List (Nat × Nat)},a.Perm b->a.Pairwise (fun x y=>x.1<y.1\/(x.1=y.1/\x.2<=y.2))->b.Pairwise (fun x y=>x.1<y.1\/(x.1=y.1/\x.2<=y.2))->a=b
 | [],b,h,_,_=>(List.nil_perm.1 h).symm
 | x::a,[],h,_,_=>absurd h.length_eq (by simp)
 | x::a,y::b,h,h1,h2=>by
  rw [List.pairwise_cons]at h1 h2;have e:x=y:=by
   have c:x∈y::b:=h.mem_iff.1 (List.mem_cons_self ..);have d:y∈x::a:=h.mem_iff.2 (List.mem_cons_self ..);rcases List.mem_cons.1 c with c | c
   ·exact c
   ·rcases List.mem_cons.1 d with d | d
    ·exact d.symm
    ·have k1:=h1.1 y d;have k2:=h2.1 x c;obtain⟨x1,x2⟩:=x;obtain⟨k,j⟩:=y;simp only at k1 k2;have f:x1=k:=by omega
     have i:x2=j:=by omega
     rw [f,i]
  subst e;rw [sw (List.perm_cons _ |>.1 h) h1.2 h2.2]
end
section
open Go.RowKit (wrap64)
def tou(i:Ins):Nat × Nat:=if i.op=9\/i.op=10 then (1,i.a.toNat) else if i.op=2 then (2,i.b.toNat) else if i.op=3 then (3,i.a.toNat) else (0,0)
def ma(x y:Nat × Nat):Bool:=x.1 !=0 && y.1 !=0 && x.2==y.2 && ((x.1==1)==(y.1==1)) && !(x.1==2 && y.1==2)
structure Ev where
 t:Nat
 k:Int
 bad:Bool
def ja(p:List (List Ins))(x y:Ev):Bool:=x.bad || y.bad || x.t==y.t || ma (tou (ju p x.t x.k)) (tou (ju p y.t y.k))
def FA(p:List (List Ins))(s:St)(x:Ev):Prop:=x.t<p.length/\jE p s x.t=true/\s.next x.t=x.k/\(jP p s x.t).1= !x.bad
def RunE(p:List (List Ins)):St->List Ev->St->Prop
 | s,[],s'=>s'=s
 | s,x::r,s'=>FA p s x/\RunE p (jP p s x.t).2 r s'
theorem St.eq_of{s a:St}(b:s.vars=a.vars)(c:s.held=a.held)(e:s.own=a.own)(d:s.regs=a.regs)(f:s.next=a.next):s=a:=by
 cases s;cases a;simp at*;exact⟨b,c,e,d,f⟩
theorem RunE.append{p:List (List Ins)}:∀ {a b:List Ev} {s s':St},RunE p s (a++b) s'↔∃ s1,RunE p s a s1/\RunE p s1 b s'
 | [],b,s,s'=>by simp [RunE]
 | x::a,b,s,s'=>by
  simp only [List.cons_append,RunE,RunE.append (a:=a)];constructor
  ·rintro⟨h1,s1,h2,h3⟩;exact⟨s1,⟨h1,h2⟩,h3⟩
  ·rintro⟨s1,⟨h1,h2⟩,h3⟩;exact⟨h1,s1,h2,h3⟩
end
section
def Ev.tI(e:Ev):Int:=(e.t:Int)
def Ev.pr(e:Ev):Int × Int:=((e.t:Int),e.k)
def evG(x:Int × Int):Ev:=⟨x.1.toNat,x.2,false⟩
def evB(x:Int × Int):Ev:=⟨x.1.toNat,x.2,true⟩
def good(xs:List Ev):Prop:=∀ e∈xs,e.bad=false
def uC(o:Out):List Ev:=if o.kind=1 then o.steps.dropLast.map evG++(o.steps.getLast?.map evB).toList else o.steps.map evG
theorem Fl{e:Ev}(h:e.bad=false):evG e.pr=e:=by cases e;simp [evG,Ev.pr]at*;exact h
theorem Fs{e:Ev}(h:e.bad=true):evB e.pr=e:=by cases e;simp [evB,Ev.pr]at*;exact h
theorem zh{xs:List Ev}(h:good xs):(xs.map Ev.pr).map evG=xs:=by
 induction xs with
 | nil=>rfl
 | cons x r ih=>
  simp only [List.map_cons];rw [Fl (h x (List.mem_cons_self ..)),ih (fun e he=>h e (List.mem_cons_of_mem _ he))]
theorem yy{o:Out}{xs:List Ev}(a:o.kind≠1)(b:o.steps=xs.map Ev.pr)(h:good xs):uC o=xs:=by
 unfold uC;rw [if_neg a,b,zh h]
theorem AM{o:Out}{a:List Ev}{z:Ev}(b:o.kind=1)(c:o.steps=(a++[z]).map Ev.pr)(h:good a)(d:z.bad=true):uC o=a++[z]:=by
 unfold uC;rw [if_pos b,c];simp [zh h,Fs d]
theorem zw{p:List (List Ins)}{s:St}{x:Ev}(h:FA p s x):m8 p s x.tI=true:=by
 obtain⟨a,b,_⟩:=h;simp [m8,jD,Ev.tI,a,b]
theorem na(p:List (List Ins)):∀ (l:List Int) (i:Int) (s:St) (b:List (Int × Int)),∃ xs s',RunE p s xs s'/\(jd p l i s b).steps=b++xs.map Ev.pr/\(jd p l i s b).st=s'/\
  ((good xs/\xs.map Ev.tI=l/\(jd p l i s b).kind=jQ p s'/\(jd p l i s b).thread=0/\(jd p l i s b).at_=0)\/
   (good xs/\(∃ u r,l=xs.map Ev.tI++u::r/\m8 p s' u=false)/\(jd p l i s b).kind=2/\(jd p l i s b).thread=0/\(jd p l i s b).at_=i+xs.length)\/
   (∃ ys z r,xs=ys++[z]/\good ys/\z.bad=true/\l=xs.map Ev.tI++r/\(jd p l i s b).kind=1/\(jd p l i s b).thread=z.tI/\(jd p l i s b).at_=z.k))
 | [],i,s,b=>⟨[],s,rfl,by simp [jd],rfl,Or.inl ⟨by simp [good],rfl,rfl,rfl,rfl⟩⟩
 | t::r,i,s,b=>by
  by_cases h1:m8 p s t=true
  ·have hb:0<=t/\t<p.length/\jE p s t.toNat=true:=by
    simp [m8,jD]at h1;exact⟨h1.1.1,h1.1.2,h1.2⟩
   obtain⟨hb1,hb2,m⟩:=hb;have c:((t.toNat:Nat):Int)=t:=by omega
   by_cases f:(jP p s t.toNat).1=true
   ·obtain⟨xs,s',q,n,v,hc⟩:=na p r (i+1) (jP p s t.toNat).2 (b++[(t,s.next t.toNat)]);rw [nO p t r i s b h1 f];have o:FA p s ⟨t.toNat,s.next t.toNat,false⟩:=⟨by simp only;omega,m,rfl,by simpa using f⟩;refine⟨⟨t.toNat,s.next t.toNat,false⟩::xs,s',⟨o,q⟩,?_,v,?_⟩
    ·rw [n];simp [Ev.pr,c]
    ·have j:∀ {zs:List Ev},good zs->good (⟨t.toNat,s.next t.toNat,false⟩::zs):=fun h e he=>by
      rcases List.mem_cons.1 he with he | he
      ·rw [he]
      ·exact h e he
     rcases hc with ⟨g1,g2,g3,g4,g5⟩ | ⟨g1,⟨u,r',g2,g2'⟩,g3,g4,g5⟩ | ⟨ys,z,r',g1,g2,g3,g4,g5,g6,g7⟩
     ·exact Or.inl ⟨j g1,by simp [Ev.tI,c];exact g2,g3,g4,g5⟩
     ·exact Or.inr (Or.inl ⟨j g1,⟨u,r',by simp [Ev.tI,c];exact g2,g2'⟩,g3,g4,by rw [g5];simp;omega⟩)
     ·exact Or.inr (Or.inr ⟨⟨t.toNat,s.next t.toNat,false⟩::ys,z,r',by rw [g1];rfl,j g2,g3,by simp [Ev.tI,c];exact g4,g5,g6,g7⟩)
   ·have d:(jP p s t.toNat).1=false:=by simpa using f
    rw [mQ p t r i s b h1 d];refine⟨[⟨t.toNat,s.next t.toNat,true⟩],_,⟨⟨by simp only;omega,m,rfl,by simpa using d⟩,rfl⟩,by simp [Ev.pr,c],rfl,Or.inr (Or.inr ⟨[],_,r,rfl,by simp [good],rfl,by simp [Ev.tI,c],rfl,by simp [Ev.tI,c],rfl⟩)⟩
  ·have d:m8 p s t=false:=by simpa using h1
   rw [kn p t r i s b d];exact⟨[],s,rfl,by simp,rfl,Or.inr (Or.inl ⟨by simp [good],⟨t,r,rfl,d⟩,rfl,rfl,by simp⟩)⟩
theorem nl(p:List (List Ins)):∀ (xs:List Ev) (l:List Int) (i:Int) (s s':St) (acc:List (Int × Int)),good xs->RunE p s xs s'->jd p (xs.map Ev.tI++l) i s acc=jd p l (i+xs.length) s' (acc++xs.map Ev.pr)
 | [],l,i,s,s',acc,_,h=>by cases h;simp
 | x::r,l,i,s,s',acc,hg,⟨h1,h2⟩=>by
  have hb:=hg x (List.mem_cons_self ..);have hok:=zw h1;obtain⟨g1,g2,g3,g4⟩:=h1;have e1:x.tI.toNat=x.t:=by simp [Ev.tI]
  rw [List.map_cons,List.cons_append,nO p _ _ i s acc hok (by rw [e1,g4,hb];rfl),e1,nl p r l (i+1) _ s' _ (fun e he=>hg e (List.mem_cons_of_mem _ he)) h2];congr 1
  ·simp;omega
  ·simp [Ev.pr,Ev.tI,g3]
theorem xP{p:List (List Ins)}{a:List Ev}{z:Ev}{i:Int}{s f:St}{b:List (Int × Int)}(q:good a)(o:z.bad=true)(h:RunE p s (a++[z]) f):jd p ((a++[z]).map Ev.tI) i s b=⟨b++(a++[z]).map Ev.pr,1,z.tI,z.k,f⟩:=by
 rw [RunE.append]at h;obtain⟨e,j,c,m⟩:=h;have r:=zw c;obtain⟨g1,g2,l,n⟩:=c;have d:z.tI.toNat=z.t:=by simp [Ev.tI]
 rw [List.map_append,nl p a _ i s e b q j,List.map_cons,List.map_nil,mQ p _ _ _ e _ r (by rw [d,n,o];rfl),d,l];cases m
 simp [Ev.pr,Ev.tI]
def yR(x:Nat × Nat):List (Nat × Nat)->List (Nat × Nat)
 | []=>[x]
 | y::r=>if x.1<y.1\/(x.1=y.1/\x.2<=y.2) then x::y::r else y::yR x r
def nn:List (Nat × Nat)->List (Nat × Nat)
 | []=>[]
 | x::r=>yR x (nn r)
def leP(x y:Nat × Nat):Prop:=x.1<y.1\/(x.1=y.1/\x.2<=y.2)
theorem qY(x:Nat × Nat):∀ l,(yR x l).Perm (x::l)
 | []=>List.Perm.refl _
 | y::r=>by
  unfold yR;split
  ·exact List.Perm.refl _
  ·exact((qY x r).cons y).trans (List.Perm.swap _ _ _)
theorem mC:∀ l,(nn l).Perm l
 | []=>List.Perm.refl _
 | x::r=>(qY x (nn r)).trans ((mC r).cons x)
theorem rz(x:Nat × Nat):∀ l,l.Pairwise leP->(yR x l).Pairwise leP
 | [],_=>by simp [yR]
 | y::r,h=>by
  have h0:=h;rw [List.pairwise_cons]at h;unfold yR;split
  ·rename_i hxy
   rw [List.pairwise_cons];refine⟨fun z hz=>?_,h0⟩;rcases List.mem_cons.1 hz with hz | hz
   ·subst hz;exact hxy
   ·have:=h.1 z hz;unfold leP at*;omega
  ·rename_i hxy
   rw [List.pairwise_cons];refine⟨fun z hz=>?_,rz x r h.2⟩;have hz':=(qY x r).mem_iff.1 hz;rcases List.mem_cons.1 hz' with hz' | hz'
   ·subst hz';unfold leP;omega
   ·exact h.1 z hz'
theorem qu:∀ l,(nn l).Pairwise leP
 | []=>List.Pairwise.nil
 | x::r=>rz x _ (qu r)
theorem ui{a b:List (Nat × Nat)}(h:a.Perm b)(hb:b.Pairwise leP):nn a=b:=sw ((mC a).trans h) (qu a) hb
def yK(x:Ev × Nat):Nat × Nat:=(x.2,x.1.t)
def jx(p:List (List Ins))(xs:List Ev):List (Nat × Nat):=(tl (ja p) [] xs).map yK
def lH(p:List (List Ins))(xs:List Ev):List Int:=(nn (jx p xs)).map fun x=>(x.2:Int)
def kx(p:List (List Ins))(o:Out):List Int:=lH p (uC o)
theorem m7(p:List (List Ins))(xs:List Ev):(lH p xs).length=xs.length:=by
 unfold lH jx;rw [List.length_map,(mC _).length_eq,List.length_map,jB]
end
end Go.Proofs.YtklenjmfalljgabGreatDoor
