/- The texts Rfn Rfp Rfq Rfs. -/
import Derived.Test.YtklenjmfalljgabGreatDoorM05
import Derived.Test.YtklenjmfalljgabGreatDoorM06
import Derived.Test.YtklenjmfalljgabGreatDoorM12
namespace Go.Proofs.YtklenjmfalljgabGreatDoor
set_option maxRecDepth 100000
set_option maxHeartbeats 8000000
section
open Go.RowKit
attribute [local go_sem] Go.World.cell?_alloc_some
structure RunRead(w:World)(b:Nat)(p:List (List Ins))(xs:List Ev)(o:Out)(ao:Option Addr)(cap:Nat)(sao:Option Addr)(sc:Nat):Prop where
 prog:ProgAt w (.agg #[.slice ao p.length cap]) p
 c0:w.cell? ⟨b,0,none⟩=some (.slice ao p.length cap)
 c10:w.cell? ⟨b,10,none⟩=some (.slice sao xs.length sc)
 c11:w.cell? ⟨b,11,none⟩=some (.int .i64 o.kind)
 row:∃ base,w.ownsRow base 76 2 (.slice sao xs.length sc) xs.length (flatS o.steps)
theorem RunRead.grown{w w':World}{b:Nat}{p:List (List Ins)}{xs:List Ev}{o:Out}{c:Option Addr}{d:Nat}{f:Option Addr}{i:Nat}(h:RunRead w b p xs o c d f i)(a:w.grownBy w' none):RunRead w' b p xs o c d f i:=by
 obtain⟨base,j⟩:=h.row;exact⟨h.prog.pres (ip a),ip a _ _ h.c0,ip a _ _ h.c10,ip a _ _ h.c11,base,iC j a (fun _ e=>by cases e)⟩
theorem nT{w w':World}(h:w.drew.grownBy w' none):w.grownBy w' none:=⟨h.os,h.tape,h.output,h.size,h.block⟩
theorem ni{w:World}(n:Nat):w.grownBy (w.drewN n) none:=iH (by have:=jB w n;exact this)
def rowL(L:List Nat)(n:Nat):List Value:=L.map (fun x:Nat=>Value.int .i64 (x:Int))++List.replicate (n - L.length) (Value.int .i64 0)
theorem wV(L:List Nat)(n:Nat)(h:L.length<n):rowL (L++[0]) n=rowL L n:=by
 unfold rowL;have e:n - L.length=(n - (L++[0]).length)+1:=by simp;omega
 rw [e,List.replicate_succ];simp
theorem sW(L:List Nat)(x y n:Nat):(rowL (L++[x]) n).set L.length (.int .i64 (y:Int))=rowL (L++[y]) n:=by
 unfold rowL;have e:(L++[x]).length=(L++[y]).length:=by simp
 rw [e];simp
theorem pa(L:List Nat)(n k:Nat)(h:k<L.length):(rowL L n)[k]?=some (.int .i64 (L[k]:Int)):=by
 unfold rowL;rw [List.getElem?_append_left (by simpa using h)];simp [h]
structure LyIn(W w':World)(gl n:Nat)(L:List Nat):Prop where
 row:w'.heap[gl]?=some (.cells (rowL L n).toArray 3 (0,0))
 gr:W.grownBy w' (some gl)
theorem LyIn.grown{W w w':World}{gl n:Nat}{L:List Nat}(h:LyIn W w gl n L)(hg:w.grownBy w' none):LyIn W w' gl n L:=
 ⟨by rw [hg.block _ (Array.getElem?_eq_some_iff.1 h.row).1 (by simp)];exact h.row,il h.gr (jN hg)⟩
theorem qP{W w:World}{gl o:Nat}{u:Value}(h:W.grownBy w (some gl)):W.grownBy (w.setCell ⟨gl,o,none⟩ u) (some gl):=
 ⟨h.os,h.tape,h.output,by simpa using h.size,fun k hk hr=>by rw [Below.heap_setCell _ _ _ _ (by simpa using hr)];exact h.block k hk hr⟩
theorem LyIn.put{W w:World}{a n i:Nat}{L:List Nat}{x:Nat}(h:LyIn W w a n (L++[x]))(b:L.length=i)(y:Nat)(z:Int)(c:z=(y:Int)):LyIn W (w.setCell ⟨a,i,none⟩ (.int .i64 z)) a n (L++[y]):=by
 subst b c;refine⟨?_,qP h.gr⟩;rw [heap_setCell_same w a L.length _ _ _ h.row,<-sW L x y n];simp
theorem ny{p:List (List Ins)}{o:Out}{xs:List Ev}(hp:vProg p=true)(aY:Stood p o xs)(aT:xs.length<=500)(w:World)(b:Nat)(R:Option Addr)(T:Nat)(be:Option Addr)(sc:Nat)(hR:RunRead w b p xs o R T be sc):
  Calls Tryz.prog 57 #[.pointer (some ⟨b,0,none⟩)] w fun e w'=>∃ v,e= .returned v/\w'.ownsRow w.heap.size 3 1 v (formE p xs).length (ints (formE p xs))/\w.grownBy w' none:=by
 obtain⟨i0,bo,bC,bD,bE⟩:=info_parts nk;have F:=ij hR;have HV:=ij hp;have G:=ij aY;have bv:=iW hp;have S:=hR.c10;have q0:(xs.length:Int)<=500:=by omega
 have q1:(0:Int)<=(xs.length:Int):=by omega
 clear hR hp aY;go_enter Tryz.func57,Tryz.ntmps57
 go_upto_region 3 with (at_make;refine wpList_make_full _ rfl _ _ _ rfl w.heap.size 3 i0 _ 1 Tryz.underlying39 bo bC bD .i64 .i64 _ _ xs.length rfl rfl rfl rfl (by rw [bE];omega) (by unfold maxLen;omega) (by simp) ?_;intro A a6 az)
 have aD:A.heap[w.heap.size]?=some (.cells (List.replicate xs.length (Value.int .i64 0)).toArray 3 (0,0)):=by
  rcases a6.2 with ⟨e,_⟩ | ⟨g',cap',cur,hv,_,hh,_,_,hcs,N⟩
  ·cases e
  ·simp only [Value.slice.injEq,Option.some.injEq,Addr.mk.injEq,true_and,and_true]at hv;obtain⟨rfl,rfl⟩:=hv;rw [hh];have e1:cur.toList=List.replicate xs.length (Value.int .i64 0):=by
    have J:(madeCells #[Value.int .i64 0] (xs.length*1)).toList=List.replicate (xs.length*1) (Value.int .i64 0):=by
     apply List.ext_getElem (by simp [madeCells]);intro i h1 h2;simp only [madeCells,Array.toList_map,List.getElem_map,List.getElem_replicate,Array.toList_range,List.getElem_range];simp [Nat.mod_one]
    rw [Nat.mul_one]at J;rw [<-J];simp only [Value.cells,Nat.mul_one]at N hcs;rw [<-N,List.take_of_length_le (by simp;omega)]
   rw [<-e1]
 have HR3:Hid (RunRead A b p xs o R T be sc):=F.out.grown az;have ab:Hid (w.grownBy A none):=az;have H0:Hid (LyIn A A w.heap.size xs.length (labsE p xs 0)):=⟨by simpa [labsE,tl,rowL]using aD,ir _ _⟩;obtain⟨z,ag⟩:∃ z,z=w.heap.size:=⟨_,rfl⟩;have hgl3:z<A.heap.size:=by rw [ag];exact(Array.getElem?_eq_some_iff.1 aD).1
 have aq:Hid (∀ x v,w.cell? x=some v->∀ u,A.grownBy u (some z)->u.cell? x=some v):=fun x v hc u hu=>by
  have hx:=World.block_lt_of_cell? w _ hc;rw [World.cell?_of_block (hu.block x.block (Nat.lt_of_lt_of_le hx ab.out.size) (by simp;omega))];exact ip ab.out _ _ hc
 rw [<-ag]at H0 ⊢;have bf:=ij ag;clear a6 az aD S ag;go_wp2_with fail
 go_loopw [5] (fun iv w'=>∃ i:Nat,i<=xs.length/\iv= .int .i64 i/\Hid (LyIn A w' z xs.length (labsE p xs i))) (fun iv _=>xs.length - (intOf iv).toNat)
 case atStart=>exact⟨0,Nat.zero_le _,rfl,H0⟩
 case round=>
  clear H0;obtain⟨i,hi,rfl,B⟩:=hrel;obtain⟨Z,a9⟩:∃ Z,Z=wr:=⟨_,rfl⟩;rw [<-a9]at B ⊢;clear a9;by_cases ah:i<xs.length
  ·have t0:(0:Int)<=(i:Int):=by omega
   have t1:(i:Int)<xs.length:=by omega
   have bx:=lR p xs i hi;have H5:Hid (LyIn A Z z xs.length (labsE p xs i++[layIn (depE p) ((tl (depE p) [] (xs.take i)).take 0) xs[i]])):=by
    have e:layIn (depE p) ((tl (depE p) [] (xs.take i)).take 0) xs[i]=0:=by simp [layIn]
    unfold Hid;rw [e]
    exact⟨by rw [wV _ _ (by omega)];exact B.out.row,B.out.gr⟩
   go_wp2_with fail
   go_loopw [6] (fun kv w'=>∃ k:Nat,k<=i/\kv= .int .i64 k/\Hid (LyIn A w' z xs.length (labsE p xs i++[layIn (depE p) ((tl (depE p) [] (xs.take i)).take k) xs[i]]))) (fun kv _=>i - (intOf kv).toNat)
   case atStart=>exact⟨0,Nat.zero_le _,rfl,H5⟩
   case round=>
    clear H5 B;obtain⟨k,hk,rfl,P⟩:=hrel;obtain⟨w6,ba⟩:∃ w6,w6=wr:=⟨_,rfl⟩;rw [<-ba]at P ⊢;clear ba;by_cases bu:k<i
    ·have a5:k<xs.length:=by omega
     obtain⟨aj,a3,br⟩:=G.out.th _ (List.getElem_mem ah);obtain⟨N,a4,bt⟩:=G.out.th _ (List.getElem_mem a5);obtain⟨base,W⟩:=F.out.row;obtain⟨g,hg,s0,s1⟩:=mV W G.out.st ah;obtain⟨g',ay,r0,r1⟩:=mV W G.out.st a5;rw [hg]at ay;simp only [Option.some.injEq,Addr.mk.injEq,and_true]at ay;subst ay hg;obtain⟨X,L⟩:=Int.eq_ofNat_of_zero_le a3;obtain⟨Y,aA⟩:=Int.eq_ofNat_of_zero_le a4;have H:=ij (vL G.out bu ah);have Q:=ij (wu (depE p) (tl (depE p) [] (xs.take i)) xs[i] k (by rw [iX];simp;omega));have aW:((tl (depE p) [] (xs.take i))[k]'(by rw [iX];simp;omega)).1=xs[k]:=by
      have h1:=pm (depE p) [] (xs.take i);have h2:((tl (depE p) [] (xs.take i)).map (·.1))[k]'(by rw [h1];simp;omega)=(xs.take i)[k]'(by simp;omega):=by congr 1
      simpa using h2
     rw [aW]at Q;have aB:(labsE p xs i)[k]'(by omega)=((tl (depE p) [] (xs.take i))[k]'(by rw [iX];simp;omega)).2:=by simp [labsE]
     have bh:=ij aB;have a0:=qW p (xs.take i) xs[i] k;have hcur':layIn (depE p) ((tl (depE p) [] (xs.take i)).take k) xs[i]<=500:=by simp at a0;omega
     have hlk5:(labsE p xs i)[k]'(by omega)<=500:=by
      rw [aB];have:=lC (depE p) (xs.take i) [] 0 (by simp) k _ (List.getElem?_eq_getElem (by rw [iX];simp;omega));omega
     have a7:vIns (insAt p xs[i].t (X:Int)) (codeOf p xs[i].t).length=true:=jT HV.out aj (by simp;omega);have a8:vIns (insAt p xs[k].t (Y:Int)) (codeOf p xs[k].t).length=true:=jT HV.out N (by simp;omega);have av:=rL a7;have aw:=rL a8;have aL:=ij (tH (i:=insAt p xs[k].t (Y:Int)) (j:=insAt p xs[i].t (X:Int)) aw.1 aw.2.2.1 av.1 av.2.2.1);rw [L,aA]at H;rw [<-aL.out]at H;have C:∀ x v,w.cell? x=some v->w6.cell? x=some v:=fun x v hc=>aq.out x v hc w6 P.out.gr
     have aH:=C _ _ s0;have am:=C _ _ s1;have aG:=C _ _ r0;have ak:=C _ _ r1;rw [L]at am;rw [aA]at ak;have c0:=C _ _ F.out.c0;have S:=C _ _ F.out.c10;have aQ:=C _ _ F.out.c11;have aP:Hid (ProgAt w6 (.agg #[.slice R p.length T]) p):=F.out.prog.pres C;have aM:=ij (fun(u:World) (hu:w6.grownBy u none)=>xM u (.agg #[.slice R p.length T]) (aP.out.pres (ip hu)) bv.2 xs[k].t Y xs[i].t X N (by omega) aj (by omega) (jx (jf HV.out N)) (jx (jf HV.out aj)));clear s0 s1 r0 r1 W av aw a7 a8 C a0 aB aW a3 br a4 bt L aA aL aP;generalize bA:xs[i]=xi at*;generalize bB:xs[k]=xk at*;clear bA bB;generalize insAt p xk.t (Y:Int)=ik at*;generalize insAt p xi.t (X:Int)=ii at*;have u0:(0:Int)<=(k:Int):=by omega
     have u1:(k:Int)<(i:Int):=by omega
     have u2:(k:Int)<(xs.length:Int):=by omega
     go_upto_region 9 with fail
     refine iz (fun u=>u.cell? ⟨b,0,none⟩=some (.slice R p.length T)/\u.cell? ⟨b,10,none⟩=some (.slice (some ⟨g,0,none⟩) xs.length sc)/\u.cell? ⟨g,k*2,none⟩=some (.int .i64 (xk.t:Int))/\u.cell? ⟨g,k*2+1,none⟩=some (.int .i64 (Y:Int))/\u.cell? ⟨g,i*2,none⟩=some (.int .i64 (xi.t:Int))/\u.cell? ⟨g,i*2+1,none⟩=some (.int .i64 (X:Int))) 19 (by kernel_rfl) (by kernel_rfl) ⟨c0,S,aG,ak,aH,am⟩ ?_;intro d;refine ie 0 ?va0 rfl (by kernel_rfl) (fun _ _ _ h=>h) (by rfl) ?ya0 d ?_
     case ya0=>(rintro u ⟨f,l,m,n,r,s⟩;go_simp;try rfl)
     simp only [Act.put,List.setIfInBounds_toArray];refine ie 1 ?va1 rfl (by kernel_rfl) (fun _ _ _ h=>h) (by rfl) ?ya1 d ?_
     case ya1=>(rintro u ⟨f,l,m,n,r,s⟩;go_simp;try rfl)
     simp only [Act.put];refine ie 2 ?va2 rfl (by kernel_rfl) (fun _ _ _ h=>h) (by rfl) ?ya2 d ?_
     case ya2=>(rintro u ⟨f,l,m,n,r,s⟩;go_simp;try rfl)
     simp only [Act.put];refine ie 3 ?va3 rfl (by kernel_rfl) (fun _ _ _ h=>h) (by rfl) ?ya3 d ?_
     case ya3=>(rintro u ⟨f,l,m,n,r,s⟩;go_simp;try rfl)
     simp only [Act.put];refine ie 4 ?va4 rfl (by kernel_rfl) (fun _ _ _ h=>h) (by rfl) ?ya4 d ?_
     case ya4=>(rintro u ⟨f,l,m,n,r,s⟩;go_simp;try rfl)
     simp only [Act.put];refine ie 5 ?va5 rfl (by kernel_rfl) (fun _ _ _ h=>h) (by rfl) ?ya5 d ?_
     case ya5=>(rintro u ⟨f,l,m,n,r,s⟩;go_simp;try rfl)
     simp only [Act.put];refine ie 6 ?va6 rfl (by kernel_rfl) (fun _ _ _ h=>h) (by rfl) ?ya6 d ?_
     case ya6=>(rintro u ⟨f,l,m,n,r,s⟩;go_simp;try rfl)
     simp only [Act.put];refine ie 7 ?va7 rfl (by kernel_rfl) (fun _ _ _ h=>h) (by rfl) ?ya7 d ?_
     case ya7=>(rintro u ⟨f,l,m,n,r,s⟩;go_simp;try rfl)
     simp only [Act.put];refine ie 8 ?va8 rfl (by kernel_rfl) (fun _ _ _ h=>h) (by rfl) ?ya8 d ?_
     case ya8=>(rintro u ⟨f,l,m,n,r,s⟩;go_simp;try rfl)
     simp only [Act.put];refine ie 9 ?va9 rfl (by kernel_rfl) (fun _ _ _ h=>h) (by rfl) ?ya9 d ?_
     case ya9=>(rintro u ⟨f,l,m,n,r,s⟩;go_simp;try rfl)
     simp only [Act.put];refine ie 10 ?va10 rfl (by kernel_rfl) (fun _ _ _ h=>h) (by rfl) ?ya10 d ?_
     case ya10=>(rintro u ⟨f,l,m,n,r,s⟩;go_simp;try rfl)
     simp only [Act.put];refine ie 11 ?va11 rfl (by kernel_rfl) (fun _ _ _ h=>h) (by rfl) ?ya11 d ?_
     case ya11=>(rintro u ⟨f,l,m,n,r,s⟩;go_simp;try rfl)
     simp only [Act.put];refine ie 12 ?va12 rfl (by kernel_rfl) (fun _ _ _ h=>h) (by rfl) ?ya12 d ?_
     case ya12=>(rintro u ⟨f,l,m,n,r,s⟩;go_simp;try rfl)
     simp only [Act.put];refine ie 13 ?va13 rfl (by kernel_rfl) (fun _ _ _ h=>h) (by rfl) ?ya13 d ?_
     case ya13=>(rintro u ⟨f,l,m,n,r,s⟩;go_simp;try rfl)
     simp only [Act.put];refine ie 14 ?va14 rfl (by kernel_rfl) (fun _ _ _ h=>h) (by rfl) ?ya14 d ?_
     case ya14=>(rintro u ⟨f,l,m,n,r,s⟩;go_simp;try rfl)
     simp only [Act.put];refine ie 15 ?va15 rfl (by kernel_rfl) (fun _ _ _ h=>h) (by rfl) ?ya15 d ?_
     case ya15=>(rintro u ⟨f,l,m,n,r,s⟩;go_simp;try rfl)
     simp only [Act.put];refine ie 16 ?va16 rfl (by kernel_rfl) (fun _ _ _ h=>h) (by rfl) ?ya16 d ?_
     case ya16=>(rintro u ⟨f,l,m,n,r,s⟩;go_simp;try rfl)
     simp only [Act.put];refine ie 17 ?va17 rfl (by kernel_rfl) (fun _ _ _ h=>h) (by rfl) ?ya17 d ?_
     case ya17=>(rintro u ⟨f,l,m,n,r,s⟩;go_simp;try rfl)
     simp only [Act.put];refine iu (i:=18) rfl (by kernel_rfl) (by kernel_rfl) (by rfl) ?_;intro K18 aV;have aN:=ij aV;clear aV;go_simp;refine(aM.out _ (iy (ir _ _))).mono ?_;rintro e O ⟨rfl,a1⟩;have E:Hid (w6.grownBy O none):=nT a1;refine aN.out _ _ ⟨ip E.out _ _ c0,ip E.out _ _ S,ip E.out _ _ aG,ip E.out _ _ ak,ip E.out _ _ aH,ip E.out _ _ am⟩ ?_;clear aN a1;try simp only [Act.put,List.setIfInBounds_toArray]
     refine iF rfl (by kernel_rfl) (by kernel_rfl) (by rfl) ?_;go_simp;have bb:=ip E.out _ _ aQ;have ac:=ij (P.out.grown E.out);clear d c0 S aQ aG ak aH am aM P;generalize bk:(xk.t==xi.t || depR ik ii)=dd at*;clear bk;obtain⟨I,ax⟩:∃ I:Bool,I=(decide (o.kind=1) && decide (i+1=xs.length)):=⟨_,rfl⟩;rw [<-ax]at H;have aa:=ij ax;clear ax;go_upto_region 10 with fail
     go_cut [59] (fun q w'=>q= .bool I/\w'=O)
     case first=>
      by_cases J:o.kind=1
      ·rw [J]at bb;by_cases e1:i+1=xs.length
       ·have e3:(xs.length:Int) - 1=(i:Int):=by omega
        have U:I=true:=by rw [aa.out];simp [e1,J]
        go_wp2_with fail
        all_goals first | (go_meet;exact⟨by rw [U],rfl⟩) | (exfalso;omega)
       ·have U:I=false:=by rw [aa.out];simp [e1]
        have e4:((i:Int)==(xs.length:Int) - 1)=false:=by simp;omega
        go_wp2_with fail
        all_goals first | (go_meet;exact⟨by rw [U],rfl⟩) | (exfalso;omega)
      ·have U:I=false:=by rw [aa.out];simp [J]
       have hb2:(o.kind==1)=false:=by simpa using J
       go_wp2_with fail
       all_goals first | (go_meet;exact⟨by rw [U],rfl⟩) | (exfalso;omega)
     case rest=>
     obtain⟨rfl,aE⟩:=hcut;have aF:=aE.symm;subst aF;obtain⟨D,hD⟩:∃ D:Bool,D=depE p xk xi:=⟨_,rfl⟩;rw [<-hD]at H Q;clear hD;go_upto_if 59 with fail
     go_cut [7] (fun q w'=>q= .bool D/\w'=O)
     case first=>
      cases I with
      | true=>
       have ar:D=true:=by rw [H.out];rfl
       go_wp2_with fail
       go_meet
       exact⟨by rw [ar],rfl⟩
      | false=>
       have ar:D=dd:=by rw [H.out];rfl
       go_wp2_with fail
       go_meet
       exact⟨by rw [ar],rfl⟩
     case rest=>
     obtain⟨rfl,aE⟩:=hcut;have aF:=aE.symm;subst aF;clear bb aa H;rw [<-bh.out]at Q;have bq:k<(labsE p xs i).length:=by omega
     have HRS:=ij (fun y:Nat=>sW (labsE p xs i) (layIn (depE p) ((tl (depE p) [] (xs.take i)).take k) xi) y xs.length);have ai:=ac.out.row;have ck:O.cell? ⟨z,k,none⟩=some (.int .i64 ((labsE p xs i)[k]:Int)):=by
      simp only [World.cell?,ai];have:=pa (labsE p xs i++[layIn (depE p) ((tl (depE p) [] (xs.take i)).take k) xi]) xs.length k (by simp;omega);rw [List.getElem_append_left bq]at this;simpa using this
     have ci:O.cell? ⟨z,i,none⟩=some (.int .i64 (layIn (depE p) ((tl (depE p) [] (xs.take i)).take k) xi:Int)):=by
      simp only [World.cell?,ai];have:=pa (labsE p xs i++[layIn (depE p) ((tl (depE p) [] (xs.take i)).take k) xi]) xs.length i (by simp;omega);have e:(labsE p xs i++[layIn (depE p) ((tl (depE p) [] (xs.take i)).take k) xi])[i]'(by simp;omega)=layIn (depE p) ((tl (depE p) [] (xs.take i)).take k) xi:=by
       rw [List.getElem_append_right (by omega)];simp
      rw [e]at this;simpa using this
     have fi:O.frozen? ⟨z,i,none⟩=false:=by simp [World.frozen?,ai]
     clear ai;generalize bw:(labsE p xs i)[k]=lk at*;generalize hc:layIn (depE p) ((tl (depE p) [] (xs.take i)).take k) xi=c at*;generalize aZ:layIn (depE p) ((tl (depE p) [] (xs.take i)).take (k+1)) xi=c1 at*;have ap:=ij aZ;clear bw hc aZ;have v0:(lk:Int)<=500:=by omega
     have v1:(c:Int)<=500:=by omega
     cases D with
     | false=>
      have V:c1=c:=by have:=Q.out;simpa using this
      go_wp2_with fail
      go_quiet (fail)
      go_wp2_with fail
      go_roundw
      case rel=>exact⟨k+1,by omega,by go_num,by rw [ap.out,V];exact ac.out.grown (ni _)⟩
      case measure=>simp [intOf];omega
     | true=>
      have hcm:c1=max c (lk+1):=by have:=Q.out;simpa using this
      by_cases hle:c<=lk
      ·have v2:(c:Int)<=(lk:Int):=by omega
       have V:c1=lk+1:=by omega
       go_wp2_with fail
       go_quiet (fail)
       go_wp2_with fail
       go_roundw
       case rel=>exact⟨k+1,by omega,by go_num,by rw [ap.out,V];exact LyIn.put (ac.out.grown (ni _)) bx (lk+1) _ (by omega)⟩
       case measure=>simp [intOf];omega
      ·have v2:(lk:Int)<(c:Int):=by omega
       have V:c1=c:=by omega
       go_wp2_with fail
       go_quiet (fail)
       go_wp2_with fail
       go_roundw
       case rel=>exact⟨k+1,by omega,by go_num,by rw [ap.out,V];exact ac.out.grown (ni _)⟩
       case measure=>simp [intOf];omega
    ·have u1:(i:Int)<=(k:Int):=by omega
     have L:k=i:=by omega
     have bi:Hid (labsE p xs (i+1)=labsE p xs i++[layIn (depE p) ((tl (depE p) [] (xs.take i)).take k) xs[i]]):=by unfold Hid;rw [L];exact ua p xs i ah
     clear L;go_wp2_with fail
     go_roundw
     case rel=>exact⟨i+1,by omega,by go_num,by rw [bi.out];exact P.out⟩
     case measure=>simp [intOf];omega
  ·have t1:(xs.length:Int)<=(i:Int):=by omega
   have a2:i=xs.length:=by omega
   have bg:=ij a2;clear a2;go_upto_if 21 with fail
   refine wp_cond_false rfl ?_;refine wp_exit ?_;refine ‹∀ a w,Code.wp Tryz.prog _ _ a w->_› _ _ ?_;obtain⟨base,W⟩:=F.out.row;refine AO (p:=p) aT (aq.out _ _ F.out.c10 Z B.out.gr) ?_ ?_
   ·intro j K;obtain⟨g,hg,s0,s1⟩:=mV W G.out.st K;have bp:j<(labsE p xs xs.length).length:=by rw [lR _ _ _ (Nat.le_refl _)];exact K
    have aj:=(G.out.th _ (List.getElem_mem K)).1;refine⟨g,(labsE p xs xs.length)[j],xs[j].t,?_,hg,?_,aq.out _ _ s0 Z B.out.gr,Nat.le_trans (Aw p xs j K) aT,by omega⟩
    ·rw [List.getElem?_eq_getElem (by rw [np];exact K),Au p xs j K]
    ·have M:=B.out.row;rw [bg.out]at M;simp only [World.cell?,M];have:=pa (labsE p xs xs.length) xs.length j bp;simpa using this
   ·intro z0 z1 z3 z4 z5 z6 z7 z8 z9 z10 z11 z12 z13 z14 z15 z16 z17 z18 z19 z20 z21 z22 z23 z24 z25 z26 z27 z28 z29 z30 z31 z32 z33 z34 z35 z36 z37 z38 z39 z40 z41 z42 z43 z44 z45 z46 z47 z48 z49 z50 z51 z52 z53 z54 z55 z56 z57 z58 z59 z60 z61 z62 z63 z64 z65 z66 z67 z68 z69 z70 z71 z72 z73 z74 z75 z76 z77 z78 z79 z80 z81 z82 z83 z84 z85 z86 z87 z88 z89 z90 z91 z92 z93 z94 z95 z96 z97 z98 z99 z100 z101 z102 z103 z104 z105 z106 z107 z108 z109 z110 z111 z112 z113 z114 z115 z116 v w' hO;have HO:=ij hO;clear hO;go_ret;refine⟨v,rfl,?_,?_⟩
    ·have hf:=qO (p:=p) (xs:=xs) (fun e he=>by have:=(G.out.th e he).1;omega);have M:=HO.out.row;unfold thrL at M;rw [<-hf]at M;exact iK M (by have:=B.out.gr.size;have:=ab.out.size;omega)
    ·exact il (mp ab.out B.out.gr (by have:=bf.out;omega)) HO.out.gr
theorem pG(l m:List Int)(v u:Value)(w:World)(E:IntsAt w.heap.size w v l)(F:IntsAt w.heap.size w u m)(hln:l.length<=9223372036854775806):
  Calls Tryz.prog 61 #[v,u] w fun e w'=>e= .returned (.bool (l==m))/\Like w' w:=by
 obtain⟨ao,cap,rfl,hcap,hc⟩:=E;obtain⟨bo,dap,rfl,hdap,p⟩:=F;by_cases q:l.length=m.length
 ·have C:=ij hc;have D:=ij p;clear hc p;have G:(l.length:Int)=m.length:=by omega
  have H:((l.length:Int) !=(m.length:Int))=false:=by simp;omega
  have s:=ij q;go_enter Tryz.func61,Tryz.ntmps61
  clear q G;go_wp2_with fail
  go_loopw [5] (fun i w'=>∃ k:Nat,k<=l.length/\i= .int .i64 k/\Hid (Like w' w)/\Hid (l.take k=m.take k)) (fun i _=>l.length - (intOf i).toNat)
  case atStart=>exact⟨0,Nat.zero_le _,rfl,ij (uU _),by simp [Hid]⟩
  case round=>
   obtain⟨k,hk,rfl,f,r⟩:=hrel;obtain⟨d,J⟩:∃ d,d=wr:=⟨_,rfl⟩;subst J;by_cases z:k<l.length
   ·have A:k<m.length:=by have:=s.out;omega
    obtain⟨g,o,rfl,_,c0⟩:=C.out k z;obtain⟨g2,K,rfl,_,c1⟩:=D.out k A;have n:∀ a,d.cell? a=w.cell? a:=fun a=>by simp [World.cell?,f.out.1]
    have d0:d.cell? ⟨g,o+k,none⟩=some (.int .i64 l[k]):=by rw [n];exact c0
    have d1:d.cell? ⟨g2,K+k,none⟩=some (.int .i64 m[k]):=by rw [n];exact c1
    have hk0:(0:Int)<=(k:Int):=by omega
    have hk1:(k:Int)<l.length:=by omega
    have hk2:(k:Int)<m.length:=by omega
    have h:Hid (l.take (k+1)=l.take k++[l[k]]):=List.take_succ_eq_append_getElem z;have j:Hid (m.take (k+1)=m.take k++[m[k]]):=List.take_succ_eq_append_getElem A;clear n c0 c1;by_cases b:l[k]=m[k]
    ·have I:(l[k] !=m[k])=false:=by simpa using b
     have B:Hid (l.take (k+1)=m.take (k+1)):=by unfold Hid;rw [h.out,j.out,r.out,b]
     clear b h j;generalize l[k]=x at*;generalize m[k]=y at*;go_wp2_with fail
     go_quiet (fail)
     go_wp2_with fail
     go_roundw
     case rel=>exact⟨k+1,by omega,by go_num,ij (qZ f.out _),B⟩
     case measure=>simp [intOf];omega
    ·have I:(l[k] !=m[k])=true:=by simpa using b
     have c:Hid ((l==m)=false):=by
      unfold Hid;simp only [beq_eq_false_iff_ne];intro e;apply b;simp [e]
     clear b h j;generalize l[k]=x at*;generalize m[k]=y at*;go_wp2_with fail
     go_quiet (fail)
     go_wp2_with fail
     go_ret;exact⟨by rw [c.out];rfl,qZ f.out _⟩
   ·have c:Hid ((l==m)=true):=by
     unfold Hid;have t:=r.out;rw [List.take_of_length_le (by omega),List.take_of_length_le (by have:=s.out;omega)]at t;simpa using t
    have q2:(l.length:Int)<=(k:Int):=by omega
    go_wp2_with fail
    go_ret;exact⟨by rw [c.out];rfl,f.out⟩
 ·have c:Hid ((l==m)=false):=by
   unfold Hid;simp only [beq_eq_false_iff_ne];intro e;exact q (by rw [e])
  have H:((l.length:Int) !=(m.length:Int))=true:=by simp;omega
  clear hc p;go_enter Tryz.func61,Tryz.ntmps61
  go_wp2_with fail
  go_ret;exact⟨by rw [c.out];rfl,uU _⟩
theorem rF{w e:World}{b i n:Nat}{p:List (List Ins)}{a:Option Addr}{c:Nat}{f:Value}{o:Out}{xs:List Ev}(h:RunAt w e b i n p.length (.slice a p.length c) f o.st o.steps o.kind o.thread o.at_)(l:Stood p o xs)(j:ProgAt e (.agg #[.slice a p.length c]) p):
  ∃ sao sc,f= .slice sao xs.length sc/\RunRead e b p xs o a c sao sc:=by
 obtain⟨x1,x2,x3,rfl⟩:=iw h.row;have k:o.steps.length=xs.length:=by rw [l.st,List.length_map]
 have d:=h.row;rw [k]at d;have m:=iB d;subst m;exact⟨x1,x3,rfl,j,(h.cell 0).1,(h.cell 10).1,(h.cell 11).1,_,d⟩
theorem wQ(p:List (List Ins))(s:List Int)(pv sv:Value)(w:World)(t:ProgAt w pv p)(r:IntsAt w.heap.size w sv s)(P:p.length<=5864062014634)(H:∀ c∈p,c.length<=4398046510976):
  Calls Tryz.prog 29 #[pv,sv] w (Formd p s w):=by
 have q:=ij t;have L:=ij r;have N:=ij H;obtain⟨l,m,rfl⟩:=t.form;obtain⟨so,sc,rfl⟩:=r.form;clear t r H;go_enter Tryz.func29,Tryz.ntmps29
 go_wp2_with fail
 have E:∀ a,w.grownBy (w.alloc a) none:=fun a=>iq (ir _ _)
 refine(kd p _ _ (q.out.pres (ip (E _))) P N.out).mono ?_;rintro e n ⟨rfl,x⟩;have f:Hid (w.grownBy n none):=il (E _) x;have D:n.heap[w.heap.size]?=some (.cells #[.slice l p.length m] 37 (0,0)):=by
  rw [x.block w.heap.size (by simp) (by simp)];exact heap_alloc_new w _
 have c0:n.cell? ⟨w.heap.size,0,none⟩=some (.slice l p.length m):=by simp [World.cell?,D]
 clear D x;by_cases h:vProg p=true
 ·have j:checkN p=0:=by simp [checkN,h]
  have i:=ij h;rw [j];clear j h;by_cases B:s.length<=500
  ·have O:(s.length:Int)<=500:=by omega
   have d:Hid (checkRunN p s=0):=by unfold Hid checkRunN;simp [i.out,B]
   go_wp2_with fail
   have z:=ij (ms n l m p _ s i.out (q.out.pres (ip f.out)) ((L.out.pres (ip f.out)).mono f.out.size) (by omega));refine(kI z).mono ?_;clear z;rintro e I ⟨b,ab,rb,st,rfl,u⟩;have o:Hid (w.grownBy I none):=il f.out u.frame;obtain⟨xs,k⟩:=kZ i.out s;obtain⟨R,S,rfl,C⟩:=rF u k (q.out.pres (ip o.out));have Q:xs.length<=500:=by
    have A:=kY p s;rw [k.st]at A;simp at A;omega
   have y:=ij (ny i.out k Q I b l m R S C);have J:Hid (formS p (runS p s)=formE p xs):=by unfold Hid formS;rw [k.ev]
   clear u k C c0;go_wp2_with fail
   refine(kI y).mono ?_;clear y;rintro e w3 ⟨v,rfl,G,F⟩;have M:=ij G;have K:=ij F;clear G F;go_wp2_with fail
   exact bodyPost_ret (v:= .tuple #[v,.int .i64 0]) (by simp [results,Tryz.results29,go_sem]) rfl ⟨il o.out K.out,Or.inl ⟨d.out,v,rfl,by rw [J.out];exact iK M.out o.out.size⟩⟩
  ·have O:(500:Int)<s.length:=by omega
   have d:Hid (checkRunN p s=2):=by unfold Hid checkRunN;simp [i.out,B]
   go_wp2_with fail
   exact bodyPost_ret (v:= .tuple #[.slice none 0 0,.int .i64 2]) (by simp [results,Tryz.results29,go_sem]) rfl ⟨f.out,Or.inr ⟨by rw [d.out];decide,by rw [d.out]⟩⟩
 ·have j:checkN p=1:=by simp [checkN,h]
  have d:Hid (checkRunN p s=1):=by unfold Hid checkRunN;simp [h]
  rw [j];clear j h;go_wp2_with fail
  exact bodyPost_ret (v:= .tuple #[.slice none 0 0,.int .i64 1]) (by simp [results,Tryz.results29,go_sem]) rfl ⟨f.out,Or.inr ⟨by rw [d.out];decide,by rw [d.out]⟩⟩
theorem m7(p:List (List Ins))(s:List Int)(h:(runS p s).kind=2):(runS p s).thread=0:=by
 have hc:=kr p s 0 St.zero [];change ∃ xs a,RunE p St.zero xs a/\(runS p s).steps=[]++xs.map Ev.pr/\(runS p s).st=a/\((good xs/\xs.map Ev.tI=s/\(runS p s).kind=endingS p a/\(runS p s).thread=0/\(runS p s).at_=0)\/(good xs/\(∃ u r,s=xs.map Ev.tI++u::r/\okAt p a u=false)/\(runS p s).kind=2/\(runS p s).thread=0/\(runS p s).at_=0+xs.length)\/(∃ ys z r,xs=ys++[z]/\good ys/\z.bad=true/\s=xs.map Ev.tI++r/\(runS p s).kind=1/\(runS p s).thread=z.tI/\(runS p s).at_=z.k))at hc
 obtain⟨xs,a,_,_,_,hc⟩:=hc;rcases hc with ⟨_,_,_,g4,_⟩ | ⟨_,_,_,g4,_⟩ | ⟨us,z,r,_,_,_,_,g5,_⟩
 ·exact g4
 ·exact g4
 ·omega
theorem uf{a b:Out}(k:a.kind=2->a.thread=0)(d:b.kind=2->b.thread=0):likeV a b=(a.kind==b.kind && a.thread==b.thread && (a.kind==2 || a.at_==b.at_)):=by
 unfold likeV;by_cases h:a.kind=2
 ·rw [if_pos h];by_cases c:b.kind=2
  ·simp [h,c,k h,d c]
  ·have f:¬(2:Int)=b.kind:=fun e=>c e.symm
   have i:(b.kind==2)=false:=by simpa using c
   have j:((2:Int)==b.kind)=false:=by simpa using f
   rw [i,h,j];simp
 ·have d:(a.kind==2)=false:=by simpa using h
  rw [if_neg h,d];simp
theorem wR(p:List (List Ins))(a b:List Int)(pv av bv:Value)(w:World)(V:ProgAt w pv p)(S:IntsAt w.heap.size w av a)(T:IntsAt w.heap.size w bv b)(aY:p.length<=5864062014634)(aH:∀ c∈p,c.length<=4398046510976):
  Calls Tryz.prog 35 #[pv,av,bv] w (Samed p a b w):=by
 have y:=ij V;have HI:=ij S;have HJ:=ij T;have aQ:=ij aH;obtain⟨r,s,rfl⟩:=V.form;obtain⟨so,sc,rfl⟩:=S.form;obtain⟨sp,sd,rfl⟩:=T.form;clear V S T aH;go_enter Tryz.func35,Tryz.ntmps35
 go_wp2_with fail
 have aB:∀ a,w.grownBy (w.alloc a) none:=fun a=>iq (ir _ _)
 refine(kd p _ _ (y.out.pres (ip (aB _))) aY aQ.out).mono ?_;rintro e N ⟨rfl,W⟩;have m:Hid (w.grownBy N none):=il (aB _) W;have aA:N.heap[w.heap.size]?=some (.cells #[.slice r p.length s] 37 (0,0)):=by
  rw [W.block w.heap.size (by simp) (by simp)];exact heap_alloc_new w _
 have c0:N.cell? ⟨w.heap.size,0,none⟩=some (.slice r p.length s):=by simp [World.cell?,aA]
 clear aA W;by_cases t:vProg p=true
 ·have B:checkN p=0:=by simp [checkN,t]
  have k:=ij t;rw [B];clear B t;by_cases h5:a.length<=500
  ·have aV:(a.length:Int)<=500:=by omega
   by_cases h6:b.length<=500
   ·have aW:(b.length:Int)<=500:=by omega
    have i:Hid (checkRunsN p [a,b]=0):=by unfold Hid checkRunsN;simp [k.out,h5,h6]
    have z:=ij (ms N r s p (.slice so a.length sc) a k.out (y.out.pres (ip m.out)) ((HI.out.pres (ip m.out)).mono m.out.size) (by omega));go_wp2_with fail
    refine(kI z).mono ?_;clear z;rintro e X ⟨b1,ab1,rb1,st1,rfl,D⟩;have aK:=ij D.frame;have x:Hid (w.grownBy X none):=il m.out D.frame;obtain⟨xs,F⟩:=kZ k.out a;obtain⟨ba,bd,rfl,ay⟩:=rF D F (y.out.pres (ip x.out));have a1:xs.length<=500:=by
     have C:=kY p a;rw [F.st]at C;simp at C;omega
    obtain⟨_,d1,d2,d3,_,_,_⟩:=D.vcells;have c2:=ip aK.out _ _ c0;have ac:=ij (fun(u:World) (hu:X.grownBy u none)=>ny k.out F a1 u b1 r s ba bd (ay.grown hu));have Y:Hid (formS p (runS p a)=formE p xs):=by unfold Hid formS;rw [F.ev]
    clear D F ay c0;have z:=ij (ms X r s p (.slice sp b.length sd) b k.out (y.out.pres (ip x.out)) ((HJ.out.pres (ip x.out)).mono x.out.size) (by omega));go_wp2_with fail
    refine(kI z).mono ?_;clear z;rintro e d ⟨b2,ab2,rb2,st2,rfl,E⟩;have J:=ij E.frame;have ag:Hid (w.grownBy d none):=il x.out E.frame;obtain⟨I,G⟩:=kZ k.out b;obtain⟨bb,be,rfl,az⟩:=rF E G (y.out.pres (ip ag.out));have a2:I.length<=500:=by
     have C:=kY p b;rw [G.st]at C;simp at C;omega
    obtain⟨_,f1,f2,f3,_,_,_⟩:=E.vcells;have k1:=ip J.out _ _ d1;have k2:=ip J.out _ _ d2;have k3:=ip J.out _ _ d3;have hl1:b1<d.heap.size:=World.block_lt_of_cell? d _ k1;have hl2:b2<d.heap.size:=World.block_lt_of_cell? d _ f1;have ad:=ij (fun(u:World) (hu:d.grownBy u none)=>ny k.out G a2 u b2 r s bb be (az.grown hu));have Z:Hid (formS p (runS p b)=formE p I):=by unfold Hid formS;rw [G.ev]
    have aj:=ij (uf (m7 p a) (m7 p b));have A:Hid (sameS p a b=(likeV (runS p a) (runS p b) && (formS p (runS p a)==formS p (runS p b)))):=rfl;rw [aj.out,Y.out,Z.out]at A;clear E G az c2 d1 d2 d3 aj Y Z;have aX:=kt p xs;have aJ:Hid ((formE p xs).length<=500):=by unfold Hid;omega
    clear aX;generalize (runS p a).kind=ka at*;generalize (runS p a).thread=ta at*;generalize (runS p a).at_=aa at*;generalize (runS p b).kind=kb at*;generalize (runS p b).thread=tb at*;generalize (runS p b).at_=ab at*;go_upto_region 10 with fail
    obtain⟨h,H⟩:∃ h,h=(d.alloc (.cells #[.int .i64 ka,.int .i64 ta,.int .i64 aa] 26)).alloc (.cells #[.int .i64 kb,.int .i64 tb,.int .i64 ab] 26):=⟨_,rfl⟩;have Q:Hid (d.grownBy h none):=by unfold Hid;rw [H];exact iq (iq (ir _ _))
    have z1:h.heap[d.heap.size]?=some (.cells #[.int .i64 ka,.int .i64 ta,.int .i64 aa] 26 (0,0)):=by
     rw [H,Below.heap_alloc _ _ _ (by simp)];exact heap_alloc_new _ _
    have O:h.heap[d.heap.size+1]?=some (.cells #[.int .i64 kb,.int .i64 tb,.int .i64 ab] 26 (0,0)):=by
     have:=heap_alloc_new (d.alloc (.cells #[.int .i64 ka,.int .i64 ta,.int .i64 aa] 26)) (.cells #[.int .i64 kb,.int .i64 tb,.int .i64 ab] 26);rw [H];simpa using this
    rw [<-H];clear H k1 k2 k3 f1 f2 f3;have m0:h.cell? ⟨d.heap.size,0,none⟩=some (.int .i64 ka):=by simp [World.cell?,z1]
    have m1:h.cell? ⟨d.heap.size,1,none⟩=some (.int .i64 ta):=by simp [World.cell?,z1]
    have m2:h.cell? ⟨d.heap.size,2,none⟩=some (.int .i64 aa):=by simp [World.cell?,z1]
    have n0:h.cell? ⟨d.heap.size+1,0,none⟩=some (.int .i64 kb):=by simp [World.cell?,O]
    have n1:h.cell? ⟨d.heap.size+1,1,none⟩=some (.int .i64 tb):=by simp [World.cell?,O]
    have n2:h.cell? ⟨d.heap.size+1,2,none⟩=some (.int .i64 ab):=by simp [World.cell?,O]
    clear z1 O;obtain⟨l,U⟩:∃ l,l=(ka==kb && ta==tb && (ka==2 || aa==ab)):=⟨_,rfl⟩;rw [<-U]at A;have o:=ij U;clear U;go_cut [65] (fun q w'=>q= .bool (!l)/\w'=h)
    case first=>
     by_cases K:ka=kb
     ·subst K;by_cases L:ta=tb
      ·subst L;by_cases n:ka=2
       ·have aS:(ka !=2)=false:=by simpa using n
        have f:l=true:=by rw [o.out];simp [n]
        have j:=ij f;subst n;clear f;go_wp2_with fail
        go_meet
        exact⟨by rw [j.out];rfl,rfl⟩
       ·have aS:(ka !=2)=true:=by simpa using n
        by_cases M:aa=ab
        ·subst M;have f:l=true:=by rw [o.out];simp
         have j:=ij f;clear f n;go_wp2_with fail
         go_meet
         exact⟨by rw [j.out];rfl,rfl⟩
        ·have e4':(aa !=ab)=true:=by simpa using M
         have f:l=false:=by rw [o.out];simp [n,M]
         have j:=ij f;clear f n M;go_wp2_with fail
         go_meet
         exact⟨by rw [j.out];rfl,rfl⟩
      ·have e2':(ta !=tb)=true:=by simpa using L
       have f:l=false:=by rw [o.out];simp [L]
       have j:=ij f;clear f L;go_wp2_with fail
       go_meet
       exact⟨by rw [j.out];rfl,rfl⟩
     ·have e1':(ka !=kb)=true:=by simpa using K
      have f:l=false:=by rw [o.out];simp [K]
      have j:=ij f;clear f K;go_wp2_with fail
      go_meet
      exact⟨by rw [j.out];rfl,rfl⟩
    case rest=>
    obtain⟨rfl,aZ⟩:=hcut;have a0:=aZ.symm;subst a0;clear m0 m1 m2 n0 n1 n2;have ah:Hid (w.grownBy h none):=il ag.out Q.out;cases l with
    | false=>
     have P:Hid (sameS p a b=false):=by unfold Hid;rw [A.out];rfl
     go_wp2_with fail
     exact bodyPost_ret (v:= .tuple #[.bool false,.int .i64 0]) (by simp [results,Tryz.results35,go_sem]) rfl ⟨ah.out,Or.inl ⟨i.out,by rw [P.out]⟩⟩
    | true=>
     have P:Hid (sameS p a b=(formE p xs==formE p I)):=by unfold Hid;rw [A.out];rfl
     clear A o;have ae:=ij (ac.out h (il J.out Q.out));clear ac;go_wp2_with fail
     refine(kI ae).mono ?_;clear ae;rintro e w6 ⟨v6,rfl,aF,aC⟩;have aO:=ij aF;have ai:=ij aC;clear aF aC;have af:=ij (ad.out w6 (il Q.out ai.out));clear ad;go_wp2_with fail
     refine(kI af).mono ?_;clear af;rintro e w7 ⟨v7,rfl,aG,aD⟩;have aP:=ij aG;have R:=ij aD;clear aG aD;have ak:=ij (pG (formE p xs) (formE p I) v6 v7 w7 (((iV aO.out).pres (ip R.out)).mono R.out.size) (iV aP.out) (by have:=aJ.out;omega));go_wp2_with fail
     refine(kI ak).mono ?_;clear ak;rintro e w8 ⟨rfl,aE⟩;have aL:Hid (w7.grownBy w8 none):=iH aE;clear aE;go_wp2_with fail
     exact bodyPost_ret (v:= .tuple #[.bool (formE p xs==formE p I),.int .i64 0]) (by simp [results,Tryz.results35,go_sem]) rfl ⟨il ah.out (il ai.out (il R.out aL.out)),Or.inl ⟨i.out,by rw [P.out]⟩⟩
   ·have aW:(500:Int)<b.length:=by omega
    have i:Hid (checkRunsN p [a,b]=2):=by unfold Hid checkRunsN;simp [k.out,h6]
    go_wp2_with fail
    exact bodyPost_ret (v:= .tuple #[.bool false,.int .i64 2]) (by simp [results,Tryz.results35,go_sem]) rfl ⟨m.out,Or.inr ⟨by rw [i.out];decide,by rw [i.out]⟩⟩
  ·have aV:(500:Int)<a.length:=by omega
   have i:Hid (checkRunsN p [a,b]=2):=by unfold Hid checkRunsN;simp [k.out,h5]
   go_wp2_with fail
   exact bodyPost_ret (v:= .tuple #[.bool false,.int .i64 2]) (by simp [results,Tryz.results35,go_sem]) rfl ⟨m.out,Or.inr ⟨by rw [i.out];decide,by rw [i.out]⟩⟩
 ·have B:checkN p=1:=by simp [checkN,t]
  have i:Hid (checkRunsN p [a,b]=1):=by unfold Hid checkRunsN;simp [t]
  rw [B];clear B t;go_wp2_with fail
  exact bodyPost_ret (v:= .tuple #[.bool false,.int .i64 1]) (by simp [results,Tryz.results35,go_sem]) rfl ⟨m.out,Or.inr ⟨by rw [i.out];decide,by rw [i.out]⟩⟩
theorem oL{B:Nat}{w:World}{i:Option Addr}{o n:Nat}{l:List Int}(h:IntsAt B w (.slice i n o) l):∀ b,i=some b->∀ j u,(ints l)[j]?=some u->w.cell? (b.add j)=some u:=by
 rintro b rfl j u d;obtain⟨a,c,e,_,r⟩:=h;have f:=(List.getElem?_eq_some_iff.1 d).1;rw [jc]at f;obtain⟨k,m,p,e2,q⟩:=r j f;simp only [Value.slice.injEq]at e;rw [p]at e;simp only [Option.some.injEq]at e;obtain⟨rfl,_⟩:=e;have s:(⟨k,m,none⟩:Addr).add j=⟨k,m+j,none⟩:=by unfold Addr.add;split<;>simp_all
 rw [s,q];have:(ints l)[j]?=some (.int .i64 l[j]):=by simp [ints,f]
 rw [this]at d;exact d
theorem j0{w:World}(n:Nat):w.grownBy (w.drewN n) none:=iH (by have:=jB w n;exact this)
theorem ww(a b:Out):likeV a b=((a.kind==b.kind && (a.thread==b.thread && a.at_==b.at_)) || (a.kind==2 && b.kind==2)):=by
 unfold likeV;by_cases h:a.kind=2
 ·rw [if_pos h,h];by_cases d:b.kind=2
  ·simp [d]
  ·have e:((2:Int)==b.kind)=false:=by simp;omega
   have c:(b.kind==2)=false:=by simpa using d
   simp [e,c]
 ·have c:(a.kind==2)=false:=by simpa using h
  rw [if_neg h,c];simp [Bool.and_assoc]
theorem rG(p:List (List Ins))(s:List Int)(pv sv:Value)(fuel:Int)(w:World)(hP:ProgAt w pv p)(hI:IntsAt w.heap.size w sv s)(bp:nilOk sv)(hf1:fuel<=9223372036854775807)(b3:p.length<=5864062014634)(br:∀ c∈p,c.length<=4398046510976):
  Calls Tryz.prog 33 #[pv,sv,.int .i64 fuel] w (Shortened p s fuel w):=by
 obtain⟨i0,ai,am,an,ap⟩:=info_parts ji;have HP:=ij hP;have HI:=ij hI;have HN:=ij bp;have bN:=ij br;obtain⟨ao,ae,rfl⟩:=hP.form;obtain⟨Y,L,rfl⟩:=hI.form;have hcap:s.length<=L:=by
  obtain⟨a,c,e,h1,_⟩:=hI;simp only [Value.slice.injEq]at e;omega
 clear hP hI bp br;go_enter Tryz.func33,Tryz.ntmps33
 go_wp2_with fail
 have bj:∀ a,w.grownBy (w.alloc a) none:=fun a=>iq (ir _ _)
 refine(kd p _ _ (HP.out.pres (ip (bj _))) b3 bN.out).mono ?_;rintro e w1 ⟨rfl,aJ⟩;have J:Hid (w.grownBy w1 none):=il (bj _) aJ;have bf:w1.heap[w.heap.size]?=some (.cells #[.slice ao p.length ae] 37 (0,0)):=by
  rw [aJ.block w.heap.size (by simp) (by simp)];exact heap_alloc_new w _
 have c0:w1.cell? ⟨w.heap.size,0,none⟩=some (.slice ao p.length ae):=by simp [World.cell?,bf]
 clear bf aJ;by_cases G:vProg p=true
 ·have T:checkN p=0:=by simp [checkN,G]
  have HV:=ij G;rw [T];clear T G;by_cases h5:s.length<=500
  ·have bV:(s.length:Int)<=500:=by omega
   have C:Hid (checkRunN p s=0):=by unfold Hid checkRunN;simp [HV.out,h5]
   by_cases hf:fuel<0
   ·go_wp2_with fail
    exact bodyPost_ret (v:= .tuple #[.slice none 0 0,.int .i64 0,.int .i64 2]) (by simp [results,Tryz.results33,go_sem]) rfl ⟨J.out,Or.inr (Or.inl ⟨C.out,hf,rfl⟩)⟩
   ·have bh:0<=fuel:=by omega
    have R:=ij (ms w1 ao ae p (.slice Y s.length L) s HV.out (HP.out.pres (ip J.out)) ((HI.out.pres (ip J.out)).mono J.out.size) (by omega));go_wp2_with fail
    refine(kI R).mono ?_;clear R;rintro e A ⟨b,ab,rb,st,rfl,N⟩;obtain⟨x1,x2,x3,rfl⟩:=iw N.row;have cc:=iB N.row;subst cc;have P:Hid (w.grownBy A none):=il J.out N.frame;obtain⟨bP,a6,a7,a8,_,_,_⟩:=N.vcells;have bH:=ij (ip N.frame _ _ c0);have bO:Hid (∀ u,A.grownBy u none->u.cell? ⟨b,11,none⟩=some (.int .i64 (runS p s).kind)/\u.cell? ⟨b,12,none⟩=some (.int .i64 (runS p s).thread)/\u.cell? ⟨b,13,none⟩=some (.int .i64 (runS p s).at_)):=fun u hu=>⟨ip hu _ _ a6,ip hu _ _ a7,ip hu _ _ a8⟩
    have aR:=ij (vb p s);have hln:=oG p s;have a5:Hid (∀ n,shortS p s n=shr p (runS p s) n (s.take (cameTo (runS p s))) 0 0):=fun n=>rfl
    clear N c0 a7 a8;have hcl:=aR.out.2;generalize hO:runS p s=o at*;clear hO;obtain⟨f,aH⟩:∃ f:Nat,f=cameTo o:=⟨_,rfl⟩;rw [<-aH]at hcl a5;have aQ:=ij aH;clear aH aR;have hl1:(o.steps.length:Int)<=500:=by omega
    go_upto_if 42 with fail
    go_cut [11] (fun nv w'=>nv= .int .i64 (f:Int)/\w'=A)
    case first=>
     by_cases hk:o.kind=2
     ·have hc:f=o.steps.length+1:=by rw [aQ.out];unfold cameTo;rw [if_pos hk]
      have HC:=ij hc;clear hc;go_wp2_with fail
      go_meet
      exact⟨by rw [HC.out];go_num,rfl⟩
     ·have hk2:(o.kind==2)=false:=by simpa using hk
      have hc:f=o.steps.length:=by rw [aQ.out];unfold cameTo;rw [if_neg hk]
      have HC:=ij hc;clear hc hk;go_wp2_with fail
      go_meet
      exact⟨by rw [HC.out],rfl⟩
    case rest=>
    obtain⟨rfl,ca⟩:=hcut;have cb:=ca.symm;subst cb;have a0:Hid (IntsAt A.heap.size A (.slice Y f L) (s.take f)):=((HI.out.pres (ip P.out)).mono P.out.size).front hcl;have a4:Hid (Y=none->f=0/\L=0):=fun e=>by
     have:=HN.out s.length L (by rw [e]);omega
    have K:Hid (∀ ad,Y=some ad->∀ j u,(ints (s.take f))[j]?=some u->A.cell? (ad.add j)=some u):=oL a0.out;have aK:(ints (s.take f)).length=f*1:=by rw [jc];simp;omega
    have bb:0+f<=maxLen:=by unfold maxLen;omega
    have q0:(f:Int)<=L:=by omega
    have q1:(0:Int)<=(f:Int):=by omega
    have b5:=P.out.size;clear bP a6;go_upto_region 12 with (at_builtin;refine jk rfl _ _ _ rfl w.heap.size 3 i0 _ 1 8 Tryz.underlying39 ai am an ap rfl (by omega) (.slice none 0 0) 0 [] rfl ⟨rfl,Or.inl ⟨rfl,rfl⟩⟩ Y f L (ints (s.take f)) rfl aK a4.out K.out (lz _) bb (by omega) b5 ?_;intro z1 z2 z3 w3 aM bk)
    simp only [Nat.zero_add,List.nil_append]at aM;have bt:(s.take f).length=f:=by simp;omega
    have a3:Hid (w3.ownsRow w.heap.size 3 1 (.slice z1 z2 z3) (s.take f).length (ints (s.take f))):=by unfold Hid;rw [bt];exact aM
    have aU:Hid (A.grownBy w3 none):=bk;have bZ:(s.take f).length<=500:=by omega
    clear aM bk aK bb a4 K a0 bt;go_wp2_with fail
    go_loopw [12,13,14] (fun lv uv kv w'=>∃ (l:List Int) (i u:Nat),uv= .int .i64 u/\kv= .int .i64 i/\l.length<=500/\i<=l.length/\(u:Int)<=fuel/\Hid (w'.ownsRow w.heap.size 3 1 lv l.length (ints l))/\Hid (A.grownBy w' none)/\Hid (shr p o (fuel.toNat - u) l i u=shr p o fuel.toNat (s.take f) 0 0)) (fun _ uv _ _=>fuel.toNat - (intOf uv).toNat)
    case atStart=>exact⟨s.take f,0,0,rfl,rfl,bZ,Nat.zero_le _,by omega,a3,aU,rfl⟩
    case round=>
     clear a3 aU;obtain⟨l,i,u,rfl,rfl,b1,aK,hu,E,Z,HS⟩:=hrel;obtain⟨t,bv⟩:∃ t,t=wr:=⟨_,rfl⟩;rw [<-bv]at E Z ⊢;clear bv;have r0:(0:Int)<=(i:Int):=by omega
     have r1:(0:Int)<=(u:Int):=by omega
     have r2:(l.length:Int)<=500:=by omega
     by_cases bY:i<l.length/\(u:Int)<fuel
     ·obtain⟨aL,huf⟩:=bY;obtain⟨r,k,b9⟩:∃ r k,u12= .slice (some ⟨r,0,none⟩) l.length k:=by
       rcases E.out.2 with ⟨_,e⟩ | ⟨r,k,_,e,_⟩
       ·omega
       ·exact⟨r,k,e⟩
      subst b9;have az:=ij (iV E.out);have hcp:l.length<=k:=by
       obtain⟨a,c,e,h1,_⟩:=az.out;simp only [Value.slice.injEq]at e;omega
      have r3:(i:Int)<l.length:=by omega
      have r4:(i:Int)<=k:=by omega
      have r5:(i:Int)+1<=l.length:=by omega
      have r6:(l.length:Int)<=k:=by omega
      have bq:fuel.toNat - u=(fuel.toNat - (u+1))+1:=by omega
      have S:Hid (shr p o fuel.toNat (s.take f) 0 0=if likeV (runS p (leftOut l i)) o=true then shr p o (fuel.toNat - (u+1)) (leftOut l i) 0 (u+1) else shr p o (fuel.toNat - (u+1)) l (i+1) (u+1)):=by
       unfold Hid;rw [<-HS.out,bq,shr,if_pos aL]
      have bo:=lD aL;have aA:=ij bo;have b6:w.heap.size<=t.heap.size:=by have:=Z.out.size;omega
      have K:Hid (∀ ad,some (⟨r,0,none⟩:Addr)=some ad->∀ j v,(ints (l.take i))[j]?=some v->t.cell? (ad.add j)=some v):=oL (IntsAt.front az.out (by omega));have bm:(ints (l.take i)).length=i*1:=by rw [jc];simp;omega
      have bc:0+i<=maxLen:=by unfold maxLen;omega
      clear HS bq bo;go_upto_region 17 with (at_builtin;refine jk rfl _ _ _ rfl t.heap.size 3 i0 _ 1 8 Tryz.underlying39 ai am an ap rfl (by omega) (.slice none 0 0) 0 [] rfl ⟨rfl,Or.inl ⟨rfl,rfl⟩⟩ (some ⟨r,0,none⟩) i k (ints (l.take i)) rfl bm (fun e=>by cases e) K.out (lz _) bc (by omega) (Nat.le_refl _) ?_;intro ta tn tc w6 aN W)
      simp only [Nat.zero_add,List.nil_append]at aN;have Q:=ij aN;have ax:Hid (t.grownBy w6 none):=W;have aP:t.heap.size<=w6.heap.size:=W.size;have a1:Hid (IntsAt w6.heap.size w6 (.slice (some ⟨r,0,none⟩) l.length k) l):=(az.out.pres (ip W)).mono W.size;have aI:ints (l.take i)++ints (l.drop (i+1))=ints (leftOut l i):=by simp [ints,leftOut]
      have bi:i+(l.length - (i+1))=(leftOut l i).length:=by have:=aA.out;omega
      have bd:i+(l.length - (i+1))<=maxLen:=by unfold maxLen;omega
      have bn:(ints (l.drop (i+1))).length=(l.length - (i+1))*1:=by rw [jc];simp
      clear aN W bm bc K;go_cut [15] (fun tv w'=>Hid (w'.ownsRow t.heap.size 3 1 tv (leftOut l i).length (ints (leftOut l i))/\t.grownBy w' none))
      case first=>
       by_cases hsk:k - (i+1)=0
       ·have bl:k=i+1:=by omega
        have bg:l.drop (i+1)=[]:=List.drop_of_length_le (by omega);have I:Hid (ints (leftOut l i)=ints (l.take i)/\(leftOut l i).length=i):=⟨by rw [<-aI,bg];simp [ints],by omega⟩;clear bg;subst bl;go_wp2_with (at_builtin;refine jk rfl _ _ _ rfl t.heap.size 3 i0 _ 1 8 Tryz.underlying39 ai am an ap rfl (by omega) (.slice ta tn tc) i (ints (l.take i)) rfl Q.out (some ⟨r,0,none⟩) 0 0 [] rfl rfl (fun e=>by cases e) (fun ad e j v hj=>by simp at hj) (fun v G=>by cases G) (by omega) (by omega) aP ?_;intro tb tm td H aO F)
        go_meet
        exact⟨by rw [I.out.1,I.out.2];simpa using aO,iZ ax.out F (fun q e=>iA Q.out q e)⟩
       ·have bI:Hid (IntsAt w6.heap.size w6 (.slice (some ⟨r,i+1,none⟩) (l.length - (i+1)) (k - (i+1))) (l.drop (i+1))):=uP a1.out aL;have K:Hid (∀ ad,some (⟨r,i+1,none⟩:Addr)=some ad->∀ j v,(ints (l.drop (i+1)))[j]?=some v->w6.cell? (ad.add j)=some v):=oL bI.out;have bl:¬k=i+1:=by omega
        go_wp2_with (at_builtin;refine jk rfl _ _ _ rfl t.heap.size 3 i0 _ 1 8 Tryz.underlying39 ai am an ap rfl (by omega) (.slice ta tn tc) i (ints (l.take i)) rfl Q.out (some ⟨r,i+1,none⟩) (l.length - (i+1)) (k - (i+1)) (ints (l.drop (i+1))) rfl bn (fun e=>by cases e) K.out (lz _) bd (by omega) aP ?_;intro tb tm td H aO F)
        go_meet
        exact⟨by rw [<-aI,<-bi];exact aO,iZ ax.out F (fun q e=>iA Q.out q e)⟩
      case rest=>
      obtain⟨X,F⟩:=hcut.out;clear hcut Q ax a1 aI bi bd bn aP;obtain⟨H,bw⟩:∃ H,H=wc:=⟨_,rfl⟩;rw [<-bw]at X F ⊢;clear bw;obtain⟨t1,t2,t3,ht⟩:=iw X;subst ht;have bM:=ij X;have bJ:=ij F;have aw:Hid (A.grownBy H none):=il Z.out F;have bK:Hid (w.grownBy H none):=il P.out aw.out;have c7:=ip aw.out _ _ bH.out;have R:=ij (ms H ao ae p (.slice t1 t2 t3) (leftOut l i) HV.out (HP.out.pres (ip bK.out)) (iV X) (by have:=aA.out;omega));clear X F;go_wp2_with fail
      refine(kI R).mono ?_;clear R c7;rintro e M ⟨b8,ab8,rb8,st8,rfl,aG⟩;obtain⟨_,k1,k2,k3,_,_,_⟩:=aG.vcells;have aW:=ij aG.frame;have D:=ij (ww (runS p (leftOut l i)) o);have a2:Hid (∃ y,y=likeV (runS p (leftOut l i)) o):=⟨_,rfl⟩;clear aG;generalize hq:runS p (leftOut l i)=q at*;obtain⟨y,be⟩:=a2.out;rw [<-be]at S D;clear a2 be hq;go_upto_region 20 with fail
      obtain⟨B,al⟩:∃ B,B=M.alloc (.cells #[.int .i64 q.kind,.int .i64 q.thread,.int .i64 q.at_] 26):=⟨_,rfl⟩;have aX:Hid (M.grownBy B none):=by unfold Hid;rw [al];exact iq (ir _ _)
      have zb:B.heap[M.heap.size]?=some (.cells #[.int .i64 q.kind,.int .i64 q.thread,.int .i64 q.at_] 26 (0,0)):=by rw [al];exact heap_alloc_new M _
      rw [<-al];clear al k1 k2 k3;have aT:Hid (A.grownBy B none):=il aw.out (il aW.out aX.out);obtain⟨m1,m2,m3⟩:=bO.out B aT.out;have n0:B.cell? ⟨M.heap.size,0,none⟩=some (.int .i64 q.kind):=by simp [World.cell?,zb]
      have n1:B.cell? ⟨M.heap.size,1,none⟩=some (.int .i64 q.thread):=by simp [World.cell?,zb]
      have n2:B.cell? ⟨M.heap.size,2,none⟩=some (.int .i64 q.at_):=by simp [World.cell?,zb]
      clear zb;generalize q.kind=qk at*;generalize q.thread=qt at*;generalize q.at_=qa at*;generalize o.kind=ok at*;generalize o.thread=ot at*;generalize o.at_=oa at*;go_cut [96] (fun x w'=>x= .bool y/\Hid (B.grownBy w' none))
      case first=>
       by_cases U:qk=ok
       ·subst U;by_cases e2:qt=ot
        ·subst e2;by_cases e3:qa=oa
         ·subst e3;have m:Hid (y=true):=by unfold Hid;rw [D.out];simp
          go_quiet (fail)
          go_wp2_with fail
          go_meet
          exact⟨by rw [m.out],j0 _⟩
         ·have bS:(qa==oa)=false:=by simpa using e3
          by_cases z:qk=2
          ·subst z;have m:Hid (y=true):=by unfold Hid;rw [D.out];simp
           clear e3;go_quiet (fail)
           go_wp2_with fail
           go_meet
           exact⟨by rw [m.out],j0 _⟩
          ·have V:(qk==2)=false:=by simpa using z
           have m:Hid (y=false):=by unfold Hid;rw [D.out];simp [bS,V]
           clear e3 z;go_quiet (fail)
           go_wp2_with fail
           go_meet
           exact⟨by rw [m.out],j0 _⟩
        ·have bR:(qt==ot)=false:=by simpa using e2
         by_cases z:qk=2
         ·subst z;have m:Hid (y=true):=by unfold Hid;rw [D.out];simp
          clear e2;go_quiet (fail)
          go_wp2_with fail
          go_meet
          exact⟨by rw [m.out],j0 _⟩
         ·have V:(qk==2)=false:=by simpa using z
          have m:Hid (y=false):=by unfold Hid;rw [D.out];simp [bR,V]
          clear e2 z;go_quiet (fail)
          go_wp2_with fail
          go_meet
          exact⟨by rw [m.out],j0 _⟩
       ·have a9:(qk==ok)=false:=by simpa using U
        by_cases z:qk=2
        ·subst z;have bT:(ok==2)=false:=by simpa using fun h:ok=2=>U h.symm
         have m:Hid (y=false):=by unfold Hid;rw [D.out];simp [a9,bT]
         clear U;go_quiet (fail)
         go_wp2_with fail
         go_meet
         exact⟨by rw [m.out],j0 _⟩
        ·have V:(qk==2)=false:=by simpa using z
         have m:Hid (y=false):=by unfold Hid;rw [D.out];simp [a9,V]
         clear U z;go_quiet (fail)
         go_wp2_with fail
         go_meet
         exact⟨by rw [m.out],j0 _⟩
      case rest=>
      obtain⟨rfl,ay⟩:=hcut;obtain⟨O,bu⟩:∃ O,O=wc:=⟨_,rfl⟩;rw [<-bu]at ay ⊢;clear bu m1 m2 m3 n0 n1 n2 D;have aS:Hid (A.grownBy O none):=il aT.out ay.out;have aV:Hid (H.grownBy O none):=il aW.out (il aX.out ay.out);have huf':(u:Int)+1<=fuel:=by omega
      cases y with
      | true=>
       have aE:Hid (shr p o (fuel.toNat - (u+1)) (leftOut l i) 0 (u+1)=shr p o fuel.toNat (s.take f) 0 0):=by unfold Hid;rw [S.out];rfl
       have aB:Hid (O.ownsRow w.heap.size 3 1 (.slice t1 t2 t3) (leftOut l i).length (ints (leftOut l i))):=iK (iC bM.out aV.out (fun _ e=>by cases e)) b6;clear S;go_wp2_with fail
       go_roundw
       case rel=>exact⟨leftOut l i,0,u+1,by go_num,rfl,by have:=aA.out;omega,Nat.zero_le _,by omega,aB,aS,aE⟩
       case measure=>simp [intOf];omega
      | false=>
       have aE:Hid (shr p o (fuel.toNat - (u+1)) l (i+1) (u+1)=shr p o fuel.toNat (s.take f) 0 0):=by unfold Hid;rw [S.out];rfl
       have aB:Hid (O.ownsRow w.heap.size 3 1 (.slice (some ⟨r,0,none⟩) l.length k) l.length (ints l)):=iC (iC E.out bJ.out (fun _ e=>by cases e)) aV.out (fun _ e=>by cases e);clear S;go_wp2_with fail
       go_roundw
       case rel=>exact⟨l,i+1,u+1,by go_num,by go_num,b1,by omega,by omega,aB,aS,aE⟩
       case measure=>simp [intOf];omega
     ·have I:Hid (shortS p s fuel.toNat=(l,u)):=by
       unfold Hid;rw [a5.out,<-HS.out];cases hd:fuel.toNat - u with
       | zero=>rfl
       | succ d=>rw [shr,if_neg (by omega)]
      have aY:Hid (w.grownBy t none):=il P.out Z.out;obtain⟨l1,l2,l3,b2⟩:=iw E.out;subst b2;have b0:=iB E.out;subst b0;by_cases hA:(u:Int)<fuel
      ·have r7:(l.length:Int)<=(i:Int):=by omega
       go_wp2_with fail
       exact bodyPost_ret (v:= .tuple #[.slice l1 l.length l3,.int .i64 (u:Int),.int .i64 0]) (by simp [results,Tryz.results33,go_sem]) rfl ⟨aY.out,Or.inl ⟨C.out,bh,_,by rw [I.out],by rw [I.out];exact E.out⟩⟩
      ·have r7:fuel<=(u:Int):=by omega
       go_wp2_with fail
       exact bodyPost_ret (v:= .tuple #[.slice l1 l.length l3,.int .i64 (u:Int),.int .i64 0]) (by simp [results,Tryz.results33,go_sem]) rfl ⟨aY.out,Or.inl ⟨C.out,bh,_,by rw [I.out],by rw [I.out];exact E.out⟩⟩
  ·have bV:(500:Int)<s.length:=by omega
   have C:Hid (checkRunN p s=2):=by unfold Hid checkRunN;simp [HV.out,h5]
   go_wp2_with fail
   exact bodyPost_ret (v:= .tuple #[.slice none 0 0,.int .i64 0,.int .i64 2]) (by simp [results,Tryz.results33,go_sem]) rfl ⟨J.out,Or.inr (Or.inr ⟨by rw [C.out];decide,by rw [C.out]⟩)⟩
 ·have T:checkN p=1:=by simp [checkN,G]
  have C:Hid (checkRunN p s=1):=by unfold Hid checkRunN;simp [G]
  rw [T];clear T G;go_wp2_with fail
  exact bodyPost_ret (v:= .tuple #[.slice none 0 0,.int .i64 0,.int .i64 1]) (by simp [results,Tryz.results33,go_sem]) rfl ⟨J.out,Or.inr (Or.inr ⟨by rw [C.out];decide,by rw [C.out]⟩)⟩
end
end Go.Proofs.YtklenjmfalljgabGreatDoor
