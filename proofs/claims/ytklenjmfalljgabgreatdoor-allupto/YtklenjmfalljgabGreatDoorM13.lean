/- The texts Rfn Rfp Rfq Rfs. -/
import Derived.Test.YtklenjmfalljgabGreatDoorM05
import Derived.Test.YtklenjmfalljgabGreatDoorM06
import Derived.Test.YtklenjmfalljgabGreatDoorM12
namespace Go.Proofs.YtklenjmfalljgabGreatDoor
set_option maxRecDepth 100000
set_option maxHeartbeats 8000000
section
open Go.RowKit
attribute [local go_sem] Go.World.cell?_alloc_some
structure RunRead(w:World)(b:Nat)(p:List (List Ins))(xs:List Ev)(o:Out)(ao:Option Addr)(cap:Nat)(sao:Option Addr)(sc:Nat):Prop where
 prog:ProgAt w (.agg #[.slice ao p.length cap]) p
 c0:w.cell? ⟨b,0,none⟩=some (.slice ao p.length cap)
 c10:w.cell? ⟨b,10,none⟩=some (.slice sao xs.length sc)
 c11:w.cell? ⟨b,11,none⟩=some (.int .i64 o.kind)
 row:∃ base,w.ownsRow base 76 2 (.slice sao xs.length sc) xs.length (iS o.steps)
theorem RunRead.grown{w w':World}{b:Nat}{p:List (List Ins)}{xs:List Ev}{o:Out}{f:Option Addr}{i:Nat}{c:Option Addr}{d:Nat}(h:RunRead w b p xs o f i c d)(a:w.grownBy w' none):RunRead w' b p xs o f i c d:=by
 obtain⟨base,j⟩:=h.row;exact⟨h.prog.pres (iq a),iq a _ _ h.c0,iq a _ _ h.c10,iq a _ _ h.c11,base,iE j a (fun _ e=>by cases e)⟩
theorem rR{w w':World}(h:w.drew.grownBy w' none):w.grownBy w' none:=⟨h.os,h.tape,h.output,h.size,h.block⟩
theorem rq{w:World}(n:Nat):w.grownBy (w.drewN n) none:=iL (by have:=lj w n;exact this)
def tM(L:List Nat)(n:Nat):List Value:=L.map (fun x:Nat=>Value.int .i64 (x:Int))++List.replicate (n - L.length) (Value.int .i64 0)
theorem AT(L:List Nat)(n:Nat)(h:L.length<n):tM (L++[0]) n=tM L n:=by
 unfold tM;have e:n - L.length=(n - (L++[0]).length)+1:=by simp;omega
 rw [e,List.replicate_succ];simp
theorem xD(L:List Nat)(x y n:Nat):(tM (L++[x]) n).set L.length (.int .i64 (y:Int))=tM (L++[y]) n:=by
 unfold tM;have e:(L++[x]).length=(L++[y]).length:=by simp
 rw [e];simp
theorem sL(L:List Nat)(n k:Nat)(h:k<L.length):(tM L n)[k]?=some (.int .i64 (L[k]:Int)):=by
 unfold tM;rw [List.getElem?_append_left (by simpa using h)];simp [h]
structure LyIn(W w':World)(gl n:Nat)(L:List Nat):Prop where
 row:w'.heap[gl]?=some (.cells (tM L n).toArray 3 (0,0))
 gr:W.grownBy w' (some gl)
theorem LyIn.grown{W w w':World}{gl n:Nat}{L:List Nat}(h:LyIn W w gl n L)(hg:w.grownBy w' none):LyIn W w' gl n L:=
 ⟨by rw [hg.block _ (Array.getElem?_eq_some_iff.1 h.row).1 (by simp)];exact h.row,ip h.gr (lU hg)⟩
theorem uT{W w:World}{gl o:Nat}{u:Value}(h:W.grownBy w (some gl)):W.grownBy (w.setCell ⟨gl,o,none⟩ u) (some gl):=
 ⟨h.os,h.tape,h.output,by simpa using h.size,fun k hk hr=>by rw [Below.heap_setCell _ _ _ _ (by simpa using hr)];exact h.block k hk hr⟩
theorem LyIn.put{W w:World}{a n i:Nat}{L:List Nat}{x:Nat}(h:LyIn W w a n (L++[x]))(c:L.length=i)(y:Nat)(z:Int)(b:z=(y:Int)):LyIn W (w.setCell ⟨a,i,none⟩ (.int .i64 z)) a n (L++[y]):=by
 subst c b;refine⟨?_,uT h.gr⟩;rw [heap_setCell_same w a L.length _ _ _ h.row,<-xD L x y n];simp
theorem qS{p:List (List Ins)}{o:Out}{xs:List Ev}(hp:iV p=true)(aO:rx p o xs)(aK:xs.length<=500)(w:World)(b:Nat)(T:Option Addr)(P:Nat)(a2:Option Addr)(sc:Nat)(hR:RunRead w b p xs o T P a2 sc):
  Calls Tryz.prog 57 #[.pointer (some ⟨b,0,none⟩)] w fun e w'=>∃ v,e= .returned v/\w'.ownsRow w.heap.size 3 1 v (lI p xs).length (iM (lI p xs))/\w.grownBy w' none:=by
 obtain⟨i0,bh,bt,bB,bi⟩:=info_parts qZ;have E:=il hR;have HV:=il hp;have G:=il aO;have bo:=jA hp;have V:=hR.c10;have q0:(xs.length:Int)<=500:=by omega
 have q1:(0:Int)<=(xs.length:Int):=by omega
 clear hR hp aO;go_enter Tryz.func57,Tryz.ntmps57
 go_upto_region 3 with (at_make;refine wpList_make_full _ rfl _ _ _ rfl w.heap.size 3 i0 _ 1 Tryz.underlying39 bh bt bB .i64 .i64 _ _ xs.length rfl rfl rfl rfl (by rw [bi];omega) (by unfold maxLen;omega) (by simp) ?_;intro A a7 aE)
 have aA:A.heap[w.heap.size]?=some (.cells (List.replicate xs.length (Value.int .i64 0)).toArray 3 (0,0)):=by
  rcases a7.2 with ⟨e,_⟩ | ⟨g',cap',cur,hv,_,hh,_,_,hcs,L⟩
  ·cases e
  ·simp only [Value.slice.injEq,Option.some.injEq,Addr.mk.injEq,true_and,and_true]at hv;obtain⟨rfl,rfl⟩:=hv;rw [hh];have e1:cur.toList=List.replicate xs.length (Value.int .i64 0):=by
    have H:(madeCells #[Value.int .i64 0] (xs.length*1)).toList=List.replicate (xs.length*1) (Value.int .i64 0):=by
     apply List.ext_getElem (by simp [madeCells]);intro i h1 h2;simp only [madeCells,Array.toList_map,List.getElem_map,List.getElem_replicate,Array.toList_range,List.getElem_range];simp [Nat.mod_one]
    rw [Nat.mul_one]at H;rw [<-H];simp only [Value.cells,Nat.mul_one]at L hcs;rw [<-L,List.take_of_length_le (by simp;omega)]
   rw [<-e1]
 have HR3:Hid (RunRead A b p xs o T P a2 sc):=E.out.grown aE;have am:Hid (w.grownBy A none):=aE;have H0:Hid (LyIn A A w.heap.size xs.length (kl p xs 0)):=⟨by simpa [kl,tl,tM]using aA,iu _ _⟩;obtain⟨z,af⟩:∃ z,z=w.heap.size:=⟨_,rfl⟩;have hgl3:z<A.heap.size:=by rw [af];exact(Array.getElem?_eq_some_iff.1 aA).1
 have aD:Hid (∀ x v,w.cell? x=some v->∀ u,A.grownBy u (some z)->u.cell? x=some v):=fun x v hc u hu=>by
  have hx:=World.block_lt_of_cell? w _ hc;rw [World.cell?_of_block (hu.block x.block (Nat.lt_of_lt_of_le hx am.out.size) (by simp;omega))];exact iq am.out _ _ hc
 rw [<-af]at H0 ⊢;have br:=il af;clear a7 aE aA V af;go_wp2_with fail
 go_loopw [5] (fun iv w'=>∃ i:Nat,i<=xs.length/\iv= .int .i64 i/\Hid (LyIn A w' z xs.length (kl p xs i))) (fun iv _=>xs.length - (intOf iv).toNat)
 case atStart=>exact⟨0,Nat.zero_le _,rfl,H0⟩
 case round=>
  clear H0;obtain⟨i,hi,rfl,C⟩:=hrel;obtain⟨U,aY⟩:∃ U,U=wr:=⟨_,rfl⟩;rw [<-aY]at C ⊢;clear aY;by_cases ag:i<xs.length
  ·have t0:(0:Int)<=(i:Int):=by omega
   have t1:(i:Int)<xs.length:=by omega
   have bn:=pm p xs i hi;have H5:Hid (LyIn A U z xs.length (kl p xs i++[jj (jb p) ((tl (jb p) [] (xs.take i)).take 0) xs[i]])):=by
    have e:jj (jb p) ((tl (jb p) [] (xs.take i)).take 0) xs[i]=0:=by simp [jj]
    unfold Hid;rw [e]
    exact⟨by rw [AT _ _ (by omega)];exact C.out.row,C.out.gr⟩
   go_wp2_with fail
   go_loopw [6] (fun kv w'=>∃ k:Nat,k<=i/\kv= .int .i64 k/\Hid (LyIn A w' z xs.length (kl p xs i++[jj (jb p) ((tl (jb p) [] (xs.take i)).take k) xs[i]]))) (fun kv _=>i - (intOf kv).toNat)
   case atStart=>exact⟨0,Nat.zero_le _,rfl,H5⟩
   case round=>
    clear H5 C;obtain⟨k,hk,rfl,S⟩:=hrel;obtain⟨w6,aN⟩:∃ w6,w6=wr:=⟨_,rfl⟩;rw [<-aN]at S ⊢;clear aN;by_cases bC:k<i
    ·have a6:k<xs.length:=by omega
     obtain⟨al,a4,bw⟩:=G.out.th _ (List.getElem_mem ag);obtain⟨L,ba,bv⟩:=G.out.th _ (List.getElem_mem a6);obtain⟨base,W⟩:=E.out.row;obtain⟨g,hg,s0,s1⟩:=qA W G.out.st ag;obtain⟨g',az,r0,r1⟩:=qA W G.out.st a6;rw [hg]at az;simp only [Option.some.injEq,Addr.mk.injEq,and_true]at az;subst az hg;obtain⟨Z,O⟩:=Int.eq_ofNat_of_zero_le a4;obtain⟨X,aH⟩:=Int.eq_ofNat_of_zero_le ba;have I:=il (AM G.out bC ag);have R:=il (zX (jb p) (tl (jb p) [] (xs.take i)) xs[i] k (by rw [jB];simp;omega));have aQ:((tl (jb p) [] (xs.take i))[k]'(by rw [jB];simp;omega)).1=xs[k]:=by
      have h1:=sT (jb p) [] (xs.take i);have h2:((tl (jb p) [] (xs.take i)).map (·.1))[k]'(by rw [h1];simp;omega)=(xs.take i)[k]'(by simp;omega):=by congr 1
      simpa using h2
     rw [aQ]at R;have aw:(kl p xs i)[k]'(by omega)=((tl (jb p) [] (xs.take i))[k]'(by rw [jB];simp;omega)).2:=by simp [kl]
     have bf:=il aw;have aV:=vj p (xs.take i) xs[i] k;have hcur':jj (jb p) ((tl (jb p) [] (xs.take i)).take k) xs[i]<=500:=by simp at aV;omega
     have hlk5:(kl p xs i)[k]'(by omega)<=500:=by
      rw [aw];have:=oN (jb p) (xs.take i) [] 0 (by simp) k _ (List.getElem?_eq_getElem (by rw [jB];simp;omega));omega
     have aM:lH (jw p xs[i].t (Z:Int)) (iP p xs[i].t).length=true:=l9 HV.out al (by simp;omega);have aR:lH (jw p xs[k].t (X:Int)) (iP p xs[k].t).length=true:=l9 HV.out L (by simp;omega);have aB:=vK aM;have ar:=vK aR;have aU:=il (xW (i:=jw p xs[k].t (X:Int)) (j:=jw p xs[i].t (Z:Int)) ar.1 ar.2.2.1 aB.1 aB.2.2.1);rw [O,aH]at I;rw [<-aU.out]at I;have B:∀ x v,w.cell? x=some v->w6.cell? x=some v:=fun x v hc=>aD.out x v hc w6 S.out.gr
     have aI:=B _ _ s0;have ah:=B _ _ s1;have ax:=B _ _ r0;have ak:=B _ _ r1;rw [O]at ah;rw [aH]at ak;have c0:=B _ _ E.out.c0;have V:=B _ _ E.out.c10;have bb:=B _ _ E.out.c11;have a0:Hid (ProgAt w6 (.agg #[.slice T p.length P]) p):=E.out.prog.pres B;have a8:=il (fun(u:World) (hu:w6.grownBy u none)=>Dg u (.agg #[.slice T p.length P]) (a0.out.pres (iq hu)) bo.2 xs[k].t X xs[i].t Z L (by omega) al (by omega) (kW (kg HV.out L)) (kW (kg HV.out al)));clear s0 s1 r0 r1 W aB ar aM aR B aV aw aQ a4 bw ba bv O aH aU a0;generalize bk:xs[i]=xi at*;generalize bq:xs[k]=xk at*;clear bk bq;generalize jw p xk.t (X:Int)=ik at*;generalize jw p xi.t (Z:Int)=ii at*;have u0:(0:Int)<=(k:Int):=by omega
     have u1:(k:Int)<(i:Int):=by omega
     have u2:(k:Int)<(xs.length:Int):=by omega
     go_upto_region 9 with fail
     refine iA (fun u=>u.cell? ⟨b,0,none⟩=some (.slice T p.length P)/\u.cell? ⟨b,10,none⟩=some (.slice (some ⟨g,0,none⟩) xs.length sc)/\u.cell? ⟨g,k*2,none⟩=some (.int .i64 (xk.t:Int))/\u.cell? ⟨g,k*2+1,none⟩=some (.int .i64 (X:Int))/\u.cell? ⟨g,i*2,none⟩=some (.int .i64 (xi.t:Int))/\u.cell? ⟨g,i*2+1,none⟩=some (.int .i64 (Z:Int))) 19 (by kernel_rfl) (by kernel_rfl) ⟨c0,V,ax,ak,aI,ah⟩ ?_;intro d;refine ij 0 ?va0 rfl (by kernel_rfl) (fun _ _ _ h=>h) (by rfl) ?ya0 d ?_
     case ya0=>(rintro u ⟨n,s,l,f,m,r⟩;go_simp;try rfl)
     simp only [Act.put,List.setIfInBounds_toArray];refine ij 1 ?va1 rfl (by kernel_rfl) (fun _ _ _ h=>h) (by rfl) ?ya1 d ?_
     case ya1=>(rintro u ⟨n,s,l,f,m,r⟩;go_simp;try rfl)
     simp only [Act.put];refine ij 2 ?va2 rfl (by kernel_rfl) (fun _ _ _ h=>h) (by rfl) ?ya2 d ?_
     case ya2=>(rintro u ⟨n,s,l,f,m,r⟩;go_simp;try rfl)
     simp only [Act.put];refine ij 3 ?va3 rfl (by kernel_rfl) (fun _ _ _ h=>h) (by rfl) ?ya3 d ?_
     case ya3=>(rintro u ⟨n,s,l,f,m,r⟩;go_simp;try rfl)
     simp only [Act.put];refine ij 4 ?va4 rfl (by kernel_rfl) (fun _ _ _ h=>h) (by rfl) ?ya4 d ?_
     case ya4=>(rintro u ⟨n,s,l,f,m,r⟩;go_simp;try rfl)
     simp only [Act.put];refine ij 5 ?va5 rfl (by kernel_rfl) (fun _ _ _ h=>h) (by rfl) ?ya5 d ?_
     case ya5=>(rintro u ⟨n,s,l,f,m,r⟩;go_simp;try rfl)
     simp only [Act.put];refine ij 6 ?va6 rfl (by kernel_rfl) (fun _ _ _ h=>h) (by rfl) ?ya6 d ?_
     case ya6=>(rintro u ⟨n,s,l,f,m,r⟩;go_simp;try rfl)
     simp only [Act.put];refine ij 7 ?va7 rfl (by kernel_rfl) (fun _ _ _ h=>h) (by rfl) ?ya7 d ?_
     case ya7=>(rintro u ⟨n,s,l,f,m,r⟩;go_simp;try rfl)
     simp only [Act.put];refine ij 8 ?va8 rfl (by kernel_rfl) (fun _ _ _ h=>h) (by rfl) ?ya8 d ?_
     case ya8=>(rintro u ⟨n,s,l,f,m,r⟩;go_simp;try rfl)
     simp only [Act.put];refine ij 9 ?va9 rfl (by kernel_rfl) (fun _ _ _ h=>h) (by rfl) ?ya9 d ?_
     case ya9=>(rintro u ⟨n,s,l,f,m,r⟩;go_simp;try rfl)
     simp only [Act.put];refine ij 10 ?va10 rfl (by kernel_rfl) (fun _ _ _ h=>h) (by rfl) ?ya10 d ?_
     case ya10=>(rintro u ⟨n,s,l,f,m,r⟩;go_simp;try rfl)
     simp only [Act.put];refine ij 11 ?va11 rfl (by kernel_rfl) (fun _ _ _ h=>h) (by rfl) ?ya11 d ?_
     case ya11=>(rintro u ⟨n,s,l,f,m,r⟩;go_simp;try rfl)
     simp only [Act.put];refine ij 12 ?va12 rfl (by kernel_rfl) (fun _ _ _ h=>h) (by rfl) ?ya12 d ?_
     case ya12=>(rintro u ⟨n,s,l,f,m,r⟩;go_simp;try rfl)
     simp only [Act.put];refine ij 13 ?va13 rfl (by kernel_rfl) (fun _ _ _ h=>h) (by rfl) ?ya13 d ?_
     case ya13=>(rintro u ⟨n,s,l,f,m,r⟩;go_simp;try rfl)
     simp only [Act.put];refine ij 14 ?va14 rfl (by kernel_rfl) (fun _ _ _ h=>h) (by rfl) ?ya14 d ?_
     case ya14=>(rintro u ⟨n,s,l,f,m,r⟩;go_simp;try rfl)
     simp only [Act.put];refine ij 15 ?va15 rfl (by kernel_rfl) (fun _ _ _ h=>h) (by rfl) ?ya15 d ?_
     case ya15=>(rintro u ⟨n,s,l,f,m,r⟩;go_simp;try rfl)
     simp only [Act.put];refine ij 16 ?va16 rfl (by kernel_rfl) (fun _ _ _ h=>h) (by rfl) ?ya16 d ?_
     case ya16=>(rintro u ⟨n,s,l,f,m,r⟩;go_simp;try rfl)
     simp only [Act.put];refine ij 17 ?va17 rfl (by kernel_rfl) (fun _ _ _ h=>h) (by rfl) ?ya17 d ?_
     case ya17=>(rintro u ⟨n,s,l,f,m,r⟩;go_simp;try rfl)
     simp only [Act.put];refine iw (i:=18) rfl (by kernel_rfl) (by kernel_rfl) (by rfl) ?_;intro K18 aZ;have bd:=il aZ;clear aZ;go_simp;refine(a8.out _ (iz (iu _ _))).mono ?_;rintro e K ⟨rfl,aW⟩;have F:Hid (w6.grownBy K none):=rR aW;refine bd.out _ _ ⟨iq F.out _ _ c0,iq F.out _ _ V,iq F.out _ _ ax,iq F.out _ _ ak,iq F.out _ _ aI,iq F.out _ _ ah⟩ ?_;clear bd aW;try simp only [Act.put,List.setIfInBounds_toArray]
     refine iI rfl (by kernel_rfl) (by kernel_rfl) (by rfl) ?_;go_simp;have aS:=iq F.out _ _ bb;have ae:=il (S.out.grown F.out);clear d c0 V bb ax ak aI ah a8 S;generalize bE:(xk.t==xi.t || nP ik ii)=dd at*;clear bE;obtain⟨J,av⟩:∃ J:Bool,J=(decide (o.kind=1) && decide (i+1=xs.length)):=⟨_,rfl⟩;rw [<-av]at I;have ab:=il av;clear av;go_upto_region 10 with fail
     go_cut [59] (fun q w'=>q= .bool J/\w'=K)
     case first=>
      by_cases H:o.kind=1
      ·rw [H]at aS;by_cases e1:i+1=xs.length
       ·have e3:(xs.length:Int) - 1=(i:Int):=by omega
        have Q:J=true:=by rw [ab.out];simp [e1,H]
        go_wp2_with fail
        all_goals first | (go_meet;exact⟨by rw [Q],rfl⟩) | (exfalso;omega)
       ·have Q:J=false:=by rw [ab.out];simp [e1]
        have e4:((i:Int)==(xs.length:Int) - 1)=false:=by simp;omega
        go_wp2_with fail
        all_goals first | (go_meet;exact⟨by rw [Q],rfl⟩) | (exfalso;omega)
      ·have Q:J=false:=by rw [ab.out];simp [H]
       have hb2:(o.kind==1)=false:=by simpa using H
       go_wp2_with fail
       all_goals first | (go_meet;exact⟨by rw [Q],rfl⟩) | (exfalso;omega)
     case rest=>
     obtain⟨rfl,aJ⟩:=hcut;have aC:=aJ.symm;subst aC;obtain⟨D,hD⟩:∃ D:Bool,D=jb p xk xi:=⟨_,rfl⟩;rw [<-hD]at I R;clear hD;go_upto_if 59 with fail
     go_cut [7] (fun q w'=>q= .bool D/\w'=K)
     case first=>
      cases J with
      | true=>
       have ap:D=true:=by rw [I.out];rfl
       go_wp2_with fail
       go_meet
       exact⟨by rw [ap],rfl⟩
      | false=>
       have ap:D=dd:=by rw [I.out];rfl
       go_wp2_with fail
       go_meet
       exact⟨by rw [ap],rfl⟩
     case rest=>
     obtain⟨rfl,aJ⟩:=hcut;have aC:=aJ.symm;subst aC;clear aS ab I;rw [<-bf.out]at R;have bF:k<(kl p xs i).length:=by omega
     have HRS:=il (fun y:Nat=>xD (kl p xs i) (jj (jb p) ((tl (jb p) [] (xs.take i)).take k) xi) y xs.length);have ac:=ae.out.row;have ck:K.cell? ⟨z,k,none⟩=some (.int .i64 ((kl p xs i)[k]:Int)):=by
      simp only [World.cell?,ac];have:=sL (kl p xs i++[jj (jb p) ((tl (jb p) [] (xs.take i)).take k) xi]) xs.length k (by simp;omega);rw [List.getElem_append_left bF]at this;simpa using this
     have ci:K.cell? ⟨z,i,none⟩=some (.int .i64 (jj (jb p) ((tl (jb p) [] (xs.take i)).take k) xi:Int)):=by
      simp only [World.cell?,ac];have:=sL (kl p xs i++[jj (jb p) ((tl (jb p) [] (xs.take i)).take k) xi]) xs.length i (by simp;omega);have e:(kl p xs i++[jj (jb p) ((tl (jb p) [] (xs.take i)).take k) xi])[i]'(by simp;omega)=jj (jb p) ((tl (jb p) [] (xs.take i)).take k) xi:=by
       rw [List.getElem_append_right (by omega)];simp
      rw [e]at this;simpa using this
     have fi:K.frozen? ⟨z,i,none⟩=false:=by simp [World.frozen?,ac]
     clear ac;generalize bH:(kl p xs i)[k]=lk at*;generalize hc:jj (jb p) ((tl (jb p) [] (xs.take i)).take k) xi=c at*;generalize a3:jj (jb p) ((tl (jb p) [] (xs.take i)).take (k+1)) xi=c1 at*;have an:=il a3;clear bH hc a3;have v0:(lk:Int)<=500:=by omega
     have v1:(c:Int)<=500:=by omega
     cases D with
     | false=>
      have Y:c1=c:=by have:=R.out;simpa using this
      go_wp2_with fail
      go_quiet (fail)
      go_wp2_with fail
      go_roundw
      case rel=>exact⟨k+1,by omega,by go_num,by rw [an.out,Y];exact ae.out.grown (rq _)⟩
      case measure=>simp [intOf];omega
     | true=>
      have hcm:c1=max c (lk+1):=by have:=R.out;simpa using this
      by_cases hle:c<=lk
      ·have v2:(c:Int)<=(lk:Int):=by omega
       have Y:c1=lk+1:=by omega
       go_wp2_with fail
       go_quiet (fail)
       go_wp2_with fail
       go_roundw
       case rel=>exact⟨k+1,by omega,by go_num,by rw [an.out,Y];exact LyIn.put (ae.out.grown (rq _)) bn (lk+1) _ (by omega)⟩
       case measure=>simp [intOf];omega
      ·have v2:(lk:Int)<(c:Int):=by omega
       have Y:c1=c:=by omega
       go_wp2_with fail
       go_quiet (fail)
       go_wp2_with fail
       go_roundw
       case rel=>exact⟨k+1,by omega,by go_num,by rw [an.out,Y];exact ae.out.grown (rq _)⟩
       case measure=>simp [intOf];omega
    ·have u1:(i:Int)<=(k:Int):=by omega
     have O:k=i:=by omega
     have bu:Hid (kl p xs (i+1)=kl p xs i++[jj (jb p) ((tl (jb p) [] (xs.take i)).take k) xs[i]]):=by unfold Hid;rw [O];exact yO p xs i ag
     clear O;go_wp2_with fail
     go_roundw
     case rel=>exact⟨i+1,by omega,by go_num,by rw [bu.out];exact S.out⟩
     case measure=>simp [intOf];omega
  ·have t1:(xs.length:Int)<=(i:Int):=by omega
   have bc:i=xs.length:=by omega
   have bg:=il bc;clear bc;go_upto_if 21 with fail
   refine wp_cond_false rfl ?_;refine wp_exit ?_;refine ‹∀ a w,Code.wp Tryz.prog _ _ a w->_› _ _ ?_;obtain⟨base,W⟩:=E.out.row;refine Ej (p:=p) aK (aD.out _ _ E.out.c10 U C.out.gr) ?_ ?_
   ·intro j N;obtain⟨g,hg,s0,s1⟩:=qA W G.out.st N;have bx:j<(kl p xs xs.length).length:=by rw [pm _ _ _ (Nat.le_refl _)];exact N
    have al:=(G.out.th _ (List.getElem_mem N)).1;refine⟨g,(kl p xs xs.length)[j],xs[j].t,?_,hg,?_,aD.out _ _ s0 U C.out.gr,Nat.le_trans (DI p xs j N) aK,by omega⟩
    ·rw [List.getElem?_eq_getElem (by rw [qV];exact N),Dt p xs j N]
    ·have M:=C.out.row;rw [bg.out]at M;simp only [World.cell?,M];have:=sL (kl p xs xs.length) xs.length j bx;simpa using this
   ·intro z0 z1 z3 z4 z5 z6 z7 z8 z9 z10 z11 z12 z13 z14 z15 z16 z17 z18 z19 z20 z21 z22 z23 z24 z25 z26 z27 z28 z29 z30 z31 z32 z33 z34 z35 z36 z37 z38 z39 z40 z41 z42 z43 z44 z45 z46 z47 z48 z49 z50 z51 z52 z53 z54 z55 z56 z57 z58 z59 z60 z61 z62 z63 z64 z65 z66 z67 z68 z69 z70 z71 z72 z73 z74 z75 z76 z77 z78 z79 z80 z81 z82 z83 z84 z85 z86 z87 z88 z89 z90 z91 z92 z93 z94 z95 z96 z97 z98 z99 z100 z101 z102 z103 z104 z105 z106 z107 z108 z109 z110 z111 z112 z113 z114 z115 z116 v w' hO;have HO:=il hO;clear hO;go_ret;refine⟨v,rfl,?_,?_⟩
    ·have hf:=uL (p:=p) (xs:=xs) (fun e he=>by have:=(G.out.th e he).1;omega);have M:=HO.out.row;unfold nx at M;rw [<-hf]at M;exact iR M (by have:=C.out.gr.size;have:=am.out.size;omega)
    ·exact ip (pB am.out C.out.gr (by have:=br.out;omega)) HO.out.gr
theorem tF(l m:List Int)(v u:Value)(w:World)(K:IntsAt w.heap.size w v l)(C:IntsAt w.heap.size w u m)(hln:l.length<=9223372036854775806):
  Calls Tryz.prog 61 #[v,u] w fun e w'=>e= .returned (.bool (l==m))/\ju w' w:=by
 obtain⟨ao,cap,rfl,hcap,hc⟩:=K;obtain⟨bo,dap,rfl,hdap,p⟩:=C;by_cases h:l.length=m.length
 ·have G:=il hc;have B:=il p;clear hc p;have D:(l.length:Int)=m.length:=by omega
  have I:((l.length:Int) !=(m.length:Int))=false:=by simp;omega
  have z:=il h;go_enter Tryz.func61,Tryz.ntmps61
  clear h D;go_wp2_with fail
  go_loopw [5] (fun i w'=>∃ k:Nat,k<=l.length/\i= .int .i64 k/\Hid (ju w' w)/\Hid (l.take k=m.take k)) (fun i _=>l.length - (intOf i).toNat)
  case atStart=>exact⟨0,Nat.zero_le _,rfl,il (zA _),by simp [Hid]⟩
  case round=>
   obtain⟨k,hk,rfl,f,A⟩:=hrel;obtain⟨d,F⟩:∃ d,d=wr:=⟨_,rfl⟩;subst F;by_cases t:k<l.length
   ·have s:k<m.length:=by have:=z.out;omega
    obtain⟨g,o,rfl,_,c0⟩:=G.out k t;obtain⟨g2,H,rfl,_,c1⟩:=B.out k s;have q:∀ a,d.cell? a=w.cell? a:=fun a=>by simp [World.cell?,f.out.1]
    have d0:d.cell? ⟨g,o+k,none⟩=some (.int .i64 l[k]):=by rw [q];exact c0
    have d1:d.cell? ⟨g2,H+k,none⟩=some (.int .i64 m[k]):=by rw [q];exact c1
    have hk0:(0:Int)<=(k:Int):=by omega
    have hk1:(k:Int)<l.length:=by omega
    have hk2:(k:Int)<m.length:=by omega
    have n:Hid (l.take (k+1)=l.take k++[l[k]]):=List.take_succ_eq_append_getElem t;have j:Hid (m.take (k+1)=m.take k++[m[k]]):=List.take_succ_eq_append_getElem s;clear q c0 c1;by_cases b:l[k]=m[k]
    ·have E:(l[k] !=m[k])=false:=by simpa using b
     have J:Hid (l.take (k+1)=m.take (k+1)):=by unfold Hid;rw [n.out,j.out,A.out,b]
     clear b n j;generalize l[k]=x at*;generalize m[k]=y at*;go_wp2_with fail
     go_quiet (fail)
     go_wp2_with fail
     go_roundw
     case rel=>exact⟨k+1,by omega,by go_num,il (vp f.out _),J⟩
     case measure=>simp [intOf];omega
    ·have E:(l[k] !=m[k])=true:=by simpa using b
     have c:Hid ((l==m)=false):=by
      unfold Hid;simp only [beq_eq_false_iff_ne];intro e;apply b;simp [e]
     clear b n j;generalize l[k]=x at*;generalize m[k]=y at*;go_wp2_with fail
     go_quiet (fail)
     go_wp2_with fail
     go_ret;exact⟨by rw [c.out];rfl,vp f.out _⟩
   ·have c:Hid ((l==m)=true):=by
     unfold Hid;have r:=A.out;rw [List.take_of_length_le (by omega),List.take_of_length_le (by have:=z.out;omega)]at r;simpa using r
    have q2:(l.length:Int)<=(k:Int):=by omega
    go_wp2_with fail
    go_ret;exact⟨by rw [c.out];rfl,f.out⟩
 ·have c:Hid ((l==m)=false):=by
   unfold Hid;simp only [beq_eq_false_iff_ne];intro e;exact h (by rw [e])
  have I:((l.length:Int) !=(m.length:Int))=true:=by simp;omega
  clear hc p;go_enter Tryz.func61,Tryz.ntmps61
  go_wp2_with fail
  go_ret;exact⟨by rw [c.out];rfl,zA _⟩
theorem uS{w a:World}{b j l:Nat}{p:List (List Ins)}{e:Option Addr}{d:Nat}{f:Value}{o:Out}{xs:List Ev}(h:RunAt w a b j l p.length (.slice e p.length d) f o.st o.steps o.kind o.thread o.at_)(m:rx p o xs)(i:ProgAt a (.agg #[.slice e p.length d]) p):
  ∃ sao sc,f= .slice sao xs.length sc/\RunRead a b p xs o e d sao sc:=by
 obtain⟨x1,x2,x3,rfl⟩:=iy h.row;have k:o.steps.length=xs.length:=by rw [m.st,List.length_map]
 have c:=h.row;rw [k]at c;have n:=iC c;subst n;exact⟨x1,x3,rfl,i,(h.cell 0).1,(h.cell 10).1,(h.cell 11).1,_,c⟩
theorem Bd(p:List (List Ins))(s:List Int)(pv sv:Value)(w:World)(u:ProgAt w pv p)(x:IntsAt w.heap.size w sv s)(L:p.length<=5864062014634)(G:∀ c∈p,c.length<=4398046510976):
  Calls Tryz.prog 29 #[pv,sv] w (Formd p s w):=by
 have q:=il u;have N:=il x;have S:=il G;obtain⟨n,l,rfl⟩:=u.form;obtain⟨so,sc,rfl⟩:=x.form;clear u x G;go_enter Tryz.func29,Tryz.ntmps29
 go_wp2_with fail
 have H:∀ a,w.grownBy (w.alloc a) none:=fun a=>ir (iu _ _)
 refine(mD p _ _ (q.out.pres (iq (H _))) L S.out).mono ?_;rintro e m ⟨rfl,o⟩;have f:Hid (w.grownBy m none):=ip (H _) o;have F:m.heap[w.heap.size]?=some (.cells #[.slice n p.length l] 37 (0,0)):=by
  rw [o.block w.heap.size (by simp) (by simp)];exact heap_alloc_new w _
 have c0:m.cell? ⟨w.heap.size,0,none⟩=some (.slice n p.length l):=by simp [World.cell?,F]
 clear F o;by_cases h:iV p=true
 ·have k:jh p=0:=by simp [jh,h]
  have i:=il h;rw [k];clear k h;by_cases D:s.length<=500
  ·have J:(s.length:Int)<=500:=by omega
   have d:Hid (iD p s=0):=by unfold Hid iD;simp [i.out,D]
   go_wp2_with fail
   have E:=il (pF m n l p _ s i.out (q.out.pres (iq f.out)) ((N.out.pres (iq f.out)).mono f.out.size) (by omega));refine(nk E).mono ?_;clear E;rintro e y ⟨b,ab,rb,st,rfl,r⟩;have t:Hid (w.grownBy y none):=ip f.out r.frame;obtain⟨xs,j⟩:=nS i.out s;obtain⟨R,Q,rfl,z⟩:=uS r j (q.out.pres (iq t.out));have K:xs.length<=500:=by
    have B:=nT p s;rw [j.st]at B;simp at B;omega
   have I:=il (qS i.out j K y b n l R Q z);have O:Hid (kx p (iJ p s)=lI p xs):=by unfold Hid kx;rw [j.ev]
   clear r j z c0;go_wp2_with fail
   refine(nk I).mono ?_;clear I;rintro e w3 ⟨v,rfl,C,A⟩;have M:=il C;have P:=il A;clear C A;go_wp2_with fail
   exact bodyPost_ret (v:= .tuple #[v,.int .i64 0]) (by simp [results,Tryz.results29,go_sem]) rfl ⟨ip t.out P.out,Or.inl ⟨d.out,v,rfl,by rw [O.out];exact iR M.out t.out.size⟩⟩
  ·have J:(500:Int)<s.length:=by omega
   have d:Hid (iD p s=2):=by unfold Hid iD;simp [i.out,D]
   go_wp2_with fail
   exact bodyPost_ret (v:= .tuple #[.slice none 0 0,.int .i64 2]) (by simp [results,Tryz.results29,go_sem]) rfl ⟨f.out,Or.inr ⟨by rw [d.out];decide,by rw [d.out]⟩⟩
 ·have k:jh p=1:=by simp [jh,h]
  have d:Hid (iD p s=1):=by unfold Hid iD;simp [h]
  rw [k];clear k h;go_wp2_with fail
  exact bodyPost_ret (v:= .tuple #[.slice none 0 0,.int .i64 1]) (by simp [results,Tryz.results29,go_sem]) rfl ⟨f.out,Or.inr ⟨by rw [d.out];decide,by rw [d.out]⟩⟩
theorem pS(p:List (List Ins))(s:List Int)(h:(iJ p s).kind=2):(iJ p s).thread=0:=by
 have hc:=nb p s 0 St.zero [];change ∃ xs a,RunE p St.zero xs a/\(iJ p s).steps=[]++xs.map Ev.pr/\(iJ p s).st=a/\((good xs/\xs.map Ev.tI=s/\(iJ p s).kind=jR p a/\(iJ p s).thread=0/\(iJ p s).at_=0)\/(good xs/\(∃ u r,s=xs.map Ev.tI++u::r/\mZ p a u=false)/\(iJ p s).kind=2/\(iJ p s).thread=0/\(iJ p s).at_=0+xs.length)\/(∃ ys z r,xs=ys++[z]/\good ys/\z.bad=true/\s=xs.map Ev.tI++r/\(iJ p s).kind=1/\(iJ p s).thread=z.tI/\(iJ p s).at_=z.k))at hc
 obtain⟨xs,a,_,_,_,hc⟩:=hc;rcases hc with ⟨_,_,_,g4,_⟩ | ⟨_,_,_,g4,_⟩ | ⟨us,z,r,_,_,_,_,g5,_⟩
 ·exact g4
 ·exact g4
 ·omega
theorem yI{a b:Out}(k:a.kind=2->a.thread=0)(d:b.kind=2->b.thread=0):lX a b=(a.kind==b.kind && a.thread==b.thread && (a.kind==2 || a.at_==b.at_)):=by
 unfold lX;by_cases h:a.kind=2
 ·rw [if_pos h];by_cases c:b.kind=2
  ·simp [h,c,k h,d c]
  ·have f:¬(2:Int)=b.kind:=fun e=>c e.symm
   have j:(b.kind==2)=false:=by simpa using c
   have i:((2:Int)==b.kind)=false:=by simpa using f
   rw [j,h,i];simp
 ·have d:(a.kind==2)=false:=by simpa using h
  rw [if_neg h,d];simp
theorem zY(p:List (List Ins))(a b:List Int)(pv av bv:Value)(w:World)(W:ProgAt w pv p)(U:IntsAt w.heap.size w av a)(T:IntsAt w.heap.size w bv b)(a1:p.length<=5864062014634)(aF:∀ c∈p,c.length<=4398046510976):
  Calls Tryz.prog 35 #[pv,av,bv] w (Samed p a b w):=by
 have z:=il W;have HI:=il U;have HJ:=il T;have aY:=il aF;obtain⟨t,o,rfl⟩:=W.form;obtain⟨so,sc,rfl⟩:=U.form;obtain⟨sp,sd,rfl⟩:=T.form;clear W U T aF;go_enter Tryz.func35,Tryz.ntmps35
 go_wp2_with fail
 have ar:∀ a,w.grownBy (w.alloc a) none:=fun a=>ir (iu _ _)
 refine(mD p _ _ (z.out.pres (iq (ar _))) a1 aY.out).mono ?_;rintro e O ⟨rfl,P⟩;have m:Hid (w.grownBy O none):=ip (ar _) P;have aC:O.heap[w.heap.size]?=some (.cells #[.slice t p.length o] 37 (0,0)):=by
  rw [P.block w.heap.size (by simp) (by simp)];exact heap_alloc_new w _
 have c0:O.cell? ⟨w.heap.size,0,none⟩=some (.slice t p.length o):=by simp [World.cell?,aC]
 clear aC P;by_cases s:iV p=true
 ·have y:jh p=0:=by simp [jh,s]
  have k:=il s;rw [y];clear y s;by_cases h5:a.length<=500
  ·have aK:(a.length:Int)<=500:=by omega
   by_cases h6:b.length<=500
   ·have bf:(b.length:Int)<=500:=by omega
    have i:Hid (iU p [a,b]=0):=by unfold Hid iU;simp [k.out,h5,h6]
    have H:=il (pF O t o p (.slice so a.length sc) a k.out (z.out.pres (iq m.out)) ((HI.out.pres (iq m.out)).mono m.out.size) (by omega));go_wp2_with fail
    refine(nk H).mono ?_;clear H;rintro e Q ⟨b1,ab1,rb1,st1,rfl,I⟩;have aP:=il I.frame;have x:Hid (w.grownBy Q none):=ip m.out I.frame;obtain⟨xs,G⟩:=nS k.out a;obtain⟨aQ,aS,rfl,ac⟩:=uS I G (z.out.pres (iq x.out));have aX:xs.length<=500:=by
     have B:=nT p a;rw [G.st]at B;simp at B;omega
    obtain⟨_,d1,d2,d3,_,_,_⟩:=I.vcells;have c2:=iq aP.out _ _ c0;have aA:=il (fun(u:World) (hu:Q.grownBy u none)=>qS k.out G aX u b1 t o aQ aS (ac.grown hu));have Z:Hid (kx p (iJ p a)=lI p xs):=by unfold Hid kx;rw [G.ev]
    clear I G ac c0;have H:=il (pF Q t o p (.slice sp b.length sd) b k.out (z.out.pres (iq x.out)) ((HJ.out.pres (iq x.out)).mono x.out.size) (by omega));go_wp2_with fail
    refine(nk H).mono ?_;clear H;rintro e d ⟨b2,ab2,rb2,st2,rfl,C⟩;have L:=il C.frame;have aG:Hid (w.grownBy d none):=ip x.out C.frame;obtain⟨E,A⟩:=nS k.out b;obtain⟨a9,bd,rfl,au⟩:=uS C A (z.out.pres (iq aG.out));have bj:E.length<=500:=by
     have B:=nT p b;rw [A.st]at B;simp at B;omega
    obtain⟨_,f1,f2,f3,_,_,_⟩:=C.vcells;have k1:=iq L.out _ _ d1;have k2:=iq L.out _ _ d2;have k3:=iq L.out _ _ d3;have hl1:b1<d.heap.size:=World.block_lt_of_cell? d _ k1;have hl2:b2<d.heap.size:=World.block_lt_of_cell? d _ f1;have aD:=il (fun(u:World) (hu:d.grownBy u none)=>qS k.out A bj u b2 t o a9 bd (au.grown hu));have aj:Hid (kx p (iJ p b)=lI p E):=by unfold Hid kx;rw [A.ev]
    have am:=il (yI (pS p a) (pS p b));have F:Hid (rO p a b=(lX (iJ p a) (iJ p b) && (kx p (iJ p a)==kx p (iJ p b)))):=rfl;rw [am.out,Z.out,aj.out]at F;clear C A au c2 d1 d2 d3 am Z aj;have aO:=m9 p xs;have aL:Hid ((lI p xs).length<=500):=by unfold Hid;omega
    clear aO;generalize (iJ p a).kind=ka at*;generalize (iJ p a).thread=ta at*;generalize (iJ p a).at_=aa at*;generalize (iJ p b).kind=kb at*;generalize (iJ p b).thread=tb at*;generalize (iJ p b).at_=ab at*;go_upto_region 10 with fail
    obtain⟨h,D⟩:∃ h,h=(d.alloc (.cells #[.int .i64 ka,.int .i64 ta,.int .i64 aa] 26)).alloc (.cells #[.int .i64 kb,.int .i64 tb,.int .i64 ab] 26):=⟨_,rfl⟩;have S:Hid (d.grownBy h none):=by unfold Hid;rw [D];exact ir (ir (iu _ _))
    have z1:h.heap[d.heap.size]?=some (.cells #[.int .i64 ka,.int .i64 ta,.int .i64 aa] 26 (0,0)):=by
     rw [D,Below.heap_alloc _ _ _ (by simp)];exact heap_alloc_new _ _
    have N:h.heap[d.heap.size+1]?=some (.cells #[.int .i64 kb,.int .i64 tb,.int .i64 ab] 26 (0,0)):=by
     have:=heap_alloc_new (d.alloc (.cells #[.int .i64 ka,.int .i64 ta,.int .i64 aa] 26)) (.cells #[.int .i64 kb,.int .i64 tb,.int .i64 ab] 26);rw [D];simpa using this
    rw [<-D];clear D k1 k2 k3 f1 f2 f3;have m0:h.cell? ⟨d.heap.size,0,none⟩=some (.int .i64 ka):=by simp [World.cell?,z1]
    have m1:h.cell? ⟨d.heap.size,1,none⟩=some (.int .i64 ta):=by simp [World.cell?,z1]
    have m2:h.cell? ⟨d.heap.size,2,none⟩=some (.int .i64 aa):=by simp [World.cell?,z1]
    have n0:h.cell? ⟨d.heap.size+1,0,none⟩=some (.int .i64 kb):=by simp [World.cell?,N]
    have n1:h.cell? ⟨d.heap.size+1,1,none⟩=some (.int .i64 tb):=by simp [World.cell?,N]
    have n2:h.cell? ⟨d.heap.size+1,2,none⟩=some (.int .i64 ab):=by simp [World.cell?,N]
    clear z1 N;obtain⟨l,X⟩:∃ l,l=(ka==kb && ta==tb && (ka==2 || aa==ab)):=⟨_,rfl⟩;rw [<-X]at F;have r:=il X;clear X;go_cut [65] (fun q w'=>q= .bool (!l)/\w'=h)
    case first=>
     by_cases J:ka=kb
     ·subst J;by_cases K:ta=tb
      ·subst K;by_cases n:ka=2
       ·have a6:(ka !=2)=false:=by simpa using n
        have f:l=true:=by rw [r.out];simp [n]
        have j:=il f;subst n;clear f;go_wp2_with fail
        go_meet
        exact⟨by rw [j.out];rfl,rfl⟩
       ·have a6:(ka !=2)=true:=by simpa using n
        by_cases M:aa=ab
        ·subst M;have f:l=true:=by rw [r.out];simp
         have j:=il f;clear f n;go_wp2_with fail
         go_meet
         exact⟨by rw [j.out];rfl,rfl⟩
        ·have e4':(aa !=ab)=true:=by simpa using M
         have f:l=false:=by rw [r.out];simp [n,M]
         have j:=il f;clear f n M;go_wp2_with fail
         go_meet
         exact⟨by rw [j.out];rfl,rfl⟩
      ·have e2':(ta !=tb)=true:=by simpa using K
       have f:l=false:=by rw [r.out];simp [K]
       have j:=il f;clear f K;go_wp2_with fail
       go_meet
       exact⟨by rw [j.out];rfl,rfl⟩
     ·have e1':(ka !=kb)=true:=by simpa using J
      have f:l=false:=by rw [r.out];simp [J]
      have j:=il f;clear f J;go_wp2_with fail
      go_meet
      exact⟨by rw [j.out];rfl,rfl⟩
    case rest=>
    obtain⟨rfl,be⟩:=hcut;have aT:=be.symm;subst aT;clear m0 m1 m2 n0 n1 n2;have aw:Hid (w.grownBy h none):=ip aG.out S.out;cases l with
    | false=>
     have R:Hid (rO p a b=false):=by unfold Hid;rw [F.out];rfl
     go_wp2_with fail
     exact bodyPost_ret (v:= .tuple #[.bool false,.int .i64 0]) (by simp [results,Tryz.results35,go_sem]) rfl ⟨aw.out,Or.inl ⟨i.out,by rw [R.out]⟩⟩
    | true=>
     have R:Hid (rO p a b=(lI p xs==lI p E)):=by unfold Hid;rw [F.out];rfl
     clear F r;have aB:=il (aA.out h (ip L.out S.out));clear aA;go_wp2_with fail
     refine(nk aB).mono ?_;clear aB;rintro e w6 ⟨v6,rfl,ax,aI⟩;have aJ:=il ax;have an:=il aI;clear ax aI;have aE:=il (aD.out w6 (ip S.out an.out));clear aD;go_wp2_with fail
     refine(nk aE).mono ?_;clear aE;rintro e Y ⟨v7,rfl,ap,ay⟩;have aU:=il ap;have V:=il ay;clear ap ay;have az:=il (tF (lI p xs) (lI p E) v6 v7 Y (((jz aJ.out).pres (iq V.out)).mono V.out.size) (jz aU.out) (by have:=aL.out;omega));go_wp2_with fail
     refine(nk az).mono ?_;clear az;rintro e w8 ⟨rfl,ae⟩;have a2:Hid (Y.grownBy w8 none):=iL ae;clear ae;go_wp2_with fail
     exact bodyPost_ret (v:= .tuple #[.bool (lI p xs==lI p E),.int .i64 0]) (by simp [results,Tryz.results35,go_sem]) rfl ⟨ip aw.out (ip an.out (ip V.out a2.out)),Or.inl ⟨i.out,by rw [R.out]⟩⟩
   ·have bf:(500:Int)<b.length:=by omega
    have i:Hid (iU p [a,b]=2):=by unfold Hid iU;simp [k.out,h6]
    go_wp2_with fail
    exact bodyPost_ret (v:= .tuple #[.bool false,.int .i64 2]) (by simp [results,Tryz.results35,go_sem]) rfl ⟨m.out,Or.inr ⟨by rw [i.out];decide,by rw [i.out]⟩⟩
  ·have aK:(500:Int)<a.length:=by omega
   have i:Hid (iU p [a,b]=2):=by unfold Hid iU;simp [k.out,h5]
   go_wp2_with fail
   exact bodyPost_ret (v:= .tuple #[.bool false,.int .i64 2]) (by simp [results,Tryz.results35,go_sem]) rfl ⟨m.out,Or.inr ⟨by rw [i.out];decide,by rw [i.out]⟩⟩
 ·have y:jh p=1:=by simp [jh,s]
  have i:Hid (iU p [a,b]=1):=by unfold Hid iU;simp [s]
  rw [y];clear y s;go_wp2_with fail
  exact bodyPost_ret (v:= .tuple #[.bool false,.int .i64 1]) (by simp [results,Tryz.results35,go_sem]) rfl ⟨m.out,Or.inr ⟨by rw [i.out];decide,by rw [i.out]⟩⟩
theorem s9{B:Nat}{w:World}{m:Option Addr}{q n:Nat}{l:List Int}(h:IntsAt B w (.slice m n q) l):∀ b,m=some b->∀ j u,(iM l)[j]?=some u->w.cell? (b.add j)=some u:=by
 rintro b rfl j u d;obtain⟨a,c,e,_,o⟩:=h;have f:=(List.getElem?_eq_some_iff.1 d).1;rw [j0]at f;obtain⟨i,k,r,e2,s⟩:=o j f;simp only [Value.slice.injEq]at e;rw [r]at e;simp only [Option.some.injEq]at e;obtain⟨rfl,_⟩:=e;have p:(⟨i,k,none⟩:Addr).add j=⟨i,k+j,none⟩:=by unfold Addr.add;split<;>simp_all
 rw [p,s];have:(iM l)[j]?=some (.int .i64 l[j]):=by simp [iM,f]
 rw [this]at d;exact d
theorem mA{w:World}(n:Nat):w.grownBy (w.drewN n) none:=iL (by have:=lj w n;exact this)
theorem AN(a b:Out):lX a b=((a.kind==b.kind && (a.thread==b.thread && a.at_==b.at_)) || (a.kind==2 && b.kind==2)):=by
 unfold lX;by_cases h:a.kind=2
 ·rw [if_pos h,h];by_cases d:b.kind=2
  ·simp [d]
  ·have e:((2:Int)==b.kind)=false:=by simp;omega
   have c:(b.kind==2)=false:=by simpa using d
   simp [e,c]
 ·have c:(a.kind==2)=false:=by simpa using h
  rw [if_neg h,c];simp [Bool.and_assoc]
theorem uQ(p:List (List Ins))(s:List Int)(pv sv:Value)(fuel:Int)(w:World)(hP:ProgAt w pv p)(hI:IntsAt w.heap.size w sv s)(bp:oC sv)(hf1:fuel<=9223372036854775807)(bY:p.length<=5864062014634)(bg:∀ c∈p,c.length<=4398046510976):
  Calls Tryz.prog 33 #[pv,sv,.int .i64 fuel] w (Shortened p s fuel w):=by
 obtain⟨i0,aa,ah,aq,ac⟩:=info_parts kn;have HP:=il hP;have HI:=il hI;have HN:=il bp;have bQ:=il bg;obtain⟨ao,Z,rfl⟩:=hP.form;obtain⟨W,I,rfl⟩:=hI.form;have hcap:s.length<=I:=by
  obtain⟨a,c,e,h1,_⟩:=hI;simp only [Value.slice.injEq]at e;omega
 clear hP hI bp bg;go_enter Tryz.func33,Tryz.ntmps33
 go_wp2_with fail
 have a1:∀ a,w.grownBy (w.alloc a) none:=fun a=>ir (iu _ _)
 refine(mD p _ _ (HP.out.pres (iq (a1 _))) bY bQ.out).mono ?_;rintro e w1 ⟨rfl,av⟩;have L:Hid (w.grownBy w1 none):=ip (a1 _) av;have bC:w1.heap[w.heap.size]?=some (.cells #[.slice ao p.length Z] 37 (0,0)):=by
  rw [av.block w.heap.size (by simp) (by simp)];exact heap_alloc_new w _
 have c0:w1.cell? ⟨w.heap.size,0,none⟩=some (.slice ao p.length Z):=by simp [World.cell?,bC]
 clear bC av;by_cases F:iV p=true
 ·have T:jh p=0:=by simp [jh,F]
  have HV:=il F;rw [T];clear T F;by_cases h5:s.length<=500
  ·have bH:(s.length:Int)<=500:=by omega
   have C:Hid (iD p s=0):=by unfold Hid iD;simp [HV.out,h5]
   by_cases hf:fuel<0
   ·go_wp2_with fail
    exact bodyPost_ret (v:= .tuple #[.slice none 0 0,.int .i64 0,.int .i64 2]) (by simp [results,Tryz.results33,go_sem]) rfl ⟨L.out,Or.inr (Or.inl ⟨C.out,hf,rfl⟩)⟩
   ·have bb:0<=fuel:=by omega
    have R:=il (pF w1 ao Z p (.slice W s.length I) s HV.out (HP.out.pres (iq L.out)) ((HI.out.pres (iq L.out)).mono L.out.size) (by omega));go_wp2_with fail
    refine(nk R).mono ?_;clear R;rintro e A ⟨b,ab,rb,st,rfl,N⟩;obtain⟨x1,x2,x3,rfl⟩:=iy N.row;have b5:=iC N.row;subst b5;have Y:Hid (w.grownBy A none):=ip L.out N.frame;obtain⟨b7,bB,bk,bc,_,_,_⟩:=N.vcells;have ca:=il (iq N.frame _ _ c0);have bI:Hid (∀ u,A.grownBy u none->u.cell? ⟨b,11,none⟩=some (.int .i64 (iJ p s).kind)/\u.cell? ⟨b,12,none⟩=some (.int .i64 (iJ p s).thread)/\u.cell? ⟨b,13,none⟩=some (.int .i64 (iJ p s).at_)):=fun u hu=>⟨iq hu _ _ bB,iq hu _ _ bk,iq hu _ _ bc⟩
    have bq:=il (zl p s);have hln:=sE p s;have aS:Hid (∀ n,mi p s n=shr p (iJ p s) n (s.take (ki (iJ p s))) 0 0):=fun n=>rfl
    clear N c0 bk bc;have hcl:=bq.out.2;generalize hO:iJ p s=o at*;clear hO;obtain⟨f,aI⟩:∃ f:Nat,f=ki o:=⟨_,rfl⟩;rw [<-aI]at hcl aS;have bz:=il aI;clear aI bq;have hl1:(o.steps.length:Int)<=500:=by omega
    go_upto_if 42 with fail
    go_cut [11] (fun nv w'=>nv= .int .i64 (f:Int)/\w'=A)
    case first=>
     by_cases hk:o.kind=2
     ·have hc:f=o.steps.length+1:=by rw [bz.out];unfold ki;rw [if_pos hk]
      have HC:=il hc;clear hc;go_wp2_with fail
      go_meet
      exact⟨by rw [HC.out];go_num,rfl⟩
     ·have hk2:(o.kind==2)=false:=by simpa using hk
      have hc:f=o.steps.length:=by rw [bz.out];unfold ki;rw [if_neg hk]
      have HC:=il hc;clear hc hk;go_wp2_with fail
      go_meet
      exact⟨by rw [HC.out],rfl⟩
    case rest=>
    obtain⟨rfl,cp⟩:=hcut;have ch:=cp.symm;subst ch;have bl:Hid (IntsAt A.heap.size A (.slice W f I) (s.take f)):=((HI.out.pres (iq Y.out)).mono Y.out.size).front hcl;have bf:Hid (W=none->f=0/\I=0):=fun e=>by
     have:=HN.out s.length I (by rw [e]);omega
    have K:Hid (∀ ad,W=some ad->∀ j u,(iM (s.take f))[j]?=some u->A.cell? (ad.add j)=some u):=s9 bl.out;have aH:(iM (s.take f)).length=f*1:=by rw [j0];simp;omega
    have a5:0+f<=maxLen:=by unfold maxLen;omega
    have q0:(f:Int)<=I:=by omega
    have q1:(0:Int)<=(f:Int):=by omega
    have b2:=Y.out.size;clear b7 bB;go_upto_region 12 with (at_builtin;refine km rfl _ _ _ rfl w.heap.size 3 i0 _ 1 8 Tryz.underlying39 aa ah aq ac rfl (by omega) (.slice none 0 0) 0 [] rfl ⟨rfl,Or.inl ⟨rfl,rfl⟩⟩ W f I (iM (s.take f)) rfl aH bf.out K.out (oI _) a5 (by omega) b2 ?_;intro z1 z2 z3 w3 aK bv)
    simp only [Nat.zero_add,List.nil_append]at aK;have a0:(s.take f).length=f:=by simp;omega
    have aW:Hid (w3.ownsRow w.heap.size 3 1 (.slice z1 z2 z3) (s.take f).length (iM (s.take f))):=by unfold Hid;rw [a0];exact aK
    have bG:Hid (A.grownBy w3 none):=bv;have co:(s.take f).length<=500:=by omega
    clear aK bv aH a5 bf K bl a0;go_wp2_with fail
    go_loopw [12,13,14] (fun lv uv kv w'=>∃ (l:List Int) (i u:Nat),uv= .int .i64 u/\kv= .int .i64 i/\l.length<=500/\i<=l.length/\(u:Int)<=fuel/\Hid (w'.ownsRow w.heap.size 3 1 lv l.length (iM l))/\Hid (A.grownBy w' none)/\Hid (shr p o (fuel.toNat - u) l i u=shr p o fuel.toNat (s.take f) 0 0)) (fun _ uv _ _=>fuel.toNat - (intOf uv).toNat)
    case atStart=>exact⟨s.take f,0,0,rfl,rfl,co,Nat.zero_le _,by omega,aW,bG,rfl⟩
    case round=>
     clear aW bG;obtain⟨l,i,u,rfl,rfl,cc,aH,hu,H,HG,HS⟩:=hrel;obtain⟨t,ba⟩:∃ t,t=wr:=⟨_,rfl⟩;rw [<-ba]at H HG ⊢;clear ba;have r0:(0:Int)<=(i:Int):=by omega
     have r1:(0:Int)<=(u:Int):=by omega
     have r2:(l.length:Int)<=500:=by omega
     by_cases bZ:i<l.length/\(u:Int)<fuel
     ·obtain⟨aF,huf⟩:=bZ;obtain⟨r,k,bT⟩:∃ r k,u12= .slice (some ⟨r,0,none⟩) l.length k:=by
       rcases H.out.2 with ⟨_,e⟩ | ⟨r,k,_,e,_⟩
       ·omega
       ·exact⟨r,k,e⟩
      subst bT;have aB:=il (jz H.out);have hcp:l.length<=k:=by
       obtain⟨a,c,e,h1,_⟩:=aB.out;simp only [Value.slice.injEq]at e;omega
      have r3:(i:Int)<l.length:=by omega
      have r4:(i:Int)<=k:=by omega
      have r5:(i:Int)+1<=l.length:=by omega
      have r6:(l.length:Int)<=k:=by omega
      have bu:fuel.toNat - u=(fuel.toNat - (u+1))+1:=by omega
      have V:Hid (shr p o fuel.toNat (s.take f) 0 0=if lX (iJ p (jc l i)) o=true then shr p o (fuel.toNat - (u+1)) (jc l i) 0 (u+1) else shr p o (fuel.toNat - (u+1)) l (i+1) (u+1)):=by
       unfold Hid;rw [<-HS.out,bu,shr,if_pos aF]
      have aZ:=oQ aF;have aE:=il aZ;have ce:w.heap.size<=t.heap.size:=by have:=HG.out.size;omega
      have K:Hid (∀ ad,some (⟨r,0,none⟩:Addr)=some ad->∀ j v,(iM (l.take i))[j]?=some v->t.cell? (ad.add j)=some v):=s9 (IntsAt.front aB.out (by omega));have bw:(iM (l.take i)).length=i*1:=by rw [j0];simp;omega
      have a3:0+i<=maxLen:=by unfold maxLen;omega
      clear HS bu aZ;go_upto_region 17 with (at_builtin;refine km rfl _ _ _ rfl t.heap.size 3 i0 _ 1 8 Tryz.underlying39 aa ah aq ac rfl (by omega) (.slice none 0 0) 0 [] rfl ⟨rfl,Or.inl ⟨rfl,rfl⟩⟩ (some ⟨r,0,none⟩) i k (iM (l.take i)) rfl bw (fun e=>by cases e) K.out (oI _) a3 (by omega) (Nat.le_refl _) ?_;intro ta tn tc w6 aN X)
      simp only [Nat.zero_add,List.nil_append]at aN;have S:=il aN;have aL:Hid (t.grownBy w6 none):=X;have aw:t.heap.size<=w6.heap.size:=X.size;have a2:Hid (IntsAt w6.heap.size w6 (.slice (some ⟨r,0,none⟩) l.length k) l):=(aB.out.pres (iq X)).mono X.size;have aC:iM (l.take i)++iM (l.drop (i+1))=iM (jc l i):=by simp [iM,jc]
      have a4:i+(l.length - (i+1))=(jc l i).length:=by have:=aE.out;omega
      have bo:i+(l.length - (i+1))<=maxLen:=by unfold maxLen;omega
      have bn:(iM (l.drop (i+1))).length=(l.length - (i+1))*1:=by rw [j0];simp
      clear aN X bw a3 K;go_cut [15] (fun tv w'=>Hid (w'.ownsRow t.heap.size 3 1 tv (jc l i).length (iM (jc l i))/\t.grownBy w' none))
      case first=>
       by_cases hsk:k - (i+1)=0
       ·have bd:k=i+1:=by omega
        have bm:l.drop (i+1)=[]:=List.drop_of_length_le (by omega);have J:Hid (iM (jc l i)=iM (l.take i)/\(jc l i).length=i):=⟨by rw [<-aC,bm];simp [iM],by omega⟩;clear bm;subst bd;go_wp2_with (at_builtin;refine km rfl _ _ _ rfl t.heap.size 3 i0 _ 1 8 Tryz.underlying39 aa ah aq ac rfl (by omega) (.slice ta tn tc) i (iM (l.take i)) rfl S.out (some ⟨r,0,none⟩) 0 0 [] rfl rfl (fun e=>by cases e) (fun ad e j v hj=>by simp at hj) (fun v F=>by cases F) (by omega) (by omega) aw ?_;intro tb tm td E aJ G)
        go_meet
        exact⟨by rw [J.out.1,J.out.2];simpa using aJ,jH aL.out G (fun q e=>iB S.out q e)⟩
       ·have bN:Hid (IntsAt w6.heap.size w6 (.slice (some ⟨r,i+1,none⟩) (l.length - (i+1)) (k - (i+1))) (l.drop (i+1))):=zi a2.out aF;have K:Hid (∀ ad,some (⟨r,i+1,none⟩:Addr)=some ad->∀ j v,(iM (l.drop (i+1)))[j]?=some v->w6.cell? (ad.add j)=some v):=s9 bN.out;have bd:¬k=i+1:=by omega
        go_wp2_with (at_builtin;refine km rfl _ _ _ rfl t.heap.size 3 i0 _ 1 8 Tryz.underlying39 aa ah aq ac rfl (by omega) (.slice ta tn tc) i (iM (l.take i)) rfl S.out (some ⟨r,i+1,none⟩) (l.length - (i+1)) (k - (i+1)) (iM (l.drop (i+1))) rfl bn (fun e=>by cases e) K.out (oI _) bo (by omega) aw ?_;intro tb tm td E aJ G)
        go_meet
        exact⟨by rw [<-aC,<-a4];exact aJ,jH aL.out G (fun q e=>iB S.out q e)⟩
      case rest=>
      obtain⟨U,G⟩:=hcut.out;clear hcut S aL a2 aC a4 bo bn aw;obtain⟨E,be⟩:∃ E,E=wc:=⟨_,rfl⟩;rw [<-be]at U G ⊢;clear be;obtain⟨t1,t2,t3,ht⟩:=iy U;subst ht;have bO:=il U;have cb:=il G;have aO:Hid (A.grownBy E none):=ip HG.out G;have b0:Hid (w.grownBy E none):=ip Y.out aO.out;have c7:=iq aO.out _ _ ca.out;have R:=il (pF E ao Z p (.slice t1 t2 t3) (jc l i) HV.out (HP.out.pres (iq b0.out)) (jz U) (by have:=aE.out;omega));clear U G;go_wp2_with fail
      refine(nk R).mono ?_;clear R c7;rintro e M ⟨b8,ab8,rb8,st8,rfl,ax⟩;obtain⟨_,k1,k2,k3,_,_,_⟩:=ax.vcells;have a7:=il ax.frame;have D:=il (AN (iJ p (jc l i)) o);have bA:Hid (∃ z,z=lX (iJ p (jc l i)) o):=⟨_,rfl⟩;clear ax;generalize hq:iJ p (jc l i)=q at*;obtain⟨z,bi⟩:=bA.out;rw [<-bi]at V D;clear bA bi hq;go_upto_region 20 with fail
      obtain⟨B,al⟩:∃ B,B=M.alloc (.cells #[.int .i64 q.kind,.int .i64 q.thread,.int .i64 q.at_] 26):=⟨_,rfl⟩;have aY:Hid (M.grownBy B none):=by unfold Hid;rw [al];exact ir (iu _ _)
      have zb:B.heap[M.heap.size]?=some (.cells #[.int .i64 q.kind,.int .i64 q.thread,.int .i64 q.at_] 26 (0,0)):=by rw [al];exact heap_alloc_new M _
      rw [<-al];clear al k1 k2 k3;have aR:Hid (A.grownBy B none):=ip aO.out (ip a7.out aY.out);obtain⟨m1,m2,m3⟩:=bI.out B aR.out;have n0:B.cell? ⟨M.heap.size,0,none⟩=some (.int .i64 q.kind):=by simp [World.cell?,zb]
      have n1:B.cell? ⟨M.heap.size,1,none⟩=some (.int .i64 q.thread):=by simp [World.cell?,zb]
      have n2:B.cell? ⟨M.heap.size,2,none⟩=some (.int .i64 q.at_):=by simp [World.cell?,zb]
      clear zb;generalize q.kind=qk at*;generalize q.thread=qt at*;generalize q.at_=qa at*;generalize o.kind=ok at*;generalize o.thread=ot at*;generalize o.at_=oa at*;go_cut [96] (fun x w'=>x= .bool z/\Hid (B.grownBy w' none))
      case first=>
       by_cases P:qk=ok
       ·subst P;by_cases e2:qt=ot
        ·subst e2;by_cases e3:qa=oa
         ·subst e3;have m:Hid (z=true):=by unfold Hid;rw [D.out];simp
          go_quiet (fail)
          go_wp2_with fail
          go_meet
          exact⟨by rw [m.out],mA _⟩
         ·have b1:(qa==oa)=false:=by simpa using e3
          by_cases y:qk=2
          ·subst y;have m:Hid (z=true):=by unfold Hid;rw [D.out];simp
           clear e3;go_quiet (fail)
           go_wp2_with fail
           go_meet
           exact⟨by rw [m.out],mA _⟩
          ·have Q:(qk==2)=false:=by simpa using y
           have m:Hid (z=false):=by unfold Hid;rw [D.out];simp [b1,Q]
           clear e3 y;go_quiet (fail)
           go_wp2_with fail
           go_meet
           exact⟨by rw [m.out],mA _⟩
        ·have cf:(qt==ot)=false:=by simpa using e2
         by_cases y:qk=2
         ·subst y;have m:Hid (z=true):=by unfold Hid;rw [D.out];simp
          clear e2;go_quiet (fail)
          go_wp2_with fail
          go_meet
          exact⟨by rw [m.out],mA _⟩
         ·have Q:(qk==2)=false:=by simpa using y
          have m:Hid (z=false):=by unfold Hid;rw [D.out];simp [cf,Q]
          clear e2 y;go_quiet (fail)
          go_wp2_with fail
          go_meet
          exact⟨by rw [m.out],mA _⟩
       ·have aX:(qk==ok)=false:=by simpa using P
        by_cases y:qk=2
        ·subst y;have bK:(ok==2)=false:=by simpa using fun h:ok=2=>P h.symm
         have m:Hid (z=false):=by unfold Hid;rw [D.out];simp [aX,bK]
         clear P;go_quiet (fail)
         go_wp2_with fail
         go_meet
         exact⟨by rw [m.out],mA _⟩
        ·have Q:(qk==2)=false:=by simpa using y
         have m:Hid (z=false):=by unfold Hid;rw [D.out];simp [aX,Q]
         clear P y;go_quiet (fail)
         go_wp2_with fail
         go_meet
         exact⟨by rw [m.out],mA _⟩
      case rest=>
      obtain⟨rfl,az⟩:=hcut;obtain⟨O,aQ⟩:∃ O,O=wc:=⟨_,rfl⟩;rw [<-aQ]at az ⊢;clear aQ m1 m2 m3 n0 n1 n2 D;have aU:Hid (A.grownBy O none):=ip aR.out az.out;have a6:Hid (E.grownBy O none):=ip a7.out (ip aY.out az.out);have huf':(u:Int)+1<=fuel:=by omega
      cases z with
      | true=>
       have aM:Hid (shr p o (fuel.toNat - (u+1)) (jc l i) 0 (u+1)=shr p o fuel.toNat (s.take f) 0 0):=by unfold Hid;rw [V.out];rfl
       have aD:Hid (O.ownsRow w.heap.size 3 1 (.slice t1 t2 t3) (jc l i).length (iM (jc l i))):=iR (iE bO.out a6.out (fun _ e=>by cases e)) ce;clear V;go_wp2_with fail
       go_roundw
       case rel=>exact⟨jc l i,0,u+1,by go_num,rfl,by have:=aE.out;omega,Nat.zero_le _,by omega,aD,aU,aM⟩
       case measure=>simp [intOf];omega
      | false=>
       have aM:Hid (shr p o (fuel.toNat - (u+1)) l (i+1) (u+1)=shr p o fuel.toNat (s.take f) 0 0):=by unfold Hid;rw [V.out];rfl
       have aD:Hid (O.ownsRow w.heap.size 3 1 (.slice (some ⟨r,0,none⟩) l.length k) l.length (iM l)):=iE (iE H.out cb.out (fun _ e=>by cases e)) a6.out (fun _ e=>by cases e);clear V;go_wp2_with fail
       go_roundw
       case rel=>exact⟨l,i+1,u+1,by go_num,by go_num,cc,by omega,by omega,aD,aU,aM⟩
       case measure=>simp [intOf];omega
     ·have J:Hid (mi p s fuel.toNat=(l,u)):=by
       unfold Hid;rw [aS.out,<-HS.out];cases hd:fuel.toNat - u with
       | zero=>rfl
       | succ d=>rw [shr,if_neg (by omega)]
      have bj:Hid (w.grownBy t none):=ip Y.out HG.out;obtain⟨l1,l2,l3,b4⟩:=iy H.out;subst b4;have bU:=iC H.out;subst bU;by_cases hA:(u:Int)<fuel
      ·have r7:(l.length:Int)<=(i:Int):=by omega
       go_wp2_with fail
       exact bodyPost_ret (v:= .tuple #[.slice l1 l.length l3,.int .i64 (u:Int),.int .i64 0]) (by simp [results,Tryz.results33,go_sem]) rfl ⟨bj.out,Or.inl ⟨C.out,bb,_,by rw [J.out],by rw [J.out];exact H.out⟩⟩
      ·have r7:fuel<=(u:Int):=by omega
       go_wp2_with fail
       exact bodyPost_ret (v:= .tuple #[.slice l1 l.length l3,.int .i64 (u:Int),.int .i64 0]) (by simp [results,Tryz.results33,go_sem]) rfl ⟨bj.out,Or.inl ⟨C.out,bb,_,by rw [J.out],by rw [J.out];exact H.out⟩⟩
  ·have bH:(500:Int)<s.length:=by omega
   have C:Hid (iD p s=2):=by unfold Hid iD;simp [HV.out,h5]
   go_wp2_with fail
   exact bodyPost_ret (v:= .tuple #[.slice none 0 0,.int .i64 0,.int .i64 2]) (by simp [results,Tryz.results33,go_sem]) rfl ⟨L.out,Or.inr (Or.inr ⟨by rw [C.out];decide,by rw [C.out]⟩)⟩
 ·have T:jh p=1:=by simp [jh,F]
  have C:Hid (iD p s=1):=by unfold Hid iD;simp [F]
  rw [T];clear T F;go_wp2_with fail
  exact bodyPost_ret (v:= .tuple #[.slice none 0 0,.int .i64 0,.int .i64 1]) (by simp [results,Tryz.results33,go_sem]) rfl ⟨L.out,Or.inr (Or.inr ⟨by rw [C.out];decide,by rw [C.out]⟩)⟩
end
end Go.Proofs.YtklenjmfalljgabGreatDoor
