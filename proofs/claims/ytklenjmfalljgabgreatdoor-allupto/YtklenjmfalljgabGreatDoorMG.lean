/- The texts Rfn Fhh Fhi Frq Svd Fhj Rfp Rfq Hgo Hgp Ins Prg Prg2 Apn Cut Cct Sho Fld. -/
import Derived.Test.YtklenjmfalljgabGreatDoorMF
import Derived.BigQuiet
import Derived.Deep.QuietTactic
import Derived.Deep.AppendLies
import Derived.Maps.AppendAt
import Derived.Deep.DeepCutAuto
import Derived.Lib.AppendZeros
namespace Go.Proofs.YtklenjmfalljgabGreatDoor
set_option maxRecDepth 100000
set_option maxHeartbeats 8000000
section
open Go.RowKit
attribute [local go_sem] Go.World.cell?_alloc_some
structure RunRead(w:World)(b:Nat)(p:List (List Ins))(xs:List Ev)(o:Out)(ao:Option Addr)(cap:Nat)(sao:Option Addr)(sc:Nat):Prop where
 prog:ProgAt w (.agg #[.slice ao p.length cap]) p
 c0:w.cell? ⟨b,0,none⟩=some (.slice ao p.length cap)
 c10:w.cell? ⟨b,10,none⟩=some (.slice sao xs.length sc)
 c11:w.cell? ⟨b,11,none⟩=some (.int .i64 o.kind)
 row:∃ base,w.ownsRow base 76 2 (.slice sao xs.length sc) xs.length (iR o.steps)
theorem RunRead.grown{w w':World}{b:Nat}{p:List (List Ins)}{xs:List Ev}{o:Out}{i:Option Addr}{f:Nat}{d:Option Addr}{c:Nat}(h:RunRead w b p xs o i f d c)(a:w.grownBy w' none):RunRead w' b p xs o i f d c:=by
 obtain⟨base,j⟩:=h.row;exact⟨h.prog.pres (ip a),ip a _ _ h.c0,ip a _ _ h.c10,ip a _ _ h.c11,base,iD j a (fun _ e=>by cases e)⟩
theorem rQ{w w':World}(h:w.drew.grownBy w' none):w.grownBy w' none:=⟨h.os,h.tape,h.output,h.size,h.block⟩
theorem rp{w:World}(n:Nat):w.grownBy (w.drewN n) none:=iK (by have:=lf w n;exact this)
def tQ(L:List Nat)(n:Nat):List Value:=L.map (fun x:Nat=>Value.int .i64 (x:Int))++List.replicate (n - L.length) (Value.int .i64 0)
theorem At(L:List Nat)(n:Nat)(h:L.length<n):tQ (L++[0]) n=tQ L n:=by
 unfold tQ;have e:n - L.length=(n - (L++[0]).length)+1:=by simp;omega
 rw [e,List.replicate_succ];simp
theorem wC(L:List Nat)(x y n:Nat):(tQ (L++[x]) n).set L.length (.int .i64 (y:Int))=tQ (L++[y]) n:=by
 unfold tQ;have e:(L++[x]).length=(L++[y]).length:=by simp
 rw [e];simp
theorem su(L:List Nat)(n k:Nat)(h:k<L.length):(tQ L n)[k]?=some (.int .i64 (L[k]:Int)):=by
 unfold tQ;rw [List.getElem?_append_left (by simpa using h)];simp [h]
structure LyIn(W w':World)(gl n:Nat)(L:List Nat):Prop where
 row:w'.heap[gl]?=some (.cells (tQ L n).toArray 3 (0,0))
 gr:W.grownBy w' (some gl)
theorem LyIn.grown{W w w':World}{gl n:Nat}{L:List Nat}(h:LyIn W w gl n L)(hg:w.grownBy w' none):LyIn W w' gl n L:=
 ⟨by rw [hg.block _ (Array.getElem?_eq_some_iff.1 h.row).1 (by simp)];exact h.row,il h.gr (lP hg)⟩
theorem uK{W w:World}{gl o:Nat}{u:Value}(h:W.grownBy w (some gl)):W.grownBy (w.setCell ⟨gl,o,none⟩ u) (some gl):=
 ⟨h.os,h.tape,h.output,by simpa using h.size,fun k hk hr=>by rw [Below.heap_setCell _ _ _ _ (by simpa using hr)];exact h.block k hk hr⟩
theorem LyIn.put{W w:World}{a n i:Nat}{L:List Nat}{x:Nat}(h:LyIn W w a n (L++[x]))(b:L.length=i)(y:Nat)(z:Int)(c:z=(y:Int)):LyIn W (w.setCell ⟨a,i,none⟩ (.int .i64 z)) a n (L++[y]):=by
 subst b c;refine⟨?_,uK h.gr⟩;rw [heap_setCell_same w a L.length _ _ _ h.row,<-wC L x y n];simp
theorem re{p:List (List Ins)}{o:Out}{xs:List Ev}(hp:iU p=true)(aQ:rF p o xs)(a8:xs.length<=500)(w:World)(b:Nat)(P:Option Addr)(Z:Nat)(aY:Option Addr)(sc:Nat)(hR:RunRead w b p xs o P Z aY sc):
  Calls Tryz.prog 57 #[.pointer (some ⟨b,0,none⟩)] w fun e w'=>∃ v,e= .returned v/\w'.ownsRow w.heap.size 3 1 v (lH p xs).length (iL (lH p xs))/\w.grownBy w' none:=by
 obtain⟨i0,bD,bA,br,bu⟩:=info_parts rs;have F:=ij hR;have HV:=ij hp;have G:=ij aQ;have bI:=jz hp;have S:=hR.c10;have q0:(xs.length:Int)<=500:=by omega
 have q1:(0:Int)<=(xs.length:Int):=by omega
 clear hR hp aQ;go_enter Tryz.func57,Tryz.ntmps57
 go_upto_region 3 with (at_make;refine wpList_make_full _ rfl _ _ _ rfl w.heap.size 3 i0 _ 1 Tryz.underlying39 bD bA br .i64 .i64 _ _ xs.length rfl rfl rfl rfl (by rw [bu];omega) (by unfold maxLen;omega) (by simp) ?_;intro z a6 aE)
 have aG:z.heap[w.heap.size]?=some (.cells (List.replicate xs.length (Value.int .i64 0)).toArray 3 (0,0)):=by
  rcases a6.2 with ⟨e,_⟩ | ⟨g',cap',cur,hv,_,hh,_,_,hcs,K⟩
  ·cases e
  ·simp only [Value.slice.injEq,Option.some.injEq,Addr.mk.injEq,true_and,and_true]at hv;obtain⟨rfl,rfl⟩:=hv;rw [hh];have e1:cur.toList=List.replicate xs.length (Value.int .i64 0):=by
    have H:(madeCells #[Value.int .i64 0] (xs.length*1)).toList=List.replicate (xs.length*1) (Value.int .i64 0):=by
     apply List.ext_getElem (by simp [madeCells]);intro i h1 h2;simp only [madeCells,Array.toList_map,List.getElem_map,List.getElem_replicate,Array.toList_range,List.getElem_range];simp [Nat.mod_one]
    rw [Nat.mul_one]at H;rw [<-H];simp only [Value.cells,Nat.mul_one]at K hcs;rw [<-K,List.take_of_length_le (by simp;omega)]
   rw [<-e1]
 have HR3:Hid (RunRead z b p xs o P Z aY sc):=F.out.grown aE;have ag:Hid (w.grownBy z none):=aE;have H0:Hid (LyIn z z w.heap.size xs.length (kl p xs 0)):=⟨by simpa [kl,tl,tQ]using aG,ir _ _⟩;obtain⟨A,ad⟩:∃ A,A=w.heap.size:=⟨_,rfl⟩;have hgl3:A<z.heap.size:=by rw [ad];exact(Array.getElem?_eq_some_iff.1 aG).1
 have aJ:Hid (∀ x v,w.cell? x=some v->∀ u,z.grownBy u (some A)->u.cell? x=some v):=fun x v hc u hu=>by
  have hx:=World.block_lt_of_cell? w _ hc;rw [World.cell?_of_block (hu.block x.block (Nat.lt_of_lt_of_le hx ag.out.size) (by simp;omega))];exact ip ag.out _ _ hc
 rw [<-ad]at H0 ⊢;have bz:=ij ad;clear a6 aE aG S ad;go_wp2_with fail
 go_loopw [5] (fun iv w'=>∃ i:Nat,i<=xs.length/\iv= .int .i64 i/\Hid (LyIn z w' A xs.length (kl p xs i))) (fun iv _=>xs.length - (intOf iv).toNat)
 case atStart=>exact⟨0,Nat.zero_le _,rfl,H0⟩
 case round=>
  clear H0;obtain⟨i,hi,rfl,B⟩:=hrel;obtain⟨U,a1⟩:∃ U,U=wr:=⟨_,rfl⟩;rw [<-a1]at B ⊢;clear a1;by_cases ah:i<xs.length
  ·have t0:(0:Int)<=(i:Int):=by omega
   have t1:(i:Int)<xs.length:=by omega
   have bm:=pl p xs i hi;have H5:Hid (LyIn z U A xs.length (kl p xs i++[ji (ja p) ((tl (ja p) [] (xs.take i)).take 0) xs[i]])):=by
    have e:ji (ja p) ((tl (ja p) [] (xs.take i)).take 0) xs[i]=0:=by simp [ji]
    unfold Hid;rw [e]
    exact⟨by rw [At _ _ (by omega)];exact B.out.row,B.out.gr⟩
   go_wp2_with fail
   go_loopw [6] (fun kv w'=>∃ k:Nat,k<=i/\kv= .int .i64 k/\Hid (LyIn z w' A xs.length (kl p xs i++[ji (ja p) ((tl (ja p) [] (xs.take i)).take k) xs[i]]))) (fun kv _=>i - (intOf kv).toNat)
   case atStart=>exact⟨0,Nat.zero_le _,rfl,H5⟩
   case round=>
    clear H5 B;obtain⟨k,hk,rfl,Q⟩:=hrel;obtain⟨w6,aV⟩:∃ w6,w6=wr:=⟨_,rfl⟩;rw [<-aV]at Q ⊢;clear aV;by_cases bj:k<i
    ·have a9:k<xs.length:=by omega
     obtain⟨ac,aO,bo⟩:=G.out.th _ (List.getElem_mem ah);obtain⟨K,aS,bq⟩:=G.out.th _ (List.getElem_mem a9);obtain⟨base,R⟩:=F.out.row;obtain⟨g,hg,s0,s1⟩:=qr R G.out.st ah;obtain⟨g',aw,r0,r1⟩:=qr R G.out.st a9;rw [hg]at aw;simp only [Option.some.injEq,Addr.mk.injEq,and_true]at aw;subst aw hg;obtain⟨Y,M⟩:=Int.eq_ofNat_of_zero_le aO;obtain⟨T,an⟩:=Int.eq_ofNat_of_zero_le aS;have J:=ij (AO G.out bj ah);have V:=ij (Bj (ja p) (tl (ja p) [] (xs.take i)) xs[i] k (by rw [jB];simp;omega));have aL:((tl (ja p) [] (xs.take i))[k]'(by rw [jB];simp;omega)).1=xs[k]:=by
      have h1:=tw (ja p) [] (xs.take i);have h2:((tl (ja p) [] (xs.take i)).map (·.1))[k]'(by rw [h1];simp;omega)=(xs.take i)[k]'(by simp;omega):=by congr 1
      simpa using h2
     rw [aL]at V;have aC:(kl p xs i)[k]'(by omega)=((tl (ja p) [] (xs.take i))[k]'(by rw [jB];simp;omega)).2:=by simp [kl]
     have bB:=ij aC;have aR:=uR p (xs.take i) xs[i] k;have hcur':ji (ja p) ((tl (ja p) [] (xs.take i)).take k) xs[i]<=500:=by simp at aR;omega
     have hlk5:(kl p xs i)[k]'(by omega)<=500:=by
      rw [aC];have:=oS (ja p) (xs.take i) [] 0 (by simp) k _ (List.getElem?_eq_getElem (by rw [jB];simp;omega));omega
     have bd:lG (ju p xs[i].t (Y:Int)) (iO p xs[i].t).length=true:=l8 HV.out ac (by simp;omega);have aX:lG (ju p xs[k].t (T:Int)) (iO p xs[k].t).length=true:=l8 HV.out K (by simp;omega);have ay:=vm bd;have av:=vm aX;have a4:=ij (yZ (i:=ju p xs[k].t (T:Int)) (j:=ju p xs[i].t (Y:Int)) av.1 av.2.2.1 ay.1 ay.2.2.1);rw [M,an]at J;rw [<-a4.out]at J;have C:∀ x v,w.cell? x=some v->w6.cell? x=some v:=fun x v hc=>aJ.out x v hc w6 Q.out.gr
     have aH:=C _ _ s0;have ab:=C _ _ s1;have aB:=C _ _ r0;have ae:=C _ _ r1;rw [M]at ab;rw [an]at ae;have c0:=C _ _ F.out.c0;have S:=C _ _ F.out.c10;have a3:=C _ _ F.out.c11;have aW:Hid (ProgAt w6 (.agg #[.slice P p.length Z]) p):=F.out.prog.pres C;have aT:=ij (fun(u:World) (hu:w6.grownBy u none)=>Dj u (.agg #[.slice P p.length Z]) (aW.out.pres (ip hu)) bI.2 xs[k].t T xs[i].t Y K (by omega) ac (by omega) (kX (kd HV.out K)) (kX (kd HV.out ac)));clear s0 s1 r0 r1 R ay av bd aX C aR aC aL aO bo aS bq M an a4 aW;generalize bk:xs[i]=xi at*;generalize bt:xs[k]=xk at*;clear bk bt;generalize ju p xk.t (T:Int)=ik at*;generalize ju p xi.t (Y:Int)=ii at*;have u0:(0:Int)<=(k:Int):=by omega
     have u1:(k:Int)<(i:Int):=by omega
     have u2:(k:Int)<(xs.length:Int):=by omega
     go_upto_region 9 with fail
     refine iz (fun u=>u.cell? ⟨b,0,none⟩=some (.slice P p.length Z)/\u.cell? ⟨b,10,none⟩=some (.slice (some ⟨g,0,none⟩) xs.length sc)/\u.cell? ⟨g,k*2,none⟩=some (.int .i64 (xk.t:Int))/\u.cell? ⟨g,k*2+1,none⟩=some (.int .i64 (T:Int))/\u.cell? ⟨g,i*2,none⟩=some (.int .i64 (xi.t:Int))/\u.cell? ⟨g,i*2+1,none⟩=some (.int .i64 (Y:Int))) 19 (by kernel_rfl) (by kernel_rfl) ⟨c0,S,aB,ae,aH,ab⟩ ?_;intro d;refine gJ 0 ?va0 rfl (by kernel_rfl) (fun _ _ _ h=>h) (by rfl) ?ya0 d ?_
     case ya0=>(rintro u ⟨l,s,n,f,m,r⟩;go_simp;try rfl)
     simp only [Act.put,List.setIfInBounds_toArray];refine gJ 1 ?va1 rfl (by kernel_rfl) (fun _ _ _ h=>h) (by rfl) ?ya1 d ?_
     case ya1=>(rintro u ⟨l,s,n,f,m,r⟩;go_simp;try rfl)
     simp only [Act.put];refine gJ 2 ?va2 rfl (by kernel_rfl) (fun _ _ _ h=>h) (by rfl) ?ya2 d ?_
     case ya2=>(rintro u ⟨l,s,n,f,m,r⟩;go_simp;try rfl)
     simp only [Act.put];refine gJ 3 ?va3 rfl (by kernel_rfl) (fun _ _ _ h=>h) (by rfl) ?ya3 d ?_
     case ya3=>(rintro u ⟨l,s,n,f,m,r⟩;go_simp;try rfl)
     simp only [Act.put];refine gJ 4 ?va4 rfl (by kernel_rfl) (fun _ _ _ h=>h) (by rfl) ?ya4 d ?_
     case ya4=>(rintro u ⟨l,s,n,f,m,r⟩;go_simp;try rfl)
     simp only [Act.put];refine gJ 5 ?va5 rfl (by kernel_rfl) (fun _ _ _ h=>h) (by rfl) ?ya5 d ?_
     case ya5=>(rintro u ⟨l,s,n,f,m,r⟩;go_simp;try rfl)
     simp only [Act.put];refine gJ 6 ?va6 rfl (by kernel_rfl) (fun _ _ _ h=>h) (by rfl) ?ya6 d ?_
     case ya6=>(rintro u ⟨l,s,n,f,m,r⟩;go_simp;try rfl)
     simp only [Act.put];refine gJ 7 ?va7 rfl (by kernel_rfl) (fun _ _ _ h=>h) (by rfl) ?ya7 d ?_
     case ya7=>(rintro u ⟨l,s,n,f,m,r⟩;go_simp;try rfl)
     simp only [Act.put];refine gJ 8 ?va8 rfl (by kernel_rfl) (fun _ _ _ h=>h) (by rfl) ?ya8 d ?_
     case ya8=>(rintro u ⟨l,s,n,f,m,r⟩;go_simp;try rfl)
     simp only [Act.put];refine gJ 9 ?va9 rfl (by kernel_rfl) (fun _ _ _ h=>h) (by rfl) ?ya9 d ?_
     case ya9=>(rintro u ⟨l,s,n,f,m,r⟩;go_simp;try rfl)
     simp only [Act.put];refine gJ 10 ?va10 rfl (by kernel_rfl) (fun _ _ _ h=>h) (by rfl) ?ya10 d ?_
     case ya10=>(rintro u ⟨l,s,n,f,m,r⟩;go_simp;try rfl)
     simp only [Act.put];refine gJ 11 ?va11 rfl (by kernel_rfl) (fun _ _ _ h=>h) (by rfl) ?ya11 d ?_
     case ya11=>(rintro u ⟨l,s,n,f,m,r⟩;go_simp;try rfl)
     simp only [Act.put];refine gJ 12 ?va12 rfl (by kernel_rfl) (fun _ _ _ h=>h) (by rfl) ?ya12 d ?_
     case ya12=>(rintro u ⟨l,s,n,f,m,r⟩;go_simp;try rfl)
     simp only [Act.put];refine gJ 13 ?va13 rfl (by kernel_rfl) (fun _ _ _ h=>h) (by rfl) ?ya13 d ?_
     case ya13=>(rintro u ⟨l,s,n,f,m,r⟩;go_simp;try rfl)
     simp only [Act.put];refine gJ 14 ?va14 rfl (by kernel_rfl) (fun _ _ _ h=>h) (by rfl) ?ya14 d ?_
     case ya14=>(rintro u ⟨l,s,n,f,m,r⟩;go_simp;try rfl)
     simp only [Act.put];refine gJ 15 ?va15 rfl (by kernel_rfl) (fun _ _ _ h=>h) (by rfl) ?ya15 d ?_
     case ya15=>(rintro u ⟨l,s,n,f,m,r⟩;go_simp;try rfl)
     simp only [Act.put];refine gJ 16 ?va16 rfl (by kernel_rfl) (fun _ _ _ h=>h) (by rfl) ?ya16 d ?_
     case ya16=>(rintro u ⟨l,s,n,f,m,r⟩;go_simp;try rfl)
     simp only [Act.put];refine gJ 17 ?va17 rfl (by kernel_rfl) (fun _ _ _ h=>h) (by rfl) ?ya17 d ?_
     case ya17=>(rintro u ⟨l,s,n,f,m,r⟩;go_simp;try rfl)
     simp only [Act.put];refine iu (i:=18) rfl (by kernel_rfl) (by kernel_rfl) (by rfl) ?_;intro K18 aP;have bb:=ij aP;clear aP;go_simp;refine(aT.out _ (iy (ir _ _))).mono ?_;rintro e L ⟨rfl,aU⟩;have E:Hid (w6.grownBy L none):=rQ aU;refine bb.out _ _ ⟨ip E.out _ _ c0,ip E.out _ _ S,ip E.out _ _ aB,ip E.out _ _ ae,ip E.out _ _ aH,ip E.out _ _ ab⟩ ?_;clear bb aU;try simp only [Act.put,List.setIfInBounds_toArray]
     refine iH rfl (by kernel_rfl) (by kernel_rfl) (by rfl) ?_;go_simp;have a0:=ip E.out _ _ a3;have al:=ij (Q.out.grown E.out);clear d c0 S a3 aB ae aH ab aT Q;generalize bH:(xk.t==xi.t || nP ik ii)=dd at*;clear bH;obtain⟨I,ar⟩:∃ I:Bool,I=(decide (o.kind=1) && decide (i+1=xs.length)):=⟨_,rfl⟩;rw [<-ar]at J;have ak:=ij ar;clear ar;go_upto_region 10 with fail
     go_cut [59] (fun q w'=>q= .bool I/\w'=L)
     case first=>
      by_cases H:o.kind=1
      ·rw [H]at a0;by_cases e1:i+1=xs.length
       ·have e3:(xs.length:Int) - 1=(i:Int):=by omega
        have X:I=true:=by rw [ak.out];simp [e1,H]
        go_wp2_with fail
        all_goals first | (go_meet;exact⟨by rw [X],rfl⟩) | (exfalso;omega)
       ·have X:I=false:=by rw [ak.out];simp [e1]
        have e4:((i:Int)==(xs.length:Int) - 1)=false:=by simp;omega
        go_wp2_with fail
        all_goals first | (go_meet;exact⟨by rw [X],rfl⟩) | (exfalso;omega)
      ·have X:I=false:=by rw [ak.out];simp [H]
       have hb2:(o.kind==1)=false:=by simpa using H
       go_wp2_with fail
       all_goals first | (go_meet;exact⟨by rw [X],rfl⟩) | (exfalso;omega)
     case rest=>
     obtain⟨rfl,au⟩:=hcut;have ax:=au.symm;subst ax;obtain⟨D,hD⟩:∃ D:Bool,D=ja p xk xi:=⟨_,rfl⟩;rw [<-hD]at J V;clear hD;go_upto_if 59 with fail
     go_cut [7] (fun q w'=>q= .bool D/\w'=L)
     case first=>
      cases I with
      | true=>
       have aI:D=true:=by rw [J.out];rfl
       go_wp2_with fail
       go_meet
       exact⟨by rw [aI],rfl⟩
      | false=>
       have aI:D=dd:=by rw [J.out];rfl
       go_wp2_with fail
       go_meet
       exact⟨by rw [aI],rfl⟩
     case rest=>
     obtain⟨rfl,au⟩:=hcut;have ax:=au.symm;subst ax;clear a0 ak J;rw [<-bB.out]at V;have bn:k<(kl p xs i).length:=by omega
     have HRS:=ij (fun y:Nat=>wC (kl p xs i) (ji (ja p) ((tl (ja p) [] (xs.take i)).take k) xi) y xs.length);have aa:=al.out.row;have ck:L.cell? ⟨A,k,none⟩=some (.int .i64 ((kl p xs i)[k]:Int)):=by
      simp only [World.cell?,aa];have:=su (kl p xs i++[ji (ja p) ((tl (ja p) [] (xs.take i)).take k) xi]) xs.length k (by simp;omega);rw [List.getElem_append_left bn]at this;simpa using this
     have ci:L.cell? ⟨A,i,none⟩=some (.int .i64 (ji (ja p) ((tl (ja p) [] (xs.take i)).take k) xi:Int)):=by
      simp only [World.cell?,aa];have:=su (kl p xs i++[ji (ja p) ((tl (ja p) [] (xs.take i)).take k) xi]) xs.length i (by simp;omega);have e:(kl p xs i++[ji (ja p) ((tl (ja p) [] (xs.take i)).take k) xi])[i]'(by simp;omega)=ji (ja p) ((tl (ja p) [] (xs.take i)).take k) xi:=by
       rw [List.getElem_append_right (by omega)];simp
      rw [e]at this;simpa using this
     have fi:L.frozen? ⟨A,i,none⟩=false:=by simp [World.frozen?,aa]
     clear aa;generalize bp:(kl p xs i)[k]=lk at*;generalize hc:ji (ja p) ((tl (ja p) [] (xs.take i)).take k) xi=c at*;generalize ba:ji (ja p) ((tl (ja p) [] (xs.take i)).take (k+1)) xi=c1 at*;have az:=ij ba;clear bp hc ba;have v0:(lk:Int)<=500:=by omega
     have v1:(c:Int)<=500:=by omega
     cases D with
     | false=>
      have W:c1=c:=by have:=V.out;simpa using this
      go_wp2_with fail
      go_quiet (fail)
      go_wp2_with fail
      go_roundw
      case rel=>exact⟨k+1,by omega,by go_num,by rw [az.out,W];exact al.out.grown (rp _)⟩
      case measure=>simp [intOf];omega
     | true=>
      have hcm:c1=max c (lk+1):=by have:=V.out;simpa using this
      by_cases hle:c<=lk
      ·have v2:(c:Int)<=(lk:Int):=by omega
       have W:c1=lk+1:=by omega
       go_wp2_with fail
       go_quiet (fail)
       go_wp2_with fail
       go_roundw
       case rel=>exact⟨k+1,by omega,by go_num,by rw [az.out,W];exact LyIn.put (al.out.grown (rp _)) bm (lk+1) _ (by omega)⟩
       case measure=>simp [intOf];omega
      ·have v2:(lk:Int)<(c:Int):=by omega
       have W:c1=c:=by omega
       go_wp2_with fail
       go_quiet (fail)
       go_wp2_with fail
       go_roundw
       case rel=>exact⟨k+1,by omega,by go_num,by rw [az.out,W];exact al.out.grown (rp _)⟩
       case measure=>simp [intOf];omega
    ·have u1:(i:Int)<=(k:Int):=by omega
     have M:k=i:=by omega
     have bg:Hid (kl p xs (i+1)=kl p xs i++[ji (ja p) ((tl (ja p) [] (xs.take i)).take k) xs[i]]):=by unfold Hid;rw [M];exact yW p xs i ah
     clear M;go_wp2_with fail
     go_roundw
     case rel=>exact⟨i+1,by omega,by go_num,by rw [bg.out];exact Q.out⟩
     case measure=>simp [intOf];omega
  ·have t1:(xs.length:Int)<=(i:Int):=by omega
   have bc:i=xs.length:=by omega
   have bv:=ij bc;clear bc;go_upto_if 21 with fail
   refine wp_cond_false rfl ?_;refine wp_exit ?_;refine ‹∀ a w,Code.wp Tryz.prog _ _ a w->_› _ _ ?_;obtain⟨base,R⟩:=F.out.row;refine Dx (p:=p) a8 (aJ.out _ _ F.out.c10 U B.out.gr) ?_ ?_
   ·intro j O;obtain⟨g,hg,s0,s1⟩:=qr R G.out.st O;have bi:j<(kl p xs xs.length).length:=by rw [pl _ _ _ (Nat.le_refl _)];exact O
    have ac:=(G.out.th _ (List.getElem_mem O)).1;refine⟨g,(kl p xs xs.length)[j],xs[j].t,?_,hg,?_,aJ.out _ _ s0 U B.out.gr,Nat.le_trans (DW p xs j O) a8,by omega⟩
    ·rw [List.getElem?_eq_getElem (by rw [ro];exact O),DA p xs j O]
    ·have N:=B.out.row;rw [bv.out]at N;simp only [World.cell?,N];have:=su (kl p xs xs.length) xs.length j bi;simpa using this
   ·intro z0 z1 z3 z4 z5 z6 z7 z8 z9 z10 z11 z12 z13 z14 z15 z16 z17 z18 z19 z20 z21 z22 z23 z24 z25 z26 z27 z28 z29 z30 z31 z32 z33 z34 z35 z36 z37 z38 z39 z40 z41 z42 z43 z44 z45 z46 z47 z48 z49 z50 z51 z52 z53 z54 z55 z56 z57 z58 z59 z60 z61 z62 z63 z64 z65 z66 z67 z68 z69 z70 z71 z72 z73 z74 z75 z76 z77 z78 z79 z80 z81 z82 z83 z84 z85 z86 z87 z88 z89 z90 z91 z92 z93 z94 z95 z96 z97 z98 z99 z100 z101 z102 z103 z104 z105 z106 z107 z108 z109 z110 z111 z112 z113 z114 z115 z116 v w' hO;have HO:=ij hO;clear hO;go_ret;refine⟨v,rfl,?_,?_⟩
    ·have hf:=vh (p:=p) (xs:=xs) (fun e he=>by have:=(G.out.th e he).1;omega);have N:=HO.out.row;unfold nx at N;rw [<-hf]at N;exact iQ N (by have:=B.out.gr.size;have:=ag.out.size;omega)
    ·exact il (pJ ag.out B.out.gr (by have:=bz.out;omega)) HO.out.gr
theorem oL{w w':World}(h:w.drew.grownBy w' none):w.grownBy w' none:=⟨h.os,h.tape,h.output,h.size,h.block⟩
theorem nZ(p:List (List Ins))(l:List Int):(iI p l).steps.length<=l.length:=by
 obtain⟨m,h1,h2,a,_⟩:=og p l 0 St.zero [];unfold iI;simp at a;omega
theorem x8{p:List (List Ins)}{s:List Int}(b:iC p s=0):iU p=true/\s.length<=500:=by
 unfold iC at b;by_cases a:iU p=true
 ·by_cases c:s.length<=500
  ·exact⟨a,c⟩
  ·simp [a,c]at b
 ·simp [a]at b
theorem oO{p:List (List Ins)}(f:iU p=true)(s:List Int)(h5:s.length<=500){base:Nat}{u:World}{rv:Value}(k:Ct base u (iI p s) p.length rv)(w:World)(l:u.grownBy w none)(pv:Value)(o:ProgAt w pv p):
  Calls Tryz.prog 56 #[pv,rv] w fun e w'=>∃ v,e= .returned v/\w'.ownsRow w.heap.size 3 1 v (kx p (iI p s)).length (iL (kx p (iI p s)))/\w.grownBy w' none:=by
 obtain⟨xs,b⟩:=nN f s;obtain⟨sv,gv,rfl,c,h⟩:=k;obtain⟨x1,x2,x3,rfl⟩:=iw c;obtain⟨q,j,m,rfl⟩:=iw h;have n:(iI p s).steps.length=xs.length:=by rw [b.st];simp
 have i:=iB c;subst i;have hle:=nZ p s;have d:=iD c l (fun _ e=>by cases e);rw [n]at d ⊢;have:=Al f b (by omega) w pv o base x1 x3 d ((iI p s).st.vars 0) ((iI p s).st.vars 1) ((iI p s).st.vars 2) ((iI p s).st.vars 3) q j m;unfold kx;rw [b.ev];exact this
def Formd(p:List (List Ins))(s:List Int)(w:World)(e:Ending)(w':World):Prop:=
 w.grownBy w' none/\
 ((iC p s=0/\∃ v,e= .returned (.tuple #[v,.int .i64 0])/\w'.ownsRow w.heap.size 3 1 v (kx p (iI p s)).length (iL (kx p (iI p s))))\/
  (iC p s≠0/\e= .returned (.tuple #[.slice none 0 0,.int .i64 (iC p s)])))
theorem FP(p:List (List Ins))(s:List Int)(pv sv:Value)(w:World)(Q:ShpAt w)(t:ProgAt w pv p)(B:IntsAt w.heap.size w sv s):
  Calls Tryz.prog 28 #[pv,sv] w (Formd p s w):=by
 have ad:=ij Q;have n:=ij t;have HI:=ij B;obtain⟨f,d,rfl⟩:=t.form;obtain⟨so,sc,rfl⟩:=B.form;clear Q t B;go_enter Tryz.func28,Tryz.ntmps28
 go_wp2_with fail
 have x:∀ a b,w.grownBy ((w.alloc a).alloc b) none:=fun a b=>iq (iq (ir _ _))
 refine(ou p [s] _ _ _ (ad.out.pres (ip (x _ _))) (n.out.pres (ip (x _ _))) (qX (by simp)) (by simp)).mono ?_;rw [nI];rintro e j ⟨rfl,D⟩;have o:Hid (w.grownBy j none):=il (x _ _) D;have L:j.heap[w.heap.size]?=some (.cells #[.slice f p.length d] 37 (0,0)):=by
  rw [D.block w.heap.size (by simp;omega) (by simp),Below.heap_alloc _ _ _ (by simp)];exact heap_alloc_new w _
 have c0:j.cell? ⟨w.heap.size,0,none⟩=some (.slice f p.length d):=by simp [World.cell?,L]
 clear L D;by_cases c:iC p s=0
 ·have z:=ij c;obtain⟨H,P⟩:=x8 c;have k:=ij H;rw [c];clear c H;go_wp2_with fail
  refine iz (fun u=>u.cell? ⟨w.heap.size,0,none⟩=some (.slice f p.length d)) 7 (by kernel_rfl) (by kernel_rfl) c0 ?_;intro q;refine gJ 0 ?va0 rfl (by kernel_rfl) (fun _ _ _ h=>h) (by rfl) ?ya0 q ?_
  case ya0=>(intro u y;go_simp;try rfl)
  simp only [Act.put,List.setIfInBounds_toArray];refine gJ 1 ?va1 rfl (by kernel_rfl) (fun _ _ _ h=>h) (by rfl) ?ya1 q ?_
  case ya1=>(intro u y;go_simp;try rfl)
  simp only [Act.put];refine gJ 3 ?va3 rfl (by kernel_rfl) (fun _ _ _ h=>h) (by rfl) ?ya3 q ?_
  case ya3=>(intro u y;go_simp;try rfl)
  simp only [Act.put];refine iu (i:=2) rfl (by kernel_rfl) (by kernel_rfl) (by rfl) ?_;intro K2 aa;have X:=ij aa;clear aa;go_simp;refine(zF k.out (n.out.pres (ip (iy o.out)))).mono ?_;rintro e G ⟨m,rfl,K,V⟩;have HM:=ij K;have N:Hid (j.grownBy G none):=oL V;have l:Hid (w.grownBy G none):=il o.out N.out;have R:G.cell? ⟨w.heap.size,0,none⟩=some (.slice f p.length d):=ip N.out _ _ c0;refine X.out _ _ R ?_;clear X K V;try simp only [Act.put,List.setIfInBounds_toArray]
  refine iu (i:=4) rfl (by kernel_rfl) (by kernel_rfl) (by rfl) ?_;intro K4 W;have M:=ij W;clear W;go_simp;refine(uh k.out HM.out (Nat.le_refl _) ((HI.out.pres (ip l.out)).mono l.out.size) P).mono ?_;rintro e F ⟨rv,rfl,O,C⟩;have HR:=ij O;have A:Hid (w.grownBy F none):=il l.out C;have J:F.cell? ⟨w.heap.size,0,none⟩=some (.slice f p.length d):=ip C _ _ R;refine M.out _ _ J ?_;clear M O C;try simp only [Act.put,List.setIfInBounds_toArray]
  refine iu (i:=5) rfl (by kernel_rfl) (by kernel_rfl) (by rfl) ?_;intro K5 Z;have U:=ij Z;clear Z;go_simp;refine(oO k.out s P HR.out F (ir _ _) _ (n.out.pres (ip A.out))).mono ?_;rintro e Y ⟨fv,rfl,E,r⟩;obtain⟨f1,f2,f3,rfl⟩:=iw E;have HF:=ij E;have ah:Hid (w.grownBy Y none):=il A.out r;have I:Y.cell? ⟨w.heap.size,0,none⟩=some (.slice f p.length d):=ip r _ _ J;refine U.out _ _ I ?_;clear U E r;try simp only [Act.put,List.setIfInBounds_toArray]
  refine gJ 6 ?vb6 rfl (by kernel_rfl) (fun _ _ _ h=>h) (by rfl) ?yb6 I ?_
  case yb6=>(intro u y;go_simp;try rfl)
  simp only [Act.put,List.setIfInBounds_toArray];refine iH rfl (by kernel_rfl) (by kernel_rfl) (by rfl) ?_;go_simp;go_wp2_with fail
  exact bodyPost_ret (v:= .tuple #[.slice f1 f2 f3,.int .i64 0]) (by simp [results,Tryz.results28,go_sem]) rfl ⟨ah.out,Or.inl ⟨z.out,_,rfl,iQ HF.out A.out.size⟩⟩
 ·have z:=ij c;have hne:(iC p s !=0)=true:=by simpa using c
  clear c;generalize S:iC p s=e at*;have T:=ij S;clear S;go_wp2_with fail
  exact bodyPost_ret (v:= .tuple #[.slice none 0 0,.int .i64 e]) (by simp [results,Tryz.results28,go_sem]) rfl ⟨o.out,Or.inr ⟨by rw [T.out];exact z.out,by rw [T.out]⟩⟩
theorem zO(w:World):jt w w:=⟨rfl,rfl,rfl,rfl⟩
theorem vf{w' w:World}(h:jt w' w)(n:Nat):jt (w'.drewN n) w:=by
 obtain⟨a,b,c,d⟩:=h;exact⟨a,b,c,d⟩
theorem BS(l m:List Int)(v u:Value)(w:World)(I:IntsAt w.heap.size w v l)(D:IntsAt w.heap.size w u m)(hln:l.length<=9223372036854775806):
  Calls Tryz.prog 60 #[v,u] w fun e w'=>e= .returned (.bool (l==m))/\jt w' w:=by
 obtain⟨ao,cap,rfl,hcap,hc⟩:=I;obtain⟨bo,dap,rfl,hdap,j⟩:=D;by_cases q:l.length=m.length
 ·have C:=ij hc;have G:=ij j;clear hc j;have F:(l.length:Int)=m.length:=by omega
  have K:((l.length:Int) !=(m.length:Int))=false:=by simp;omega
  have r:=ij q;go_enter Tryz.func60,Tryz.ntmps60
  clear q F;go_wp2_with fail
  go_loopw [13] (fun i w'=>∃ k:Nat,k<=l.length/\i= .int .i64 k/\Hid (jt w' w)/\Hid (l.take k=m.take k)) (fun i _=>l.length - (intOf i).toNat)
  case atStart=>exact⟨0,Nat.zero_le _,rfl,ij (zO _),by simp [Hid]⟩
  case round=>
   obtain⟨k,hk,rfl,f,t⟩:=hrel;obtain⟨c,J⟩:∃ c,c=wr:=⟨_,rfl⟩;subst J;by_cases z:k<l.length
   ·have A:k<m.length:=by have:=r.out;omega
    obtain⟨g,o,rfl,_,c0⟩:=C.out k z;obtain⟨g2,H,rfl,_,c1⟩:=G.out k A;have n:∀ a,c.cell? a=w.cell? a:=fun a=>by simp [World.cell?,f.out.1]
    have d0:c.cell? ⟨g,o+k,none⟩=some (.int .i64 l[k]):=by rw [n];exact c0
    have d1:c.cell? ⟨g2,H+k,none⟩=some (.int .i64 m[k]):=by rw [n];exact c1
    have hk0:(0:Int)<=(k:Int):=by omega
    have hk1:(k:Int)<l.length:=by omega
    have hk2:(k:Int)<m.length:=by omega
    have p:Hid (l.take (k+1)=l.take k++[l[k]]):=List.take_succ_eq_append_getElem z;have h:Hid (m.take (k+1)=m.take k++[m[k]]):=List.take_succ_eq_append_getElem A;clear n c0 c1;by_cases b:l[k]=m[k]
    ·have E:(l[k] !=m[k])=false:=by simpa using b
     have B:Hid (l.take (k+1)=m.take (k+1)):=by unfold Hid;rw [p.out,h.out,t.out,b]
     clear b p h;generalize l[k]=x at*;generalize m[k]=y at*;go_wp2_with fail
     go_quiet (fail)
     go_wp2_with fail
     go_roundw
     case rel=>exact⟨k+1,by omega,by go_num,ij (vf f.out _),B⟩
     case measure=>simp [intOf];omega
    ·have E:(l[k] !=m[k])=true:=by simpa using b
     have d:Hid ((l==m)=false):=by
      unfold Hid;simp only [beq_eq_false_iff_ne];intro e;apply b;simp [e]
     clear b p h;generalize l[k]=x at*;generalize m[k]=y at*;go_wp2_with fail
     go_quiet (fail)
     go_wp2_with fail
     go_ret;exact⟨by rw [d.out];rfl,vf f.out _⟩
   ·have d:Hid ((l==m)=true):=by
     unfold Hid;have s:=t.out;rw [List.take_of_length_le (by omega),List.take_of_length_le (by have:=r.out;omega)]at s;simpa using s
    have q2:(l.length:Int)<=(k:Int):=by omega
    go_wp2_with fail
    go_ret;exact⟨by rw [d.out];rfl,f.out⟩
 ·have d:Hid ((l==m)=false):=by
   unfold Hid;simp only [beq_eq_false_iff_ne];intro e;exact q (by rw [e])
  have K:((l.length:Int) !=(m.length:Int))=true:=by simp;omega
  clear hc j;go_enter Tryz.func60,Tryz.ntmps60
  go_wp2_with fail
  go_ret;exact⟨by rw [d.out];rfl,zO _⟩
end
section
def l9(a b:Out):Bool:=if a.kind=2 then b.kind==2 else (a.kind==b.kind && a.thread==b.thread && a.at_==b.at_)
def jb(l:List Int)(i:Nat):List Int:=l.take i++l.drop (i+1)
def kj(o:Out):Nat:=if o.kind=2 then o.steps.length+1 else o.steps.length
def shr(p:List (List Ins))(V:Out):Nat->List Int->Nat->Nat->List Int × Nat
 | 0,l,_,u=>(l,u)
 | n+1,l,i,u=>if i<l.length then (if l9 (iI p (jb l i)) V=true then shr p V n (jb l i) 0 (u+1) else shr p V n l (i+1) (u+1)) else (l,u)
def mm(p:List (List Ins))(s:List Int)(fuel:Nat):List Int × Nat:=shr p (iI p s) fuel (s.take (kj (iI p s))) 0 0
theorem oJ{l:List Int}{i:Nat}(h:i<l.length):(jb l i).length+1=l.length:=by
 unfold jb;simp;omega
section
variable {p : List (List Ins)} {V : Out}
theorem uQ:∀ (n:Nat) (l:List Int) (i u:Nat),(shr p V n l i u).1.length<=l.length
 | 0,l,i,u=>Nat.le_refl _
 | n+1,l,i,u=>by
  unfold shr;split
  ·rename_i hi
   have:=oJ hi;split
   ·have:=uQ n (jb l i) 0 (u+1);omega
   ·exact uQ n l (i+1) (u+1)
  ·exact Nat.le_refl _
end
theorem zD(p:List (List Ins))(s:List Int):iI p (s.take (kj (iI p s)))=iI p s/\kj (iI p s)<=s.length:=by
 have hc:=na p s 0 St.zero [];change ∃ xs a,RunE p St.zero xs a/\(iI p s).steps=[]++xs.map Ev.pr/\(iI p s).st=a/\((good xs/\xs.map Ev.tI=s/\(iI p s).kind=jQ p a/\(iI p s).thread=0/\(iI p s).at_=0)\/(good xs/\(∃ u r,s=xs.map Ev.tI++u::r/\m8 p a u=false)/\(iI p s).kind=2/\(iI p s).thread=0/\(iI p s).at_=0+xs.length)\/(∃ ys z r,xs=ys++[z]/\good ys/\z.bad=true/\s=xs.map Ev.tI++r/\(iI p s).kind=1/\(iI p s).thread=z.tI/\(iI p s).at_=z.k))at hc
 obtain⟨xs,a,h,c,i,hc⟩:=hc;rw [List.nil_append]at c;have f:(iI p s).steps.length=xs.length:=by rw [c];simp
 have eq_of:∀ o:Out,o.steps=(iI p s).steps->o.kind=(iI p s).kind->o.thread=(iI p s).thread->o.at_=(iI p s).at_->o.st=(iI p s).st->o=iI p s:=by
  intro o l m t n j;cases o
  generalize iI p s=q at*;cases q
  simp at*;exact⟨l,m,t,n,j⟩
 rcases hc with ⟨g1,g2,g3,g4,g5⟩ | ⟨g1,⟨u,r,g2,g2'⟩,g3,g4,g5⟩ | ⟨us,z,r,g1,g2,g3,g4,g5,g6,g7⟩
 ·have b:kj (iI p s)=s.length:=by
   unfold kj;rw [if_neg (by have:=pu p a;omega),f,<-g2];simp
  rw [b,List.take_length];exact⟨rfl,Nat.le_refl _⟩
 ·have b:kj (iI p s)=xs.length+1:=by unfold kj;rw [if_pos g3,f]
  have e:s.take (xs.length+1)=xs.map Ev.tI++[u]:=by
   rw [g2,List.take_append,List.take_of_length_le (by simp)];simp
  rw [b,e];refine⟨?_,by rw [g2];simp⟩;have d:iI p (xs.map Ev.tI++[u])=⟨xs.map Ev.pr,2,0,0+xs.length,a⟩:=by
   unfold iI;rw [nl p xs [u] 0 St.zero a [] g1 h,kn p u [] _ _ _ g2'];simp
  rw [d];exact eq_of _ c.symm g3.symm g4.symm g5.symm i.symm
 ·have b:kj (iI p s)=xs.length:=by unfold kj;rw [if_neg (by omega),f]
  have e:s.take xs.length=xs.map Ev.tI:=by
   rw [g4,List.take_append,List.take_of_length_le (by simp)];simp
  rw [b,e];refine⟨?_,by rw [g4];simp⟩;subst g1;have d:iI p ((us++[z]).map Ev.tI)=⟨(us++[z]).map Ev.pr,1,z.tI,z.k,a⟩:=by
   unfold iI;rw [xP g2 g3 h];simp
  rw [d];exact eq_of _ c.symm g5.symm g6.symm g7.symm i.symm
end
section
open Go.RowKit
attribute [local go_sem] Go.World.cell?_alloc_some
def CU(o:Out):Value:= .agg #[.int .i64 o.kind,.int .i64 o.thread,.int .i64 o.at_]
theorem pq(a b:Out)(w:World):Calls Tryz.prog 59 #[CU a,CU b] w fun e w'=>e= .returned (.bool (l9 a b))/\w.grownBy w' none:=by
 obtain⟨q,f,l,m,n⟩:=a;obtain⟨bs,d,k,j,o⟩:=b;unfold CU;simp only;have p:Hid (∀ x y,w.grownBy ((w.alloc x).alloc y) none):=fun x y=>iq (iq (ir _ _))
 by_cases c:f=2
 ·by_cases h:d=2
  ·have i:Hid (l9 ⟨q,f,l,m,n⟩ ⟨bs,d,k,j,o⟩=true):=by unfold Hid l9;simp [c,h]
   subst c h;go_enter Tryz.func59,Tryz.ntmps59
   go_wp2_with fail
   go_ret;exact⟨by rw [i.out];rfl,p.out _ _⟩
  ·have i:Hid (l9 ⟨q,f,l,m,n⟩ ⟨bs,d,k,j,o⟩=false):=by unfold Hid l9;simp [c,h]
   have hb:(d==2)=false:=by simpa using h
   subst c;clear h;go_enter Tryz.func59,Tryz.ntmps59
   go_wp2_with fail
   go_ret;exact⟨by rw [i.out];rfl,p.out _ _⟩
 ·have i:Hid (l9 ⟨q,f,l,m,n⟩ ⟨bs,d,k,j,o⟩=(f==d && l==k && m==j)):=by unfold Hid l9;simp [c]
  have ha:(f==2)=false:=by simpa using c
  clear c;go_enter Tryz.func59,Tryz.ntmps59
  go_wp2_with fail
  all_goals (go_ret;refine⟨?_,p.out _ _⟩;rw [i.out];simp [*])
theorem Av{W:World}{c d:Option Addr}{a b:List Int}{f e:Nat}{t:TypeId}{g:Nat}(i:W.heap.size=g):vj (W.alloc (.cells #[.slice c a.length f,.slice d b.length e] t)) (.slice (some ⟨g,0,none⟩) 2 2) [a,b]:=by
 subst i;have h:=heap_alloc_new W (.cells #[.slice c a.length f,.slice d b.length e] t);refine⟨W.heap.size,0,2,rfl,fun k hk=>?_⟩;have j:k=0\/k=1:=by simp at hk;omega
 rcases j with rfl | rfl
 ·exact⟨c,f,by simp only [World.cell?,h];rfl⟩
 ·exact⟨d,e,by simp only [World.cell?,h];rfl⟩
theorem xC{p:List (List Ins)}{a b:List Int}(d:iT p [a,b]=0):iU p=true/\a.length<=500/\b.length<=500:=by
 unfold iT at d;by_cases c:iU p=true
 ·by_cases e:a.length<=500
  ·by_cases f:b.length<=500
   ·exact⟨c,e,f⟩
   ·simp [c,e,f]at d
  ·simp [c,e]at d
 ·simp [c]at d
def rH(p:List (List Ins))(a b:List Int):Bool:=l9 (iI p a) (iI p b) && (kx p (iI p a)==kx p (iI p b))
def Samed(p:List (List Ins))(a b:List Int)(w:World)(e:Ending)(w':World):Prop:=
 w.grownBy w' none/\((iT p [a,b]=0/\e= .returned (.tuple #[.bool (rH p a b),.int .i64 0]))\/(iT p [a,b]≠0/\e= .returned (.tuple #[.bool false,.int .i64 (iT p [a,b])])))
theorem DK(p:List (List Ins))(a b:List Int)(pv av bv:Value)(w:World)(hS:ShpAt w)(A:ProgAt w pv p)(hI:IntsAt w.heap.size w av a)(hJ:IntsAt w.heap.size w bv b):
  Calls Tryz.prog 34 #[pv,av,bv] w (Samed p a b w):=by
 have bw:=ij hS;have HP:=ij A;have HI:=ij hI;have HJ:=ij hJ;obtain⟨d,q,rfl⟩:=A.form;obtain⟨so,sc,rfl⟩:=hI.form;obtain⟨sp,sd,rfl⟩:=hJ.form;clear hS A hI hJ;go_enter Tryz.func34,Tryz.ntmps34
 go_wp2_with fail
 have aC:∀ x y,w.grownBy ((w.alloc x).alloc y) none:=fun x y=>iq (iq (ir _ _))
 refine(ou p [a,b] _ _ _ (bw.out.pres (ip (aC _ _))) (HP.out.pres (ip (aC _ _))) (Av (by simp)) (by simp)).mono ?_;rintro e w1 ⟨rfl,aw⟩;have aE:Hid (w.grownBy w1 none):=il (aC _ _) aw;have o:w1.heap[w.heap.size]?=some (.cells #[.slice d p.length q] 37 (0,0)):=by
  rw [aw.block w.heap.size (by simp;omega) (by simp),Below.heap_alloc _ _ _ (by simp)];exact heap_alloc_new w _
 have c0:w1.cell? ⟨w.heap.size,0,none⟩=some (.slice d p.length q):=by simp [World.cell?,o]
 clear o aw;by_cases C:iT p [a,b]=0
 ·have H0:=ij C;obtain⟨hv,h5,h6⟩:=xC C;have F:=ij hv;rw [C];clear C hv;go_wp2_with fail
  refine(zF F.out (HP.out.pres (ip aE.out))).mono ?_;rintro e w2 ⟨m,rfl,hM,N⟩;have HM:=ij hM;have ai:Hid (w.grownBy w2 none):=il aE.out N;have c2:=ip N _ _ c0;clear hM N c0;go_wp2_with fail
  refine(uh F.out HM.out (Nat.le_refl _) ((HI.out.pres (ip ai.out)).mono ai.out.size) h5).mono ?_;rintro e w3 ⟨rv,rfl,hR,P⟩;have aV:Hid (w.grownBy w3 none):=il ai.out P;have HR:=ij hR;have c3:=ip P _ _ c2;have bo:Hid (MachAt w2.heap.size w3 m p):=HM.out.grown' (Nat.le_refl _) P;have bK:=P.size;obtain⟨sv,gv,rfl,L,Q⟩:=hR;obtain⟨x1,x2,x3,rfl⟩:=iw L;obtain⟨k,r,t,rfl⟩:=iw Q;clear P c2 L Q;have bq:Hid (IntsAt w2.heap.size w3 (.slice sp b.length sd) b):=(HJ.out.pres (ip aV.out)).mono ai.out.size;go_wp2_with fail
  refine(uh F.out bo.out bK bq.out h6).mono ?_;rintro e c ⟨rv,rfl,aL,Y⟩;have ap:Hid (w.grownBy c none):=il aV.out Y;have bN:=ij Y;have be:=ij aL;have c4:=ip Y _ _ c3;obtain⟨sv,gv,rfl,L,Q⟩:=aL;obtain⟨z1,f,l,rfl⟩:=iw L;obtain⟨n,s,j,rfl⟩:=iw Q;clear Y c3 L Q;have bG:=ij (fun(w:World) (h:w3.grownBy w none) (A:ProgAt w (.agg #[.slice d p.length q]) p)=>oO F.out a h5 HR.out w h (.agg #[.slice d p.length q]) A);have bD:=ij (fun(w:World) (h:c.grownBy w none) (A:ProgAt w (.agg #[.slice d p.length q]) p)=>oO F.out b h6 be.out w h (.agg #[.slice d p.length q]) A);have aQ:Hid (rH p a b=(l9 (iI p a) (iI p b) && (kx p (iI p a)==kx p (iI p b)))):=rfl;have bJ:Hid ((kx p (iI p a)).length<=500):=by
   unfold Hid kx;rw [m7];obtain⟨xs,aM⟩:=nN F.out a;rw [aM.ev];have h1:=nZ p a;rw [aM.st]at h1;simp at h1;omega
  clear HR be;generalize bi:iI p a=oa at*;generalize bQ:iI p b=ob at*;clear bi bQ;go_upto_region 6 with fail
  have am:Hid (((c.alloc (.cells #[.int .i64 oa.kind,.int .i64 oa.thread,.int .i64 oa.at_,.slice x1 x2 x3,.int .i64 (oa.st.vars 0),.int .i64 (oa.st.vars 1),.int .i64 (oa.st.vars 2),.int .i64 (oa.st.vars 3),.slice k r t] 31)).alloc (.cells #[.int .i64 ob.kind,.int .i64 ob.thread,.int .i64 ob.at_,.slice z1 f l,.int .i64 (ob.st.vars 0),.int .i64 (ob.st.vars 1),.int .i64 (ob.st.vars 2),.int .i64 (ob.st.vars 3),.slice n s j] 31)).heap[c.heap.size]?=some (.cells #[.int .i64 oa.kind,.int .i64 oa.thread,.int .i64 oa.at_,.slice x1 x2 x3,.int .i64 (oa.st.vars 0),.int .i64 (oa.st.vars 1),.int .i64 (oa.st.vars 2),.int .i64 (oa.st.vars 3),.slice k r t] 31)):=by
   unfold Hid;rw [Below.heap_alloc _ _ _ (by simp)];exact heap_alloc_new _ _
  have ay:Hid (((c.alloc (.cells #[.int .i64 oa.kind,.int .i64 oa.thread,.int .i64 oa.at_,.slice x1 x2 x3,.int .i64 (oa.st.vars 0),.int .i64 (oa.st.vars 1),.int .i64 (oa.st.vars 2),.int .i64 (oa.st.vars 3),.slice k r t] 31)).alloc (.cells #[.int .i64 ob.kind,.int .i64 ob.thread,.int .i64 ob.at_,.slice z1 f l,.int .i64 (ob.st.vars 0),.int .i64 (ob.st.vars 1),.int .i64 (ob.st.vars 2),.int .i64 (ob.st.vars 3),.slice n s j] 31)).heap[c.heap.size+1]?=some (.cells #[.int .i64 ob.kind,.int .i64 ob.thread,.int .i64 ob.at_,.slice z1 f l,.int .i64 (ob.st.vars 0),.int .i64 (ob.st.vars 1),.int .i64 (ob.st.vars 2),.int .i64 (ob.st.vars 3),.slice n s j] 31)):=by
   have:=heap_alloc_new (c.alloc (.cells #[.int .i64 oa.kind,.int .i64 oa.thread,.int .i64 oa.at_,.slice x1 x2 x3,.int .i64 (oa.st.vars 0),.int .i64 (oa.st.vars 1),.int .i64 (oa.st.vars 2),.int .i64 (oa.st.vars 3),.slice k r t] 31)) (.cells #[.int .i64 ob.kind,.int .i64 ob.thread,.int .i64 ob.at_,.slice z1 f l,.int .i64 (ob.st.vars 0),.int .i64 (ob.st.vars 1),.int .i64 (ob.st.vars 2),.int .i64 (ob.st.vars 3),.slice n s j] 31);unfold Hid;simpa using this
  have I:Hid (c.grownBy ((c.alloc (.cells #[.int .i64 oa.kind,.int .i64 oa.thread,.int .i64 oa.at_,.slice x1 x2 x3,.int .i64 (oa.st.vars 0),.int .i64 (oa.st.vars 1),.int .i64 (oa.st.vars 2),.int .i64 (oa.st.vars 3),.slice k r t] 31)).alloc (.cells #[.int .i64 ob.kind,.int .i64 ob.thread,.int .i64 ob.at_,.slice z1 f l,.int .i64 (ob.st.vars 0),.int .i64 (ob.st.vars 1),.int .i64 (ob.st.vars 2),.int .i64 (ob.st.vars 3),.slice n s j] 31)) none):=iq (iq (ir _ _));generalize (c.alloc (.cells #[.int .i64 oa.kind,.int .i64 oa.thread,.int .i64 oa.at_,.slice x1 x2 x3,.int .i64 (oa.st.vars 0),.int .i64 (oa.st.vars 1),.int .i64 (oa.st.vars 2),.int .i64 (oa.st.vars 3),.slice k r t] 31)).alloc (.cells #[.int .i64 ob.kind,.int .i64 ob.thread,.int .i64 ob.at_,.slice z1 f l,.int .i64 (ob.st.vars 0),.int .i64 (ob.st.vars 1),.int .i64 (ob.st.vars 2),.int .i64 (ob.st.vars 3),.slice n s j] 31)=w5 at*;have M:Hid (∀ u,w5.grownBy u none->u.cell? ⟨w.heap.size,0,none⟩=some (.slice d p.length q)/\(u.cell? ⟨c.heap.size,0,none⟩=some (.int .i64 oa.kind)/\u.cell? ⟨c.heap.size,1,none⟩=some (.int .i64 oa.thread)/\u.cell? ⟨c.heap.size,2,none⟩=some (.int .i64 oa.at_)/\u.cell? ⟨c.heap.size,3,none⟩=some (.slice x1 x2 x3)/\u.cell? ⟨c.heap.size,4,none⟩=some (.int .i64 (oa.st.vars 0))/\u.cell? ⟨c.heap.size,5,none⟩=some (.int .i64 (oa.st.vars 1))/\u.cell? ⟨c.heap.size,6,none⟩=some (.int .i64 (oa.st.vars 2))/\u.cell? ⟨c.heap.size,7,none⟩=some (.int .i64 (oa.st.vars 3))/\u.cell? ⟨c.heap.size,8,none⟩=some (.slice k r t))/\(u.cell? ⟨c.heap.size+1,0,none⟩=some (.int .i64 ob.kind)/\u.cell? ⟨c.heap.size+1,1,none⟩=some (.int .i64 ob.thread)/\u.cell? ⟨c.heap.size+1,2,none⟩=some (.int .i64 ob.at_)/\u.cell? ⟨c.heap.size+1,3,none⟩=some (.slice z1 f l)/\u.cell? ⟨c.heap.size+1,4,none⟩=some (.int .i64 (ob.st.vars 0))/\u.cell? ⟨c.heap.size+1,5,none⟩=some (.int .i64 (ob.st.vars 1))/\u.cell? ⟨c.heap.size+1,6,none⟩=some (.int .i64 (ob.st.vars 2))/\u.cell? ⟨c.heap.size+1,7,none⟩=some (.int .i64 (ob.st.vars 3))/\u.cell? ⟨c.heap.size+1,8,none⟩=some (.slice n s j))):=fun u hu=>by
   have ka:u.heap[c.heap.size]?=some (.cells #[.int .i64 oa.kind,.int .i64 oa.thread,.int .i64 oa.at_,.slice x1 x2 x3,.int .i64 (oa.st.vars 0),.int .i64 (oa.st.vars 1),.int .i64 (oa.st.vars 2),.int .i64 (oa.st.vars 3),.slice k r t] 31):=by rw [hu.block _ (Array.getElem?_eq_some_iff.1 am.out).1 (by simp)];exact am.out
   have kb:u.heap[c.heap.size+1]?=some (.cells #[.int .i64 ob.kind,.int .i64 ob.thread,.int .i64 ob.at_,.slice z1 f l,.int .i64 (ob.st.vars 0),.int .i64 (ob.st.vars 1),.int .i64 (ob.st.vars 2),.int .i64 (ob.st.vars 3),.slice n s j] 31):=by rw [hu.block _ (Array.getElem?_eq_some_iff.1 ay.out).1 (by simp)];exact ay.out
   obtain⟨p0,p1,p2,p3,p4,p5,p6,p7,p8,_⟩:=kw ka;obtain⟨q0,q1,q2,q3,q4,q5,q6,q7,q8,_⟩:=kw kb;exact⟨ip (il I.out hu) _ _ c4,⟨p0,p1,p2,p3,p4,p5,p6,p7,p8⟩,⟨q0,q1,q2,q3,q4,q5,q6,q7,q8⟩⟩
  have bb:Hid (∀ u,w5.grownBy u none->ProgAt u (.agg #[.slice d p.length q]) p):=fun u hu=>HP.out.pres (ip (il ap.out (il I.out hu)))
  obtain⟨_,⟨G,E,K,_⟩,⟨o,D,H,_⟩⟩:=M.out w5 (ir _ _);clear c4 am ay;go_wp2_with fail
  refine(pq oa ob _).mono ?_;rintro e w6 ⟨rfl,aF⟩;have B:=ij aF;have bl:Hid (w.grownBy w6 none):=il ap.out (il I.out aF);clear aF G E K o D H;cases hlk:l9 oa ob
  ·have J:Hid (rH p a b=false):=by unfold Hid;rw [aQ.out,hlk];rfl
   clear hlk;go_wp2_with fail
   exact bodyPost_ret (v:= .tuple #[.bool false,.int .i64 0]) (by simp [results,Tryz.results34,go_sem]) rfl ⟨bl.out,Or.inl ⟨H0.out,by rw [J.out]⟩⟩
  ·have J:Hid (rH p a b=(kx p oa==kx p ob)):=by unfold Hid;rw [aQ.out,hlk];rfl
   clear hlk;have bR:=M.out w6.drew (iy B.out);go_wp2_with fail
   refine iz (fun u=>u.cell? ⟨w.heap.size,0,none⟩=some (.slice d p.length q)/\(u.cell? ⟨c.heap.size,0,none⟩=some (.int .i64 oa.kind)/\u.cell? ⟨c.heap.size,1,none⟩=some (.int .i64 oa.thread)/\u.cell? ⟨c.heap.size,2,none⟩=some (.int .i64 oa.at_)/\u.cell? ⟨c.heap.size,3,none⟩=some (.slice x1 x2 x3)/\u.cell? ⟨c.heap.size,4,none⟩=some (.int .i64 (oa.st.vars 0))/\u.cell? ⟨c.heap.size,5,none⟩=some (.int .i64 (oa.st.vars 1))/\u.cell? ⟨c.heap.size,6,none⟩=some (.int .i64 (oa.st.vars 2))/\u.cell? ⟨c.heap.size,7,none⟩=some (.int .i64 (oa.st.vars 3))/\u.cell? ⟨c.heap.size,8,none⟩=some (.slice k r t))/\(u.cell? ⟨c.heap.size+1,0,none⟩=some (.int .i64 ob.kind)/\u.cell? ⟨c.heap.size+1,1,none⟩=some (.int .i64 ob.thread)/\u.cell? ⟨c.heap.size+1,2,none⟩=some (.int .i64 ob.at_)/\u.cell? ⟨c.heap.size+1,3,none⟩=some (.slice z1 f l)/\u.cell? ⟨c.heap.size+1,4,none⟩=some (.int .i64 (ob.st.vars 0))/\u.cell? ⟨c.heap.size+1,5,none⟩=some (.int .i64 (ob.st.vars 1))/\u.cell? ⟨c.heap.size+1,6,none⟩=some (.int .i64 (ob.st.vars 2))/\u.cell? ⟨c.heap.size+1,7,none⟩=some (.int .i64 (ob.st.vars 3))/\u.cell? ⟨c.heap.size+1,8,none⟩=some (.slice n s j))) 8 (by kernel_rfl) (by kernel_rfl) bR ?_;intro O;refine gJ 0 ?va0 rfl (by kernel_rfl) (fun _ _ _ h=>h) (by rfl) ?ya0 O ?_
   case ya0=>(rintro u ⟨W,⟨G,E,K,ah,V,ak,U,R,ae⟩,⟨o,D,H,ab,al,X,T,Z,ac⟩⟩;go_simp;try rfl)
   simp only [Act.put,List.setIfInBounds_toArray];refine gJ 1 ?va1 rfl (by kernel_rfl) (fun _ _ _ h=>h) (by rfl) ?ya1 O ?_
   case ya1=>(rintro u ⟨W,⟨G,E,K,ah,V,ak,U,R,ae⟩,⟨o,D,H,ab,al,X,T,Z,ac⟩⟩;go_simp;try rfl)
   simp only [Act.put];refine gJ 3 ?va3 rfl (by kernel_rfl) (fun _ _ _ h=>h) (by rfl) ?ya3 O ?_
   case ya3=>(rintro u ⟨W,⟨G,E,K,ah,V,ak,U,R,ae⟩,⟨o,D,H,ab,al,X,T,Z,ac⟩⟩;go_simp;try rfl)
   simp only [Act.put];refine gJ 4 ?va4 rfl (by kernel_rfl) (fun _ _ _ h=>h) (by rfl) ?ya4 O ?_
   case ya4=>(rintro u ⟨W,⟨G,E,K,ah,V,ak,U,R,ae⟩,⟨o,D,H,ab,al,X,T,Z,ac⟩⟩;go_simp;try rfl)
   simp only [Act.put];refine iu (i:=2) rfl (by kernel_rfl) (by kernel_rfl) (by rfl) ?_;intro K2 aO;have a6:=ij aO;clear aO;go_simp;refine(bG.out _ (iy (il bN.out (il I.out B.out))) (bb.out _ (iy B.out))).mono ?_;rintro e w7 ⟨fa,rfl,S,aS⟩;obtain⟨f1,f2,f3,rfl⟩:=iw S;have bT:=iB S;subst bT;have aY:=ij (jy S);have aj:Hid (w6.grownBy w7 none):=oL aS;have aP:=M.out w7 (il B.out aj.out);refine a6.out _ _ aP ?_;clear a6 S aS;try simp only [Act.put,List.setIfInBounds_toArray]
   refine iu (i:=5) rfl (by kernel_rfl) (by kernel_rfl) (by rfl) ?_;intro K5 a7;have a4:=ij a7;clear a7;go_simp;refine(bD.out _ (il I.out (il B.out aj.out)) (bb.out _ (il B.out aj.out))).mono ?_;rintro e w8 ⟨fb,rfl,ag,aB⟩;obtain⟨g1,g2,g3,rfl⟩:=iw ag;have N:=iB ag;subst N;have bH:=ij (jy ag);have a1:=ij aB;have ar:Hid (w5.grownBy w8 none):=il B.out (il aj.out aB);have a9:=M.out w8 ar.out;refine a4.out _ _ a9 ?_;clear a4 ag aB;try simp only [Act.put,List.setIfInBounds_toArray]
   refine iu (i:=6) rfl (by kernel_rfl) (by kernel_rfl) (by rfl) ?_;intro K6 a8;have aX:=ij a8;clear a8;go_simp;have bO:(kx p oa).length<=9223372036854775806:=by
    obtain⟨_,_,e,_⟩:=aY.out;have:=bJ.out;omega
   refine(BS (kx p oa) (kx p ob) _ _ w8 ((aY.out.pres (ip a1.out)).mono a1.out.size) bH.out bO).mono ?_;rintro e w9 ⟨rfl,aR⟩;have aq:w8.grownBy w9 none:=iK aR;have bC:Hid (w.grownBy w9 none):=il (il ap.out I.out) (il ar.out aq);have aG:=M.out w9 (il ar.out aq);refine aX.out _ _ aG ?_;clear aX aR aq;try simp only [Act.put,List.setIfInBounds_toArray]
   refine gJ 7 ?vb7 rfl (by kernel_rfl) (fun _ _ _ h=>h) (by rfl) ?yb7 aG ?_
   case yb7=>(rintro u ⟨W,⟨G,E,K,ah,V,ak,U,R,ae⟩,⟨o,D,H,ab,al,X,T,Z,ac⟩⟩;go_simp;try rfl)
   simp only [Act.put,List.setIfInBounds_toArray];refine iH rfl (by kernel_rfl) (by kernel_rfl) (by rfl) ?_;go_simp;generalize hz:(kx p oa==kx p ob)=z at*;clear hz O aP a9 aG;go_wp2_with fail
   exact bodyPost_ret (v:= .tuple #[.bool z,.int .i64 0]) (by simp [results,Tryz.results34,go_sem]) rfl ⟨bC.out,Or.inl ⟨H0.out,by rw [J.out]⟩⟩
 ·have H0:=ij C;have hne:(iT p [a,b] !=0)=true:=by simpa using C
  clear C;generalize hE:iT p [a,b]=e at*;have J:=ij hE;clear hE;go_wp2_with fail
  exact bodyPost_ret (v:= .tuple #[.bool false,.int .i64 e]) (by simp [results,Tryz.results34,go_sem]) rfl ⟨aE.out,Or.inr ⟨by rw [J.out];exact H0.out,by rw [J.out]⟩⟩
theorem tO(l m:List Int)(v u:Value)(w:World)(I:IntsAt w.heap.size w v l)(D:IntsAt w.heap.size w u m)(hln:l.length<=9223372036854775806):
  Calls Tryz.prog 61 #[v,u] w fun e w'=>e= .returned (.bool (l==m))/\jt w' w:=by
 obtain⟨ao,cap,rfl,hcap,hc⟩:=I;obtain⟨bo,dap,rfl,hdap,j⟩:=D;by_cases q:l.length=m.length
 ·have C:=ij hc;have G:=ij j;clear hc j;have F:(l.length:Int)=m.length:=by omega
  have K:((l.length:Int) !=(m.length:Int))=false:=by simp;omega
  have r:=ij q;go_enter Tryz.func61,Tryz.ntmps61
  clear q F;go_wp2_with fail
  go_loopw [5] (fun i w'=>∃ k:Nat,k<=l.length/\i= .int .i64 k/\Hid (jt w' w)/\Hid (l.take k=m.take k)) (fun i _=>l.length - (intOf i).toNat)
  case atStart=>exact⟨0,Nat.zero_le _,rfl,ij (zO _),by simp [Hid]⟩
  case round=>
   obtain⟨k,hk,rfl,f,t⟩:=hrel;obtain⟨c,J⟩:∃ c,c=wr:=⟨_,rfl⟩;subst J;by_cases z:k<l.length
   ·have A:k<m.length:=by have:=r.out;omega
    obtain⟨g,o,rfl,_,c0⟩:=C.out k z;obtain⟨g2,H,rfl,_,c1⟩:=G.out k A;have n:∀ a,c.cell? a=w.cell? a:=fun a=>by simp [World.cell?,f.out.1]
    have d0:c.cell? ⟨g,o+k,none⟩=some (.int .i64 l[k]):=by rw [n];exact c0
    have d1:c.cell? ⟨g2,H+k,none⟩=some (.int .i64 m[k]):=by rw [n];exact c1
    have hk0:(0:Int)<=(k:Int):=by omega
    have hk1:(k:Int)<l.length:=by omega
    have hk2:(k:Int)<m.length:=by omega
    have p:Hid (l.take (k+1)=l.take k++[l[k]]):=List.take_succ_eq_append_getElem z;have h:Hid (m.take (k+1)=m.take k++[m[k]]):=List.take_succ_eq_append_getElem A;clear n c0 c1;by_cases b:l[k]=m[k]
    ·have E:(l[k] !=m[k])=false:=by simpa using b
     have B:Hid (l.take (k+1)=m.take (k+1)):=by unfold Hid;rw [p.out,h.out,t.out,b]
     clear b p h;generalize l[k]=x at*;generalize m[k]=y at*;go_wp2_with fail
     go_quiet (fail)
     go_wp2_with fail
     go_roundw
     case rel=>exact⟨k+1,by omega,by go_num,ij (vf f.out _),B⟩
     case measure=>simp [intOf];omega
    ·have E:(l[k] !=m[k])=true:=by simpa using b
     have d:Hid ((l==m)=false):=by
      unfold Hid;simp only [beq_eq_false_iff_ne];intro e;apply b;simp [e]
     clear b p h;generalize l[k]=x at*;generalize m[k]=y at*;go_wp2_with fail
     go_quiet (fail)
     go_wp2_with fail
     go_ret;exact⟨by rw [d.out];rfl,vf f.out _⟩
   ·have d:Hid ((l==m)=true):=by
     unfold Hid;have s:=t.out;rw [List.take_of_length_le (by omega),List.take_of_length_le (by have:=r.out;omega)]at s;simpa using s
    have q2:(l.length:Int)<=(k:Int):=by omega
    go_wp2_with fail
    go_ret;exact⟨by rw [d.out];rfl,f.out⟩
 ·have d:Hid ((l==m)=false):=by
   unfold Hid;simp only [beq_eq_false_iff_ne];intro e;exact q (by rw [e])
  have K:((l.length:Int) !=(m.length:Int))=true:=by simp;omega
  clear hc j;go_enter Tryz.func61,Tryz.ntmps61
  go_wp2_with fail
  go_ret;exact⟨by rw [d.out];rfl,zO _⟩
theorem uU{w e:World}{b k n:Nat}{p:List (List Ins)}{c:Option Addr}{a:Nat}{f:Value}{o:Out}{xs:List Ev}(h:RunAt w e b k n p.length (.slice c p.length a) f o.st o.steps o.kind o.thread o.at_)(j:rF p o xs)(m:ProgAt e (.agg #[.slice c p.length a]) p):
  ∃ sao sc,f= .slice sao xs.length sc/\RunRead e b p xs o c a sao sc:=by
 obtain⟨x1,x2,x3,rfl⟩:=iw h.row;have l:o.steps.length=xs.length:=by rw [j.st,List.length_map]
 have d:=h.row;rw [l]at d;have i:=iB d;subst i;exact⟨x1,x3,rfl,m,(h.cell 0).1,(h.cell 10).1,(h.cell 11).1,_,d⟩
theorem AQ(p:List (List Ins))(s:List Int)(pv sv:Value)(w:World)(t:ProgAt w pv p)(u:IntsAt w.heap.size w sv s)(R:p.length<=5864062014634)(y:∀ c∈p,c.length<=4398046510976):
  Calls Tryz.prog 29 #[pv,sv] w (Formd p s w):=by
 have r:=ij t;have S:=ij u;have K:=ij y;obtain⟨m,l,rfl⟩:=t.form;obtain⟨so,sc,rfl⟩:=u.form;clear t u y;go_enter Tryz.func29,Tryz.ntmps29
 go_wp2_with fail
 have C:∀ a,w.grownBy (w.alloc a) none:=fun a=>iq (ir _ _)
 refine(mG p _ _ (r.out.pres (ip (C _))) R K.out).mono ?_;rintro e n ⟨rfl,x⟩;have h:Hid (w.grownBy n none):=il (C _) x;have A:n.heap[w.heap.size]?=some (.cells #[.slice m p.length l] 37 (0,0)):=by
  rw [x.block w.heap.size (by simp) (by simp)];exact heap_alloc_new w _
 have c0:n.cell? ⟨w.heap.size,0,none⟩=some (.slice m p.length l):=by simp [World.cell?,A]
 clear A x;by_cases f:iU p=true
 ·have k:jh p=0:=by simp [jh,f]
  have i:=ij f;rw [k];clear k f;by_cases B:s.length<=500
  ·have L:(s.length:Int)<=500:=by omega
   have d:Hid (iC p s=0):=by unfold Hid iC;simp [i.out,B]
   go_wp2_with fail
   have G:=ij (pD n m l p _ s i.out (r.out.pres (ip h.out)) ((S.out.pres (ip h.out)).mono h.out.size) (by omega));refine(ns G).mono ?_;clear G;rintro e H ⟨b,ab,rb,st,rfl,o⟩;have q:Hid (w.grownBy H none):=il h.out o.frame;obtain⟨xs,j⟩:=nN i.out s;obtain⟨M,J,rfl,z⟩:=uU o j (r.out.pres (ip q.out));have Q:xs.length<=500:=by
    have D:=nZ p s;rw [j.st]at D;simp at D;omega
   have I:=ij (re i.out j Q H b m l M J z);have P:Hid (kx p (iI p s)=lH p xs):=by unfold Hid kx;rw [j.ev]
   clear o j z c0;go_wp2_with fail
   refine(ns I).mono ?_;clear I;rintro e w3 ⟨v,rfl,F,E⟩;have N:=ij F;have O:=ij E;clear F E;go_wp2_with fail
   exact bodyPost_ret (v:= .tuple #[v,.int .i64 0]) (by simp [results,Tryz.results29,go_sem]) rfl ⟨il q.out O.out,Or.inl ⟨d.out,v,rfl,by rw [P.out];exact iQ N.out q.out.size⟩⟩
  ·have L:(500:Int)<s.length:=by omega
   have d:Hid (iC p s=2):=by unfold Hid iC;simp [i.out,B]
   go_wp2_with fail
   exact bodyPost_ret (v:= .tuple #[.slice none 0 0,.int .i64 2]) (by simp [results,Tryz.results29,go_sem]) rfl ⟨h.out,Or.inr ⟨by rw [d.out];decide,by rw [d.out]⟩⟩
 ·have k:jh p=1:=by simp [jh,f]
  have d:Hid (iC p s=1):=by unfold Hid iC;simp [f]
  rw [k];clear k f;go_wp2_with fail
  exact bodyPost_ret (v:= .tuple #[.slice none 0 0,.int .i64 1]) (by simp [results,Tryz.results29,go_sem]) rfl ⟨h.out,Or.inr ⟨by rw [d.out];decide,by rw [d.out]⟩⟩
theorem qK(p:List (List Ins))(s:List Int)(h:(iI p s).kind=2):(iI p s).thread=0:=by
 have hc:=na p s 0 St.zero [];change ∃ xs a,RunE p St.zero xs a/\(iI p s).steps=[]++xs.map Ev.pr/\(iI p s).st=a/\((good xs/\xs.map Ev.tI=s/\(iI p s).kind=jQ p a/\(iI p s).thread=0/\(iI p s).at_=0)\/(good xs/\(∃ u r,s=xs.map Ev.tI++u::r/\m8 p a u=false)/\(iI p s).kind=2/\(iI p s).thread=0/\(iI p s).at_=0+xs.length)\/(∃ ys z r,xs=ys++[z]/\good ys/\z.bad=true/\s=xs.map Ev.tI++r/\(iI p s).kind=1/\(iI p s).thread=z.tI/\(iI p s).at_=z.k))at hc
 obtain⟨xs,a,_,_,_,hc⟩:=hc;rcases hc with ⟨_,_,_,g4,_⟩ | ⟨_,_,_,g4,_⟩ | ⟨us,z,r,_,_,_,_,g5,_⟩
 ·exact g4
 ·exact g4
 ·omega
theorem yr{a b:Out}(f:a.kind=2->a.thread=0)(d:b.kind=2->b.thread=0):l9 a b=(a.kind==b.kind && a.thread==b.thread && (a.kind==2 || a.at_==b.at_)):=by
 unfold l9;by_cases h:a.kind=2
 ·rw [if_pos h];by_cases c:b.kind=2
  ·simp [h,c,f h,d c]
  ·have j:¬(2:Int)=b.kind:=fun e=>c e.symm
   have i:(b.kind==2)=false:=by simpa using c
   have k:((2:Int)==b.kind)=false:=by simpa using j
   rw [i,h,k];simp
 ·have d:(a.kind==2)=false:=by simpa using h
  rw [if_neg h,d];simp
theorem Be(p:List (List Ins))(a b:List Int)(pv av bv:Value)(w:World)(T:ProgAt w pv p)(W:IntsAt w.heap.size w av a)(Q:IntsAt w.heap.size w bv b)(bg:p.length<=5864062014634)(Y:∀ c∈p,c.length<=4398046510976):
  Calls Tryz.prog 35 #[pv,av,bv] w (Samed p a b w):=by
 have z:=ij T;have HI:=ij W;have HJ:=ij Q;have aQ:=ij Y;obtain⟨s,t,rfl⟩:=T.form;obtain⟨so,sc,rfl⟩:=W.form;obtain⟨sp,sd,rfl⟩:=Q.form;clear T W Q Y;go_enter Tryz.func35,Tryz.ntmps35
 go_wp2_with fail
 have ag:∀ a,w.grownBy (w.alloc a) none:=fun a=>iq (ir _ _)
 refine(mG p _ _ (z.out.pres (ip (ag _))) bg aQ.out).mono ?_;rintro e O ⟨rfl,X⟩;have m:Hid (w.grownBy O none):=il (ag _) X;have ar:O.heap[w.heap.size]?=some (.cells #[.slice s p.length t] 37 (0,0)):=by
  rw [X.block w.heap.size (by simp) (by simp)];exact heap_alloc_new w _
 have c0:O.cell? ⟨w.heap.size,0,none⟩=some (.slice s p.length t):=by simp [World.cell?,ar]
 clear ar X;by_cases o:iU p=true
 ·have B:jh p=0:=by simp [jh,o]
  have k:=ij o;rw [B];clear B o;by_cases h5:a.length<=500
  ·have bb:(a.length:Int)<=500:=by omega
   by_cases h6:b.length<=500
   ·have a8:(b.length:Int)<=500:=by omega
    have i:Hid (iT p [a,b]=0):=by unfold Hid iT;simp [k.out,h5,h6]
    have A:=ij (pD O s t p (.slice so a.length sc) a k.out (z.out.pres (ip m.out)) ((HI.out.pres (ip m.out)).mono m.out.size) (by omega));go_wp2_with fail
    refine(ns A).mono ?_;clear A;rintro e R ⟨b1,ab1,rb1,st1,rfl,x⟩;have aO:=ij x.frame;have E:Hid (w.grownBy R none):=il m.out x.frame;obtain⟨xs,I⟩:=nN k.out a;obtain⟨a0,aY,rfl,aF⟩:=uU x I (z.out.pres (ip E.out));have aV:xs.length<=500:=by
     have G:=nZ p a;rw [I.st]at G;simp at G;omega
    obtain⟨_,d1,d2,d3,_,_,_⟩:=x.vcells;have c2:=ip aO.out _ _ c0;have aA:=ij (fun(u:World) (hu:R.grownBy u none)=>re k.out I aV u b1 s t a0 aY (aF.grown hu));have aB:Hid (kx p (iI p a)=lH p xs):=by unfold Hid kx;rw [I.ev]
    clear x I aF c0;have A:=ij (pD R s t p (.slice sp b.length sd) b k.out (z.out.pres (ip E.out)) ((HJ.out.pres (ip E.out)).mono E.out.size) (by omega));go_wp2_with fail
    refine(ns A).mono ?_;clear A;rintro e d ⟨b2,ab2,rb2,st2,rfl,C⟩;have L:=ij C.frame;have aC:Hid (w.grownBy d none):=il E.out C.frame;obtain⟨y,F⟩:=nN k.out b;obtain⟨aR,a9,rfl,am⟩:=uU C F (z.out.pres (ip aC.out));have aW:y.length<=500:=by
     have G:=nZ p b;rw [F.st]at G;simp at G;omega
    obtain⟨_,f1,f2,f3,_,_,_⟩:=C.vcells;have k1:=ip L.out _ _ d1;have k2:=ip L.out _ _ d2;have k3:=ip L.out _ _ d3;have hl1:b1<d.heap.size:=World.block_lt_of_cell? d _ k1;have hl2:b2<d.heap.size:=World.block_lt_of_cell? d _ f1;have aE:=ij (fun(u:World) (hu:d.grownBy u none)=>re k.out F aW u b2 s t aR a9 (am.grown hu));have ai:Hid (kx p (iI p b)=lH p y):=by unfold Hid kx;rw [F.ev]
    have ad:=ij (yr (qK p a) (qK p b));have D:Hid (rH p a b=(l9 (iI p a) (iI p b) && (kx p (iI p a)==kx p (iI p b)))):=rfl;rw [ad.out,aB.out,ai.out]at D;clear C F am c2 d1 d2 d3 ad aB ai;have aL:=m7 p xs;have aX:Hid ((lH p xs).length<=500):=by unfold Hid;omega
    clear aL;generalize (iI p a).kind=ka at*;generalize (iI p a).thread=ta at*;generalize (iI p a).at_=aa at*;generalize (iI p b).kind=kb at*;generalize (iI p b).thread=tb at*;generalize (iI p b).at_=ab at*;go_upto_region 10 with fail
    obtain⟨f,H⟩:∃ f,f=(d.alloc (.cells #[.int .i64 ka,.int .i64 ta,.int .i64 aa] 26)).alloc (.cells #[.int .i64 kb,.int .i64 tb,.int .i64 ab] 26):=⟨_,rfl⟩;have S:Hid (d.grownBy f none):=by unfold Hid;rw [H];exact iq (iq (ir _ _))
    have z1:f.heap[d.heap.size]?=some (.cells #[.int .i64 ka,.int .i64 ta,.int .i64 aa] 26 (0,0)):=by
     rw [H,Below.heap_alloc _ _ _ (by simp)];exact heap_alloc_new _ _
    have M:f.heap[d.heap.size+1]?=some (.cells #[.int .i64 kb,.int .i64 tb,.int .i64 ab] 26 (0,0)):=by
     have:=heap_alloc_new (d.alloc (.cells #[.int .i64 ka,.int .i64 ta,.int .i64 aa] 26)) (.cells #[.int .i64 kb,.int .i64 tb,.int .i64 ab] 26);rw [H];simpa using this
    rw [<-H];clear H k1 k2 k3 f1 f2 f3;have m0:f.cell? ⟨d.heap.size,0,none⟩=some (.int .i64 ka):=by simp [World.cell?,z1]
    have m1:f.cell? ⟨d.heap.size,1,none⟩=some (.int .i64 ta):=by simp [World.cell?,z1]
    have m2:f.cell? ⟨d.heap.size,2,none⟩=some (.int .i64 aa):=by simp [World.cell?,z1]
    have n0:f.cell? ⟨d.heap.size+1,0,none⟩=some (.int .i64 kb):=by simp [World.cell?,M]
    have n1:f.cell? ⟨d.heap.size+1,1,none⟩=some (.int .i64 tb):=by simp [World.cell?,M]
    have n2:f.cell? ⟨d.heap.size+1,2,none⟩=some (.int .i64 ab):=by simp [World.cell?,M]
    clear z1 M;obtain⟨l,P⟩:∃ l,l=(ka==kb && ta==tb && (ka==2 || aa==ab)):=⟨_,rfl⟩;rw [<-P]at D;have r:=ij P;clear P;go_cut [65] (fun q w'=>q= .bool (!l)/\w'=f)
    case first=>
     by_cases K:ka=kb
     ·subst K;by_cases J:ta=tb
      ·subst J;by_cases n:ka=2
       ·have aP:(ka !=2)=false:=by simpa using n
        have h:l=true:=by rw [r.out];simp [n]
        have j:=ij h;subst n;clear h;go_wp2_with fail
        go_meet
        exact⟨by rw [j.out];rfl,rfl⟩
       ·have aP:(ka !=2)=true:=by simpa using n
        by_cases N:aa=ab
        ·subst N;have h:l=true:=by rw [r.out];simp
         have j:=ij h;clear h n;go_wp2_with fail
         go_meet
         exact⟨by rw [j.out];rfl,rfl⟩
        ·have e4':(aa !=ab)=true:=by simpa using N
         have h:l=false:=by rw [r.out];simp [n,N]
         have j:=ij h;clear h n N;go_wp2_with fail
         go_meet
         exact⟨by rw [j.out];rfl,rfl⟩
      ·have e2':(ta !=tb)=true:=by simpa using J
       have h:l=false:=by rw [r.out];simp [J]
       have j:=ij h;clear h J;go_wp2_with fail
       go_meet
       exact⟨by rw [j.out];rfl,rfl⟩
     ·have e1':(ka !=kb)=true:=by simpa using K
      have h:l=false:=by rw [r.out];simp [K]
      have j:=ij h;clear h K;go_wp2_with fail
      go_meet
      exact⟨by rw [j.out];rfl,rfl⟩
    case rest=>
    obtain⟨rfl,aU⟩:=hcut;have a3:=aU.symm;subst a3;clear m0 m1 m2 n0 n1 n2;have aD:Hid (w.grownBy f none):=il aC.out S.out;cases l with
    | false=>
     have V:Hid (rH p a b=false):=by unfold Hid;rw [D.out];rfl
     go_wp2_with fail
     exact bodyPost_ret (v:= .tuple #[.bool false,.int .i64 0]) (by simp [results,Tryz.results35,go_sem]) rfl ⟨aD.out,Or.inl ⟨i.out,by rw [V.out]⟩⟩
    | true=>
     have V:Hid (rH p a b=(lH p xs==lH p y)):=by unfold Hid;rw [D.out];rfl
     clear D r;have ax:=ij (aA.out f (il L.out S.out));clear aA;go_wp2_with fail
     refine(ns ax).mono ?_;clear ax;rintro e w6 ⟨v6,rfl,ah,aG⟩;have bc:=ij ah;have af:=ij aG;clear ah aG;have an:=ij (aE.out w6 (il S.out af.out));clear aE;go_wp2_with fail
     refine(ns an).mono ?_;clear an;rintro e w7 ⟨v7,rfl,Z,aw⟩;have bj:=ij Z;have U:=ij aw;clear Z aw;have au:=ij (tO (lH p xs) (lH p y) v6 v7 w7 (((jy bc.out).pres (ip U.out)).mono U.out.size) (jy bj.out) (by have:=aX.out;omega));go_wp2_with fail
     refine(ns au).mono ?_;clear au;rintro e w8 ⟨rfl,ap⟩;have aK:Hid (w7.grownBy w8 none):=iK ap;clear ap;go_wp2_with fail
     exact bodyPost_ret (v:= .tuple #[.bool (lH p xs==lH p y),.int .i64 0]) (by simp [results,Tryz.results35,go_sem]) rfl ⟨il aD.out (il af.out (il U.out aK.out)),Or.inl ⟨i.out,by rw [V.out]⟩⟩
   ·have a8:(500:Int)<b.length:=by omega
    have i:Hid (iT p [a,b]=2):=by unfold Hid iT;simp [k.out,h6]
    go_wp2_with fail
    exact bodyPost_ret (v:= .tuple #[.bool false,.int .i64 2]) (by simp [results,Tryz.results35,go_sem]) rfl ⟨m.out,Or.inr ⟨by rw [i.out];decide,by rw [i.out]⟩⟩
  ·have bb:(500:Int)<a.length:=by omega
   have i:Hid (iT p [a,b]=2):=by unfold Hid iT;simp [k.out,h5]
   go_wp2_with fail
   exact bodyPost_ret (v:= .tuple #[.bool false,.int .i64 2]) (by simp [results,Tryz.results35,go_sem]) rfl ⟨m.out,Or.inr ⟨by rw [i.out];decide,by rw [i.out]⟩⟩
 ·have B:jh p=1:=by simp [jh,o]
  have i:Hid (iT p [a,b]=1):=by unfold Hid iT;simp [o]
  rw [B];clear B o;go_wp2_with fail
  exact bodyPost_ret (v:= .tuple #[.bool false,.int .i64 1]) (by simp [results,Tryz.results35,go_sem]) rfl ⟨m.out,Or.inr ⟨by rw [i.out];decide,by rw [i.out]⟩⟩
def kq(p:List (List Ins))(s:List Int):List Int:=if iC p s=0 then kx p (iI p s) else []
theorem Formd.form{p:List (List Ins)}{s:List Int}{w w':World}{e:Ending}(h:Formd p s w e w'):
  w.grownBy w' none/\∃ v,e= .returned (.tuple #[v,.int .i64 (iC p s)])/\w'.ownsRow w.heap.size 3 1 v (kq p s).length (iL (kq p s)):=by
 obtain⟨a,h⟩:=h;rcases h with ⟨h0,v,he,ho⟩ | ⟨h0,he⟩
 ·exact⟨a,v,by rw [h0];exact he,by unfold kq;rw [if_pos h0];exact ho⟩
 ·exact⟨a,_,he,by unfold kq;rw [if_neg h0];exact⟨rfl,Or.inl ⟨rfl,rfl⟩⟩⟩
theorem tp(p:List (List Ins))(s:List Int):(kq p s).length<=500:=by
 unfold kq;by_cases h:iC p s=0
 ·rw [if_pos h];have a:iU p=true/\s.length<=500:=by
   unfold iC at h;by_cases a:iU p=true
   ·by_cases d:s.length<=500
    ·exact⟨a,d⟩
    ·simp [a,d]at h
   ·simp [a]at h
  obtain⟨xs,c⟩:=nN a.1 s;unfold kx;rw [m7,c.ev];have b:=nZ p s;rw [c.st]at b;simp at b;omega
 ·rw [if_neg h];simp
theorem Da(W:World)(B:Nat)(w:World)(b:Nat)(who:Nat->Role)(n:Int)(f:Nat->Value)(K:Nat->List (Value × Int))(pv sv:Value)(p:List (List Ins))(s:List Int)
  (h:Hz B w b who n f K) (hW:W.grownBy w none) (l:W.heap.size<=B) (hS:ShpAt W) (M:ProgAt W pv p) (hI:IntsAt W.heap.size W sv s) (aq:p.length<=5864062014634) (R:∀ c∈p,c.length<=4398046510976) (a2:s.length<=17592186043904) (bn:0<=n) (hn1:n<=9000000000000) (hK:∀ c,c<5->(K c).length<=4900000000000):
  Calls Tryz.prog 7 #[pt b,pv,sv] w (HzF W B b (n+1) K w who):=by
 have HH:=ij h;have HW:=ij hW;have HS:=ij hS;have HP:=ij M;have HI:=ij hI;have a4:=ij R;have HK:=ij hK;obtain⟨u,C,rfl⟩:=M.form;obtain⟨so,sc,rfl⟩:=hI.form;have E:pt b= .pointer (some ⟨b,0,none⟩):=rfl;have Q:=ij (nh W B (w.alloc (.cells #[.slice u p.length C] 37)) b who n f K [] [] [] (.agg #[.slice u p.length C]) p (h.lx.grown (iq (ir _ _))) (iq hW) l M aq R (by simpa using aq) (by simp));clear h hW hS M hI R hK;rw [E]at Q ⊢;go_enter Tryz.func7,Tryz.ntmps7
 go_wp2_with fail
 refine Q.out.mono ?_;clear Q;rintro e m ⟨g,LC1,aT,f1,rfl,x,al,I,a7⟩;have aZ:who w.heap.size= .other:=by
  by_cases e:who w.heap.size= .other
  ·exact e
  ·exact absurd (HH.out.1.1.dom _ e).2 (by omega)
 obtain⟨t,A⟩:=I.oth w.heap.size (by simp) aZ (fun e=>e);have am:Hid (W.grownBy m none):=I.base (iq HW.out) l (fun g e=>(HH.out.1.1.dom g e).1) (fun _ e=>e.elim);have be:Hid (Fr w m who aT (fun g=>w.heap.size<=g)):=(Fr.grown (iq (ir _ _))).step0 I;have c1:m.cell? ⟨w.heap.size,0,none⟩=some (.slice u p.length C):=by
  simp only [World.cell?,t,heap_alloc_new];rfl
 have aK:w.heap.size<m.heap.size:=World.block_lt_of_cell? m _ c1;have aM:LC1.length=p.length:=by rw [<-al];simp
 simp only [List.nil_append]at x;have ar:=ij (lV B m b aT n f1 K [] LC1 [(g,p.length)] 0 (.slice so s.length sc) s x ((HI.out.pres (ip am.out)).mono am.out.size) (mF x.hs l HI.out) a2 (by simp));have aG:=ij x;have ba:=ij al;have aD:=ij A;have aE:=ij aM;have aN:=ij c1;clear x al I a7 t aZ A aM c1;rw [E]at ar;go_wp2_with fail
 refine ar.out.mono ?_;clear ar;rintro e a ⟨gs,j,f2,rfl,d,L⟩;simp only [List.nil_append]at d;have an:Hid (W.grownBy a none):=L.base am.out l (fun g e=>(aG.out.hs.1.dom g e).1) (fun _ e=>e.elim);have aV:Hid (Fr w a who j (fun g=>w.heap.size<=g)):=be.out.step0 L;obtain⟨t,A⟩:=L.oth w.heap.size aK aD.out (fun e=>e);have bg:=ij A;have Z:Hid (a.cell? ⟨w.heap.size,0,none⟩=some (.slice u p.length C)):=by
  unfold Hid;rw [World.cell?_of_block t];exact aN.out
 have hlt2:w.heap.size<a.heap.size:=World.block_lt_of_cell? a _ Z.out;have aO:a.heap[g]?=some (.cells (jA LC1) 66 (0,0)):=by
  have:=(d.le.lr 0 (by simp)).1;simp only [List.getElem_cons_zero,List.take_zero,List.map_nil,List.sum_nil,List.drop_zero]at this;rw [List.take_of_length_le (by rw [aE.out];omega)]at this;exact this
 have aL:ProgAt a (.agg #[.slice (some ⟨g,0,none⟩) p.length (p.length+2)]) p:=ni (LC0:=[]) (by simpa using d.le) aO ba.out _;have aw:IntsAt a.heap.size a (.slice (some ⟨gs,0,none⟩) s.length (s.length+2)) s:=md (d.le.li (gs,s,.slice so s.length sc) (by simp)).1;have a0:=ij (FP p s _ _ a (HS.out.pres (ip an.out)) aL aw);have D:=ij d;clear d L t A aO aL aw aG aN aD aK;go_wp2_with fail
 refine a0.out.mono ?_;clear a0;intro e w3 y;obtain⟨H,v,he,au⟩:=y.form;clear y;subst he;obtain⟨x1,x2,x3,rfl⟩:=iw au;have N:=ij au;have aa:=ij H;have bf:Hid (W.grownBy w3 none):=il an.out H;have Y:=ij (rq B w3 b j n f2 K _ _ _ (D.out.grown H) (by simp) (by rw [aE.out];omega) (by simp));clear au H;rw [E]at Y;generalize aC:iC p s=cr at*;have bl:=ij aC;clear aC;go_wp2_with fail
 refine Y.out.mono ?_;clear Y;rintro e o ⟨rfl,f4,aS,r⟩;have F:Hid (W.grownBy o none):=r.base bf.out l (fun g e=>(D.out.hs.1.dom g e).1) (fun _ e=>e.elim);have bo:Hid (Fr w o who j (fun g=>w.heap.size<=g)):=(aV.out.stepG aa.out).step0 r;have G:∀ q,(Value.slice x1 x2 x3).ownBlock=some q->a.heap.size<=q/\q<w3.heap.size/\j q= .other:=fun q e=>by
  have h1:=iA N.out q e;refine⟨h1,iZ N.out q e,?_⟩;by_cases ho:j q= .other
  ·exact ho
  ·exact absurd (D.out.hs.1.dom q ho).2 (by omega)
 have ai:=ij G;have aB:Hid (o.ownsRow a.heap.size 3 1 (.slice x1 x2 x3) (kq p s).length (iL (kq p s))):=iM N.out (fun q e=>(r.oth q (G q e).2.1 (G q e).2.2 (fun e=>e)).1);have c4:o.cell? ⟨w.heap.size,0,none⟩=some (.slice u p.length C):=by
  rw [World.cell?_of_block (r.oth w.heap.size (by have:=aa.out.size;omega) bg.out (fun e=>e)).1];exact ip aa.out _ _ Z.out
 have V:=ij aS;have az:=ij (AQ p s _ _ o (HP.out.pres (ip F.out)) ((HI.out.pres (ip F.out)).mono F.out.size) aq a4.out);have bd:Hid (B<=a.heap.size):=by
  have:=D.out.low;unfold Hid;omega
 clear aS r G N D Z;go_wp2_with fail
 refine az.out.mono ?_;clear az;intro e S y;obtain⟨af,v',he,ag⟩:=y.form;clear y;subst he;rw [bl.out];obtain⟨y1,y2,y3,rfl⟩:=iw ag;have a8:=ij af;have X:Hid (S.ownsRow a.heap.size 3 1 (.slice x1 x2 x3) (kq p s).length (iL (kq p s))):=iD aB.out af (fun _ e=>by cases e);have ak:=ij (sB (kq p s) (kq p s) _ _ S (jy X.out) (jy ag) (by have:=tp p s;omega));rw [show (kq p s==kq p s)=true by simp]at ak;clear af ag aB c4;go_wp2_with fail
 refine ak.out.mono ?_;clear ak;rintro e w6 ⟨rfl,aI⟩;have aA:Hid (S.grownBy w6 none):=iK aI;have T:Hid (o.grownBy w6 none):=il a8.out aA.out;have aP:Hid (w6.ownsRow B 3 1 (.slice x1 x2 x3) (kq p s).length (iL (kq p s))):=iQ (iD X.out aA.out (fun _ e=>by cases e)) bd.out;have aj:=ij (od B w6 b j n f4 K (.slice x1 x2 x3) (kq p s).length _ (V.out.1.grown T.out) aP.out (fun q e=>(ai.out q e).2.2) bn (by omega) (by have:=HK.out 0 (by omega);omega) (by have:=tp p s;omega));clear aI X aP;rw [E]at aj;go_wp2_with fail
 refine aj.out.mono ?_;clear aj;rintro e z ⟨⟨rv,rfl⟩,J,f7,O,U,i⟩;have bc:Hid (W.grownBy w6 none):=il F.out T.out;have bp:Hid (W.grownBy z none):=i.fr.base bc.out l (fun g e=>(V.out.1.1.dom g e).1) (fun q e=>by have:=(ai.out q e).1;have:=an.out.size;omega);have bm:Hid (Fr w z who J (fun g=>w.heap.size<=g)):=(bo.out.stepG T.out).trans (i.fr.mono fun q e=>by have:=(ai.out q e).1;have:=aV.out.size;omega);have aW:Hid (Hz B z b J (n+1) f7 O):=⟨U,fun k hk=>by rw [i.lent k hk];exact V.out.2 k hk⟩;have aX:Hid (∀ c,c<5->(O c).length<=(K c).length+4):=fun c hc=>by
  by_cases e:c=0
  ·subst e;have:=i.len;omega
  ·rw [i.oth c e];omega
 have ad:=ij (qf B z b J (n+1) f7 O U (fun c hc=>by have:=aX.out c hc;have:=HK.out c hc;omega));clear U i;rw [E]at ad;go_wp2_with fail
 refine ad.out.mono ?_;clear ad;rintro e w8 ⟨rfl,aJ⟩;have P:Hid (z.grownBy w8 none):=iK aJ;clear aJ;go_wp2_with (go_at_call 23;refine(qP _ _).mono ?_;rintro e w9 ⟨rfl,bb⟩;have a3:=bb.symm;subst a3)
 go_ret;exact⟨by simp,J,f7,O,⟨aW.out.1.grown P.out,aW.out.2⟩,il bp.out P.out,aX.out,bm.out.stepG P.out⟩
def se(p:List (List Ins))(a b:List Int):Bool:=if iT p [a,b]=0 then rH p a b else false
theorem Samed.form{p:List (List Ins)}{a b:List Int}{w w':World}{e:Ending}(h:Samed p a b w e w'):
  w.grownBy w' none/\e= .returned (.tuple #[.bool (se p a b),.int .i64 (iT p [a,b])]):=by
 obtain⟨c,h⟩:=h;rcases h with ⟨h0,he⟩ | ⟨h0,he⟩
 ·exact⟨c,by unfold se;rw [if_pos h0,h0];exact he⟩
 ·exact⟨c,by unfold se;rw [if_neg h0];exact he⟩
theorem yh(W:World)(B:Nat)(w:World)(b:Nat)(who:Nat->Role)(n:Int)(f:Nat->Value)(K:Nat->List (Value × Int))(pv sv tv:Value)(p:List (List Ins))(s t:List Int)
  (h:Hz B w b who n f K) (X:W.grownBy w none) (q:W.heap.size<=B) (hS:ShpAt W) (L:ProgAt W pv p) (hI:IntsAt W.heap.size W sv s) (R:IntsAt w.heap.size w tv t) (ak:valOther who tv) (ag:p.length<=5864062014634) (P:∀ c∈p,c.length<=4398046510976) (aV:s.length<=17592186043904) (a5:t.length<=17592186043904):
  Calls Tryz.prog 9 #[pt b,pv,sv,tv] w (HzE W B b n K w who):=by
 have HH:=ij h;have HW:=ij X;have HS:=ij hS;have HP:=ij L;have HI:=ij hI;have HJ:=ij (And.intro R ak);have aW:=ij P;obtain⟨m,r,rfl⟩:=L.form;obtain⟨so,U,rfl⟩:=hI.form;obtain⟨ta,tc,rfl⟩:=R.form;have N:pt b= .pointer (some ⟨b,0,none⟩):=rfl;have O:=ij (nh W B (w.alloc (.cells #[.slice m p.length r] 37)) b who n f K [] [] [] (.agg #[.slice m p.length r]) p (h.lx.grown (iq (ir _ _))) (iq X) q L ag P (by simpa using ag) (by simp));clear h X hS L hI R ak P;rw [N]at O ⊢;go_enter Tryz.func9,Tryz.ntmps9
 go_wp2_with fail
 refine O.out.mono ?_;clear O;rintro e u ⟨g,LC1,aJ,f1,rfl,v,ac,z,aZ⟩;have aS:who w.heap.size= .other:=by
  by_cases e:who w.heap.size= .other
  ·exact e
  ·exact absurd (HH.out.1.1.dom _ e).2 (by omega)
 obtain⟨d,i⟩:=z.oth w.heap.size (by simp) aS (fun e=>e);have ad:Hid (W.grownBy u none):=z.base (iq HW.out) q (fun g e=>(HH.out.1.1.dom g e).1) (fun _ e=>e.elim);have a6:Hid (Fr w u who aJ (fun g=>w.heap.size<=g)):=(Fr.grown (iq (ir _ _))).step0 z;have c1:u.cell? ⟨w.heap.size,0,none⟩=some (.slice m p.length r):=by
  simp only [World.cell?,d,heap_alloc_new];rfl
 have aA:w.heap.size<u.heap.size:=World.block_lt_of_cell? u _ c1;have aC:LC1.length=p.length:=by rw [<-ac];simp
 simp only [List.nil_append]at v;have k:=ij (lV B u b aJ n f1 K [] LC1 [(g,p.length)] 0 (.slice so s.length U) s v ((HI.out.pres (ip ad.out)).mono ad.out.size) (mF v.hs q HI.out) aV (by simp));have aQ:=ij (my HJ.out.1 HJ.out.2 ((Fr.grown (iq (ir _ _))).trans z));have ay:=ij v;have a1:=ij ac;have av:=ij i;have aw:=ij aC;have aG:=ij c1;clear v ac z aZ d aS i aC c1;rw [N]at k;go_wp2_with fail
 refine k.out.mono ?_;clear k;rintro e o ⟨Z,aD,f2,rfl,G,E⟩;simp only [List.nil_append]at G;have a9:Hid (W.grownBy o none):=E.base ad.out q (fun g e=>(ay.out.hs.1.dom g e).1) (fun _ e=>e.elim);have bb:Hid (Fr w o who aD (fun g=>w.heap.size<=g)):=a6.out.step0 E;obtain⟨d,i⟩:=E.oth w.heap.size aA av.out (fun e=>e);have aI:=ij i;have T:Hid (o.cell? ⟨w.heap.size,0,none⟩=some (.slice m p.length r)):=by
  unfold Hid;rw [World.cell?_of_block d];exact aG.out
 have ax:w.heap.size<o.heap.size:=World.block_lt_of_cell? o _ T.out;have I:=ij (my aQ.out.1 aQ.out.2 E);have k:=ij (lV B o b aD n f2 K [(Z,s,.slice so s.length U)] LC1 [(g,p.length)] 0 (.slice ta t.length tc) t G I.out.1 I.out.2 a5 (by simp));have aN:=ij G;clear G E d i ay aG av aA;rw [N]at k;go_wp2_with fail
 refine k.out.mono ?_;clear k;rintro e a ⟨gt,D,f3,rfl,j,C⟩;simp only [List.cons_append,List.nil_append]at j;have aF:Hid (W.grownBy a none):=C.base a9.out q (fun g e=>(aN.out.hs.1.dom g e).1) (fun _ e=>e.elim);have a2:Hid (Fr w a who D (fun g=>w.heap.size<=g)):=bb.out.step0 C;obtain⟨d,i⟩:=C.oth w.heap.size ax aI.out (fun e=>e);have be:=ij i;have Y:Hid (a.cell? ⟨w.heap.size,0,none⟩=some (.slice m p.length r)):=by
  unfold Hid;rw [World.cell?_of_block d];exact T.out
 have hlt3:w.heap.size<a.heap.size:=World.block_lt_of_cell? a _ Y.out;have aH:a.heap[g]?=some (.cells (jA LC1) 66 (0,0)):=by
  have:=(j.le.lr 0 (by simp)).1;simp only [List.getElem_cons_zero,List.take_zero,List.map_nil,List.sum_nil,List.drop_zero]at this;rw [List.take_of_length_le (by rw [aw.out];omega)]at this;exact this
 have aB:ProgAt a (.agg #[.slice (some ⟨g,0,none⟩) p.length (p.length+2)]) p:=ni (LC0:=[]) (by simpa using j.le) aH a1.out _;have ai:IntsAt a.heap.size a (.slice (some ⟨Z,0,none⟩) s.length (s.length+2)) s:=md (j.le.li (Z,s,.slice so s.length U) (by simp)).1;have aR:IntsAt a.heap.size a (.slice (some ⟨gt,0,none⟩) t.length (t.length+2)) t:=md (j.le.li (gt,t,.slice ta t.length tc) (by simp)).1;have aT:=ij (DK p s t _ _ _ a (HS.out.pres (ip aF.out)) aB ai aR);have ap:=ij (my I.out.1 I.out.2 C);have ab:=ij j;clear j C d i aH aB ai aR aN T aI ax;go_wp2_with fail
 refine aT.out.mono ?_;clear aT;intro e w4 x;obtain⟨J,he⟩:=x.form;clear x;subst he;have H:=ij J;have aU:Hid (W.grownBy w4 none):=il aF.out J;have S:=ij (rq B w4 b D n f3 K _ _ _ (ab.out.grown J) (by simp) (by rw [aw.out];omega) (by simp));clear J;rw [N]at S;generalize ar:iT p [s,t]=cr at*;generalize au:se p s t=zz at*;have bd:=ij ar;have a0:=ij au;clear ar au;go_wp2_with fail
 refine S.out.mono ?_;clear S;rintro e F ⟨rfl,f5,aL,A⟩;have y:Hid (W.grownBy F none):=A.base aU.out q (fun g e=>(ab.out.hs.1.dom g e).1) (fun _ e=>e.elim);have az:Hid (Fr w F who D (fun g=>w.heap.size<=g)):=(a2.out.stepG H.out).step0 A;have c5:F.cell? ⟨w.heap.size,0,none⟩=some (.slice m p.length r):=by
  rw [World.cell?_of_block (A.oth w.heap.size (by have:=H.out.size;omega) be.out (fun e=>e)).1];exact ip H.out _ _ Y.out
 have bc:=ij (my ap.out.1 ap.out.2 ((Fr.grown H.out).trans A));have M:=ij aL;have an:=ij (Be p s t _ _ _ F (HP.out.pres (ip y.out)) ((HI.out.pres (ip y.out)).mono y.out.size) bc.out.1 ag aW.out);clear aL A ab Y;go_wp2_with fail
 refine an.out.mono ?_;clear an;intro e w6 x;obtain⟨aP,he⟩:=x.form;clear x;subst he;rw [bd.out,a0.out];have l:=ij aP;clear aP c5;cases zz
 ·go_wp2_with (go_at_call 23;refine(qP _ _).mono ?_;rintro e w9 ⟨rfl,V⟩;have Q:=V.symm;subst Q)
  go_ret;exact⟨by simp,D,f5,⟨M.out.1.grown l.out,M.out.2⟩,il y.out l.out,az.out.stepG l.out⟩
 ·go_wp2_with (go_at_call 23;refine(qP _ _).mono ?_;rintro e w9 ⟨rfl,V⟩;have Q:=V.symm;subst Q)
  go_ret;exact⟨by simp,D,f5,⟨M.out.1.grown l.out,M.out.2⟩,il y.out l.out,az.out.stepG l.out⟩
def vJ(i:Ins):List Value:=[.int .i64 i.op,.int .i64 i.a,.int .i64 i.b,.int .i64 i.n]
def jk(c:List Ins):List Value:=c.flatMap vJ
theorem px(c:List Ins)(i:Ins):jk (c++[i])=jk c++vJ i:=by simp [jk]
theorem qC:∀ (c:List Ins) (k:Nat) (hk:k<c.length),(jk c)[k*4]?=some (.int .i64 c[k].op)/\(jk c)[k*4+1]?=some (.int .i64 c[k].a)/\(jk c)[k*4+2]?=some (.int .i64 c[k].b)/\(jk c)[k*4+3]?=some (.int .i64 c[k].n)
 | [],k,hk=>by simp at hk
 | i::c,0,hk=>by simp [jk,vJ]
 | i::c,k+1,hk=>by
  have h:=qC c k (by simpa using hk);have e:jk (i::c)=vJ i++jk c:=by simp [jk]
  have e4:∀ j,(jk (i::c))[(k+1)*4+j]?=(jk c)[k*4+j]?:=fun j=>by
   rw [e,List.getElem?_append_right (by simp [vJ];omega)];congr 1
   simp [vJ];omega
  refine⟨?_,?_,?_,?_⟩
  ·have:=e4 0;simp only [Nat.add_zero]at this;rw [this];simpa using h.1
  ·rw [e4 1];simpa using h.2.1
  ·rw [e4 2];simpa using h.2.2.1
  ·rw [e4 3];simpa using h.2.2.2
def CodeRow(L B:Nat)(w:World)(v:Value)(c:List Ins):Prop:=w.ownsRow L 65 4 v c.length (jk c)/\∀ h,v.ownBlock=some h->h<B
theorem CodeRow.codeAt{L B:Nat}{w:World}{v:Value}{c:List Ins}(h:CodeRow L B w v c):CodeAt w v c:=by
 obtain⟨a,_⟩:=h;rcases a.2 with ⟨e,e0⟩ | ⟨g,cap,cur,hv,_⟩
 ·refine⟨none,0,by rw [e,e0],fun k hk=>by omega⟩
 ·refine⟨some ⟨g,0,none⟩,cap,hv,fun k hk=>⟨g,0,rfl,?_⟩⟩;rw [hv]at a;have q:=qC c k hk;refine⟨?_,?_,?_,?_⟩
  ·rw [Nat.zero_add,a.cellAt _ (by omega)];exact q.1
  ·rw [Nat.zero_add,a.cellAt _ (by omega)];exact q.2.1
  ·rw [Nat.zero_add,a.cellAt _ (by omega)];exact q.2.2.1
  ·rw [Nat.zero_add,a.cellAt _ (by omega)];exact q.2.2.2
theorem kB{w w':World}{base:Nat}{e:TypeId}{b:Nat}{v:Value}{n:Nat}{xs:List Value}{r:Option Nat}(h:w.ownsRow base e b v n xs)(i:w.grownBy w' r)(d:∀ k,r=some k->v.ownBlock≠some k):w'.ownsRow base e b v n xs:=by
 obtain⟨c,a⟩:=h;refine⟨c,?_⟩;rcases a with a | ⟨g,cap,cur,hv,hb,hh,rest⟩
 ·exact Or.inl a
 ·have f:g<w.heap.size:=(Array.getElem?_eq_some_iff.1 hh).1;refine Or.inr ⟨g,cap,cur,hv,hb,?_,rest⟩;rw [i.block g f (fun e=>d g e.symm (by rw [hv];rfl))];exact hh
theorem pL{w:World}{n m b d z1 l:Nat}{h f:Value}{o q:Nat}{x1 x2:List Value}(i:w.ownsRow n b z1 h o x1)(j:w.ownsRow m d l f q x2)(p:b≠d):∀ k,h.ownBlock=some k->f.ownBlock≠some k:=by
 intro k a c;rcases i.2 with ⟨e,_⟩ | ⟨g,_,c1,hv,_,hh,_⟩
 ·rw [e]at a;cases a
 ·rcases j.2 with ⟨e,_⟩ | ⟨g',_,c2,hv',_,hh',_⟩
  ·rw [e]at c;cases c
  ·rw [hv]at a;rw [hv']at c;have b:g=k:=by simpa [Value.ownBlock]using a
   have d:g'=k:=by simpa [Value.ownBlock]using c
   rw [b]at hh;rw [d,hh]at hh';simp at hh';exact p hh'.2
def Apt(rows:List Value):Prop:=∀ (i j:Nat) (ri rj:Value),i<j->rows[i]?=some ri->rows[j]?=some rj->∀ g,ri.ownBlock=some g->rj.ownBlock≠some g
theorem Apt.nil:Apt []:=fun i j ri rj _ h=>by simp at h
def ThrAt(L B:Nat)(w:World)(tv:Value)(p:List (List Ins)):Prop:=
 ∃ rows,w.ownsRow L 66 1 tv p.length rows/\(∀ h,tv.ownBlock=some h->h<B)/\(∀ j (hj:j<p.length),(∃ rv,rows[j]?=some rv/\CodeRow L B w rv p[j]))/\Apt rows
theorem ThrAt.step{L B:Nat}{w w':World}{tv:Value}{p:List (List Ins)}{r:Option Nat}(h:ThrAt L B w tv p)(f:w.grownBy w' r)(i:∀ q,r=some q->q<L\/B<=q):ThrAt L B w' tv p:=by
 obtain⟨rows,b,c,n,l⟩:=h;refine⟨rows,kB b f (fun k e a=>?_),c,fun j hj=>?_,l⟩
 ·have:=c k a;have:=iA b k a;rcases i k e with q | q<;>omega
 ·obtain⟨rv,m,a,d⟩:=n j hj;refine⟨rv,m,kB a f (fun k e e4=>?_),d⟩;have:=d k e4;have:=iA a k e4;rcases i k e with q | q<;>omega
theorem ThrAt.mono{L B a:Nat}{w:World}{tv:Value}{p:List (List Ins)}(h:ThrAt L B w tv p)(b:B<=a):ThrAt L a w tv p:=by
 obtain⟨rows,c,d,k,f⟩:=h;refine⟨rows,c,fun q e=>Nat.lt_of_lt_of_le (d q e) b,fun j hj=>?_,f⟩;obtain⟨rv,i,m,l⟩:=k j hj;exact⟨rv,i,m,fun q e=>Nat.lt_of_lt_of_le (l q e) b⟩
theorem ThrAt.progAt{L B:Nat}{w:World}{tv:Value}{p:List (List Ins)}(h:ThrAt L B w tv p):ProgAt w (.agg #[tv]) p:=by
 obtain⟨rows,a,h2,c,_⟩:=h;rcases a.2 with ⟨e,e0⟩ | ⟨g,cap,cur,hv,_⟩
 ·refine⟨none,0,by rw [e,e0],fun k hk=>by omega⟩
 ·refine⟨some ⟨g,0,none⟩,cap,by rw [hv],fun j hj=>⟨g,0,rfl,?_⟩⟩;obtain⟨rv,b,d⟩:=c j hj;rw [hv]at a;exact⟨rv,by rw [Nat.zero_add,a.cellAt j (by omega)];exact b,d.codeAt⟩
theorem ThrAt.snoc{L u B:Nat}{w D a:World}{tv r f:Value}{p:List (List Ins)}{c:List Ins}{rows:List Value}(h:ThrAt L u w tv p)(M:u<=B)(N:∀ q,f.ownBlock=some q->u<=q)(z:w.ownsRow L 66 1 tv p.length rows)(O:CodeRow L B w f c)(C:w.grownBy D none)
  (G:D.grownBy a tv.ownBlock) (H:a.ownsRow L 66 1 r (p.length+1) (rows++[f])) (P:B<=a.heap.size) (K:∀ q,r.ownBlock=some q->q<a.heap.size):ThrAt L a.heap.size a r (p++[c]):=by
 obtain⟨d,m,h2,x,J⟩:=h;have E:d=rows:=by
  rcases m.2 with ⟨e,e0⟩ | ⟨g,cap,cur,hv,_,hh,_,_,_,ht1⟩
  ·have o:=m.1;have t:=z.1
   rw [e0]at o t;rw [List.length_eq_zero_iff.1 (by omega:d.length=0),List.length_eq_zero_iff.1 (by omega:rows.length=0)]
  ·rcases z.2 with ⟨e,e0⟩ | ⟨g',cap',cur',hv',_,hh',_,_,_,ht2⟩
   ·rw [e]at hv;cases hv
   ·rw [hv]at hv';simp at hv';obtain⟨b,A⟩:=hv';rw [<-b,hh]at hh';simp at hh';rw [<-ht1,<-ht2,hh']
 subst E;have y:∀ {rv:Value} {c:List Ins},CodeRow L B w rv c->CodeRow L a.heap.size a rv c:=fun {rv c} hc=>by
  have o:=kB hc.1 C (fun k e=>by cases e);have t:=kB m C (fun k e=>by cases e);exact⟨kB o G (fun k e=>pL t o (by decide) k e),fun q e=>Nat.lt_of_lt_of_le (hc.2 q e) P⟩
 have I:d.length=p.length:=by have:=m.1;omega
 refine⟨d++[f],by simpa using H,K,fun j hj=>?_,fun i j ri rj hij hi hj g e e'=>?_⟩
 ·by_cases n:j<p.length
  ·obtain⟨rv,b,A,v⟩:=x j n;exact⟨rv,by rw [List.getElem?_append_left (by omega)];exact b,by rw [List.getElem_append_left n];exact y ⟨A,fun q e=>Nat.lt_of_lt_of_le (v q e) M⟩⟩
  ·have s:j=p.length:=by simp at hj;omega
   subst s;exact⟨f,by rw [List.getElem?_append_right (by omega)];simp [I],by simpa using y O⟩
 ·have F:=(List.getElem?_eq_some_iff.1 hj).1;simp only [List.length_append,List.length_singleton]at F;rw [List.getElem?_append_left (by omega)]at hi;by_cases n:j<d.length
  ·rw [List.getElem?_append_left n]at hj;exact J i j ri rj hij hi hj g e e'
  ·have s:j=d.length:=by omega
   subst s;rw [List.getElem?_append_right (Nat.le_refl _)]at hj;simp at hj;subst hj;obtain⟨rv,b,_,v⟩:=x i (by omega);rw [hi]at b;cases b
   have:=v g e;have:=N g e';omega
theorem xu:((Tryz.prog.info? 65).map fun i=>(i.zero,i.size,i.bytes))=some (some (.agg #[.int .i64 0,.int .i64 0,.int .i64 0,.int .i64 0]),4,32):=by kernel_rfl
theorem zU:((Tryz.prog.info? 66).map fun i=>(i.zero,i.size,i.bytes))=some (some (.slice none 0 0),1,24):=by kernel_rfl
def oT(c:Int):Prop:= -9223372036854775808<=c/\c<=9223372036854775807
theorem vy{w:World}{base e size:Nat}{v:Value}{n:Nat}{xs:List Value}(h:w.ownsRow base e size v n xs):∀ q,v.ownBlock=some q->q<w.heap.size:=fun q eq=>by
 rcases h.2 with ⟨e1,_⟩ | ⟨g',_,_,hv,_,hh,_⟩
 ·rw [e1]at eq;cases eq
 ·rw [hv]at eq;have:=(Array.getElem?_eq_some_iff.1 hh).1;simp [Value.ownBlock]at eq;omega
theorem C8(i:Ins):∀ v∈vJ i,v.oneCell'=true:=by
 intro v a;simp only [vJ,List.mem_cons,List.not_mem_nil,or_false]at a
 rcases a with rfl | rfl | rfl | rfl<;>rfl
end
section
open Go.RowKit
section
variable {P : Program} {w : World} {ops : Array Oper} {rest : List Oper} {o : Oper} {a : Act} {Q : Exit -> Act -> World -> Prop}
theorem kt(M:o.guard=none)(s x:Operand)(t:TypeId)(B:o.op= .call { callee:= .builtin .append,args:= #[s,x],argTypes:= #[t,t]})
  (base:Nat) (e:TypeId) (i:TypeInfo) (z:Value) (b p:Nat) (C:P.underlying t=some (.slice e)) (y:P.info? e=some i) (F:i.zero=some z) (O:i.size=b) (E:i.bytes=p) (U:z.cells.size=b) (J:0<b)
  (v:Value) (n:Nat) (xs:List Value) (A:a.eval s=v) (f:w.ownsRow base e b v n xs) (k:Option Addr) (m c:Nat) (d:List Value) (r:a.eval x= .slice k m c) (S:d.length=m*b)
  (H:k=none->m=0/\c=0) (L:∀ ad,k=some ad->∀ j u,d[j]?=some u->w.cell? (ad.add j)=some u) (G:∀ u∈d,u.oneCell'=true) (N:n+m<=maxLen) (R:(n+m)*p<=140737488355328) (T:base<=w.heap.size)
  (h:∀ ta tn tc w',w'.ownsRow base e b (.slice ta tn tc) (n+m) (xs++d)->w.grownBy w' v.ownBlock->wpList P ops Q rest (a.put o.dst (.slice ta tn tc)) w'):wpList P ops Q (o::rest) a w:=by
 refine wpList_plain M fun K hK=>?_
 cases k with
 | none=>
  obtain⟨rfl,rfl⟩:=H rfl;have l:=run_append_owned_none (P:=P) w base t o.type e i b C y v n xs f;have I:d=[]:=List.length_eq_zero_iff.1 (by omega);obtain⟨ta,tn,tc,rfl⟩:=iw f;unfold Oper.wp;simp [execOp,B,resolve,invoke,builtin,A,r,l,Result.andThen];exact hK _ _ (h _ _ _ w (by rw [I];simpa using f) (ir _ _))
 | some ad=>
  obtain⟨v',w',l,q,D,h4,h5⟩:=run_append_own_at (P:=P) w base t o.type e i z b p C y F O E U J v n xs f ad m c d S (L ad rfl) G N R T;obtain⟨ta,tn,tc,rfl⟩:=iw q;unfold Oper.wp;simp [execOp,B,resolve,invoke,builtin,A,r,l,Result.andThen];exact hK _ _ (h _ _ _ w' q D)
end
end
section
open Go.RowKit
attribute [local go_sem] Go.World.cell?_alloc_some rZ
end
section
open Go.RowKit
attribute [local go_sem] Go.World.cell?_alloc_some
theorem uA:((Tryz.prog.info? 3).map fun i=>(i.zero,i.size,i.bytes))=some (some (.int .i64 0),1,8):=by kernel_rfl
theorem FJ(n:Nat)(w:World)(hn:n<=1000000):
  Calls Tryz.prog 131 #[.slice none 0 0,.int .i64 n] w fun e w'=>∃ v,e= .returned v/\w'.ownsRow w.heap.size 3 1 v 0 []/\w.grownBy w' none:=by
 obtain⟨c,d,b,hz1,f⟩:=info_parts uA;rcases Nat.eq_zero_or_pos n with e | h0
 ·subst e;go_enter Tryz.func131,Tryz.ntmps131
  go_wp2
  go_ret;exact⟨_,rfl,⟨rfl,Or.inl ⟨rfl,rfl⟩⟩,ir _ _⟩
 ·have h:∀ ty,(Builtin.append_ #[39,3] ty #[.slice none 0 0,.int .i64 (n:Int)]).run Tryz.prog w=_:=fun ty=>Lib.run_append_nil_zeros w 39 3 ty 3 c _ .i64 .i64 Tryz.underlying39 Tryz.underlying3 d b n h0 (by omega) (by omega) (by rw [f];omega)
  have hGn:n<=grownCap w n 0 3:=grownCap_ge w _ _ _;have a:grownCap w n 0 3<=maxLen:=grownCap_le_maxLen w n 0 3 (by unfold maxLen;omega);generalize grownCap w n 0 3=G at*;have j:Hid ((w.drew.alloc (.cells (Builtin.zeroCells (Value.int .i64 0).cells n++Builtin.zeroCells (Value.int .i64 0).cells (G - n)) 3)).ownsRow w.heap.size 3 1 (.slice (some ⟨w.heap.size,0,none⟩) 0 G) 0 []):=by
   refine⟨rfl,Or.inr ⟨w.heap.size,G,_,rfl,Nat.le_refl _,heap_alloc_new w.drew _,Nat.zero_le _,a,?_,by simp⟩⟩;simp [Builtin.zeroCells,Value.cells];omega
  have i:Hid (w.grownBy (w.drew.alloc (.cells (Builtin.zeroCells (Value.int .i64 0).cells n++Builtin.zeroCells (Value.int .i64 0).cells (G - n)) 3)) none):=⟨rfl,rfl,rfl,by simp,fun k hk _=>heap_alloc_old w.drew _ hk⟩;have h1:(0:Int)<(n:Int):=by omega
  have h2:(n:Int)<=1000000:=by omega
  have h3:(0:Int)<=(n:Int):=by omega
  generalize w.drew.alloc (.cells (Builtin.zeroCells (Value.int .i64 0).cells n++Builtin.zeroCells (Value.int .i64 0).cells (G - n)) 3)=w' at*;have h5:G<=9223372036854775807:=by unfold maxLen at a;omega
  clear a;go_enter Tryz.func131,Tryz.ntmps131
  go_wp2_with (at_builtin;refine Lib.wpList_append_run _ rfl _ _ _ _ rfl _ _ rfl rfl _ _ (h _) ?_)
  go_ret;exact⟨_,rfl,j.out,i.out⟩
def ox(x:Value):Prop:=∀ n c,x= .slice none n c->n=0/\c=0
def yJ(w:World)(v:Value)(ss:List (List Int)):Prop:=
 ∃ g o cap,v= .slice (some ⟨g,o,none⟩) ss.length cap/\g<w.heap.size/\∀ k (hk:k<ss.length),∃ x,w.cell? ⟨g,o+k,none⟩=some x/\IntsAt w.heap.size w x ss[k]/\ox x
theorem o9(a:List (List Int))(k:Nat)(b:k<a.length):(a.take (k+1)).flatten=(a.take k).flatten++a[k]:=by
 rw [List.take_succ_eq_append_getElem b,List.flatten_append];simp
theorem vI(a:List (List Int))(k:Nat):(a.take k).flatten.length<=a.flatten.length:=by
 conv=>rhs;rw [<-List.take_append_drop k a,List.flatten_append,List.length_append]
 omega
theorem A4{w:World}{g o c:Nat}{l:List Int}(h:IntsAt w.heap.size w (.slice (some ⟨g,o,none⟩) l.length c) l):∀ j u,(iL l)[j]?=some u->w.cell? ((⟨g,o,none⟩:Addr).add j)=some u:=by
 intro j u a;obtain⟨ao,cap,e,_,f⟩:=h;have b:=(List.getElem?_eq_some_iff.1 a).1;rw [jZ]at b;obtain⟨g',o',i,e2,k⟩:=f j b;simp only [Value.slice.injEq]at e;rw [i]at e;simp only [Option.some.injEq,Addr.mk.injEq,and_true]at e;obtain⟨⟨rfl,rfl⟩,_⟩:=e;have d:(⟨g,o,none⟩:Addr).add j=⟨g,o+j,none⟩:=by unfold Addr.add;split<;>simp_all
 rw [d,k];have:(iL l)[j]?=some (.int .i64 l[j]):=by simp [iL,b]
 rw [this]at a;exact a
theorem tr(a:List (List Int))(sv:Value)(w:World)(U:yJ w sv a)(hn:a.length<=1000)(ht:a.flatten.length<=1000000):
  Calls Tryz.prog 89 #[sv] w fun e w'=>∃ v,e= .returned v/\w'.ownsRow w.heap.size 3 1 v a.flatten.length (iL a.flatten)/\w.grownBy w' none:=by
 obtain⟨X,aa,Y,ac,am⟩:=info_parts uA;obtain⟨g,o,cap,rfl,hg,hc⟩:=U;have G:=ij hc;have hn':(a.length:Int)<=1000:=by omega
 clear hc;go_enter Tryz.func89,Tryz.ntmps89
 go_wp2_with fail
 go_loopw [3,11] (fun z i w'=>∃ k n:Nat,k<=a.length/\i= .int .i64 k/\z= .int .i64 n/\Hid (n=(a.take k).flatten.length)/\Hid (w'=w)) (fun _ i _=>a.length - (intOf i).toNat)
 case atStart=>exact⟨0,0,Nat.zero_le _,rfl,rfl,rfl,rfl⟩
 case round=>
  obtain⟨k,n,N,rfl,rfl,m,M⟩:=hrel;obtain rfl:=M.out.symm;clear M;have F:n<=1000000:=by have:=m.out;have:=vI a k;omega
  have al:(n:Int)<=1000000:=by omega
  have ap:(0:Int)<=(n:Int):=by omega
  by_cases c:k<a.length
  ·obtain⟨x,c0,f,t⟩:=G.out k c;obtain⟨l,r,rfl⟩:=f.form;have ak:n+a[k].length<=1000000:=by
    have B:=vI a (k+1);rw [o9 a k c,List.length_append]at B;have:=m.out;omega
   have q:Hid (n+a[k].length=(a.take (k+1)).flatten.length):=by
    unfold Hid;rw [o9 a k c,List.length_append,m.out]
   clear f t;generalize a[k]=s at*;have hs0:(0:Int)<=(s.length:Int):=by omega
   have hs1:(n:Int)+(s.length:Int)<=1000000:=by omega
   have hs2:(0:Int)<=(n:Int)+(s.length:Int):=by omega
   have ae:(0:Int)<=(k:Int):=by omega
   have p:(k:Int)<a.length:=by omega
   go_wp2_with fail
   go_roundw
   case rel=>exact⟨k+1,n+s.length,by omega,by go_num,by go_num,q,(by first | exact trivial | rfl)⟩
   case measure=>simp [intOf];omega
  ·have p:(a.length:Int)<=(k:Int):=by omega
   have ab:Hid (n=a.flatten.length):=by unfold Hid;rw [m.out,List.take_of_length_le (by omega)]
   go_wp2_with (go_at_call 131;refine(FJ n _ F).mono ?_;rintro e w1 ⟨v1,rfl,y,P⟩)
   obtain⟨a1,a2,a3,rfl⟩:=iw y;have D:=ij y;have K:=ij P;clear y P m ab F al ap N c p;go_wp2_with fail
   go_loopw [6,27] (fun v i w'=>∃ k:Nat,k<=a.length/\i= .int .i64 k/\Hid (w'.ownsRow w.heap.size 3 1 v (a.take k).flatten.length (iL (a.take k).flatten))/\Hid (w.grownBy w' none)) (fun _ i _=>a.length - (intOf i).toNat)
   case atStart=>exact⟨0,Nat.zero_le _,rfl,D,K⟩
   case round=>
    clear D K;obtain⟨k,N,rfl,h,b⟩:=hrel;obtain⟨d,O⟩:∃ d,d=wr:=⟨_,rfl⟩;rw [<-O]at h b ⊢;clear O;by_cases c:k<a.length
    ·obtain⟨x,c0,f,t⟩:=G.out k c;obtain⟨l,r,rfl⟩:=f.form;have d0:=ip b.out _ _ c0;have ak:(a.take k).flatten.length+a[k].length<=1000000:=by
      have B:=vI a (k+1);rw [o9 a k c,List.length_append]at B;omega
     have q:Hid ((a.take (k+1)).flatten=(a.take k).flatten++a[k]):=o9 a k c;have A:Hid (IntsAt d.heap.size d (.slice l a[k].length r) a[k]):=(f.pres (ip b.out)).mono b.out.size;have E:Hid (l=none->a[k].length=0/\r=0):=fun e=>t _ _ (by rw [e])
     have L:Hid (∀ C,l=some C->∀ j u,(iL a[k])[j]?=some u->d.cell? (C.add j)=some u):=by
      rintro C rfl j u Q;have hl:=(List.getElem?_eq_some_iff.1 Q).1;rw [jZ]at hl;obtain⟨ao,cp,e,_,R⟩:=A.out;obtain⟨g',o',W,_⟩:=R 0 (by omega);simp only [Value.slice.injEq]at e;rw [W]at e;simp only [Option.some.injEq]at e;obtain⟨rfl,_⟩:=e;exact A4 A.out j u Q
     clear c0 f t;generalize a[k]=s at*;obtain⟨b1,b2,b3,hv⟩:=iw h.out;have ae:(0:Int)<=(k:Int):=by omega
     have p:(k:Int)<a.length:=by omega
     have Z:(iL s).length=s.length*1:=by rw [jZ];omega
     have aj:(a.take k).flatten.length+s.length<=maxLen:=by unfold maxLen;omega
     have ai:w.heap.size<=d.heap.size:=b.out.size;have ag:=ij (iA h.out);go_wp2_with (at_builtin;refine kt rfl _ _ _ rfl w.heap.size 3 X _ 1 8 Tryz.underlying39 aa Y ac am rfl (by omega) u6 (a.take k).flatten.length (iL (a.take k).flatten) rfl h.out l s.length r (iL s) rfl Z E.out L.out (oZ _) aj (by omega) ai ?_;intro ta S V J H I)
     have aq:Hid (J.ownsRow w.heap.size 3 1 (.slice ta S V) (a.take (k+1)).flatten.length (iL (a.take (k+1)).flatten)):=by
      unfold Hid;rw [q.out,List.length_append]
      have:iL ((a.take k).flatten++s)=iL (a.take k).flatten++iL s:=by simp [iL]
      rw [this];exact H
     have T:Hid (w.grownBy J none):=jG b.out I ag.out;clear H I h b q A E L;go_wp2_with fail
     go_roundw
     case rel=>exact⟨k+1,by omega,by go_num,aq,T⟩
     case measure=>simp [intOf];omega
    ·have p:(a.length:Int)<=(k:Int):=by omega
     have af:Hid (d.ownsRow w.heap.size 3 1 u6 a.flatten.length (iL a.flatten)):=by
      have:=h.out;rwa [List.take_of_length_le (by omega)]at this
     go_wp2_with fail
     go_ret;exact⟨_,rfl,af.out,b.out⟩
theorem BA{W:World}{x:Value}{l:List Int}{t:TypeId}{g:Nat}(c:W.heap.size=g)(h:IntsAt W.heap.size W x l)(b:ox x):yJ (W.alloc (.cells #[x] t)) (.slice (some ⟨g,0,none⟩) 1 1) [l]:=by
 subst c;refine⟨W.heap.size,0,1,rfl,by simp,fun k hk=>⟨x,?_,?_,b⟩⟩
 ·have a:k=0:=by simp at hk;omega
  subst a;have h:=heap_alloc_new W (.cells #[x] t);simp only [World.cell?,h];rfl
 ·have a:k=0:=by simp at hk;omega
  subst a;exact(h.pres (ip (iq (ir _ _)))).mono (by simp)
theorem wS{W:World}{x y:Value}{l m:List Int}{t:TypeId}{g:Nat}(d:W.heap.size=g)(h:IntsAt W.heap.size W x l)(f:ox x)(e:IntsAt W.heap.size W y m)(c:ox y):yJ (W.alloc (.cells #[x,y] t)) (.slice (some ⟨g,0,none⟩) 2 2) [l,m]:=by
 subst d;have b:=heap_alloc_new W (.cells #[x,y] t);have a:∀ {v:Value} {l:List Int},IntsAt W.heap.size W v l->IntsAt (W.alloc (.cells #[x,y] t)).heap.size (W.alloc (.cells #[x,y] t)) v l:=fun h=>(h.pres (ip (iq (ir _ _)))).mono (by simp)
 refine⟨W.heap.size,0,2,rfl,by simp,fun k hk=>?_⟩;have i:k=0\/k=1:=by simp at hk;omega
 rcases i with rfl | rfl
 ·exact⟨x,by simp only [World.cell?,b];rfl,a h,f⟩
 ·exact⟨y,by simp only [World.cell?,b];rfl,a e,c⟩
theorem MachAt.mono{B a:Nat}{w:World}{m:Nat}{p:List (List Ins)}(H:MachAt B w m p)(e:B<=a):MachAt a w m p:=by
 obtain⟨g,d,h1,h2,c,b⟩:=H;refine⟨g,d,by omega,by omega,c,fun t ht=>?_⟩;obtain⟨v,k1,k2⟩:=b t ht;exact⟨v,k1,k2.mono e⟩
theorem IntsAt.front{B:Nat}{w:World}{d:Option Addr}{b n:Nat}{l:List Int}(h:IntsAt B w (.slice d l.length b) l)(q:n<=l.length):IntsAt B w (.slice d n b) (l.take n):=by
 obtain⟨a,c,e,h1,f⟩:=h;simp only [Value.slice.injEq,true_and]at e;obtain⟨rfl,rfl⟩:=e;refine⟨d,b,by simp [Nat.min_eq_left q],by simp;omega,fun k hk=>?_⟩;have j:k<l.length:=by simp at hk;omega
 obtain⟨g,o,i,p,m⟩:=f k j;exact⟨g,o,i,p,by rw [List.getElem_take];exact m⟩
theorem xY(o:Out)(w:World)(f l:Option Addr)(i j h:Nat)(c m d k:Int)(hl:o.steps.length<=1000):
  Calls Tryz.prog 90 #[.agg #[.int .i64 o.kind,.int .i64 o.thread,.int .i64 o.at_,.slice f o.steps.length i,.int .i64 c,.int .i64 m,.int .i64 d,.int .i64 k,.slice l j h]] w fun e w'=>e= .returned (.int .i64 (kj o))/\w.grownBy w' none:=by
 have hl':(o.steps.length:Int)<=1000:=by omega
 by_cases a:o.kind=2
 ·have b:Hid (((kj o:Nat):Int)=o.steps.length+1):=by unfold Hid kj;rw [if_pos a];simp
  rw [a];go_enter Tryz.func90,Tryz.ntmps90
  go_wp2_with fail
  go_ret;exact⟨by rw [b.out];first | rfl | go_num,iq (ir _ _)⟩
 ·have b:Hid (((kj o:Nat):Int)=o.steps.length):=by unfold Hid kj;rw [if_neg a]
  have hb:(o.kind==2)=false:=by simpa using a
  clear a;go_enter Tryz.func90,Tryz.ntmps90
  go_wp2_with fail
  go_ret;exact⟨by rw [b.out];first | rfl | go_num,iq (ir _ _)⟩
end
section
open Go.RowKit
theorem pX(k t a:Int)(sv e:Value)(b f d c:Value)(w:World):(Instr.field 31 (.agg #[.int .i64 k,.int .i64 t,.int .i64 a,sv,b,f,d,c,e]) 0).run Tryz.prog w= .ok (.agg #[.int .i64 k,.int .i64 t,.int .i64 a]) w:=by
 simp [Instr.field,run_underlying Tryz.underlying31,asAgg,part,Tryz.isAgg26,Tryz.sizeOf26]
end
end Go.Proofs.YtklenjmfalljgabGreatDoor
