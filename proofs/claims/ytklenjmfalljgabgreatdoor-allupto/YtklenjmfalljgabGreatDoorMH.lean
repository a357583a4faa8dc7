/- The texts Shp Sht Rfs Hgq Kqa Hgt Hgx Kqb Kqc. -/
import Derived.Test.YtklenjmfalljgabGreatDoorMG
namespace Go.Proofs.YtklenjmfalljgabGreatDoor
set_option maxRecDepth 100000
set_option maxHeartbeats 8000000
section
open Go.RowKit
attribute [local go_sem] Go.World.cell?_alloc_some pX
theorem tq(p:List (List Ins))(l:List Int):(iI p l).steps.length<=l.length:=by
 obtain⟨m,h1,h2,a,_⟩:=og p l 0 St.zero [];unfold iI;simp at a;omega
def Fd(o:Out)(sv gv:Value):Array Value:= #[.int .i64 o.kind,.int .i64 o.thread,.int .i64 o.at_,sv,.int .i64 (o.st.vars 0),.int .i64 (o.st.vars 1),.int .i64 (o.st.vars 2),.int .i64 (o.st.vars 3),gv]
theorem zk{B:Nat}{w:World}{g b i:Nat}{l:List Int}(h:IntsAt B w (.slice (some ⟨g,0,none⟩) l.length b) l)(hi:i<l.length):
  IntsAt B w (.slice (some ⟨g,i+1,none⟩) (l.length - (i+1)) (b - (i+1))) (l.drop (i+1)):=by
 obtain⟨a,c,e,h1,f⟩:=h;simp only [Value.slice.injEq,true_and]at e;obtain⟨rfl,rfl⟩:=e;refine⟨some ⟨g,i+1,none⟩,b - (i+1),by simp,by simp;omega,fun k hk=>?_⟩;have j:i+1+k<l.length:=by simp at hk;omega
 obtain⟨g',o',d,n,m⟩:=f (i+1+k) j;simp only [Option.some.injEq,Addr.mk.injEq,and_true]at d;obtain⟨rfl,rfl⟩:=d;refine⟨g,i+1,rfl,n,?_⟩;rw [List.getElem_drop];simpa using m
theorem oy{w:World}{o:Obj}:w.grownBy (w.drew.alloc o) none:=⟨rfl,rfl,rfl,by simp,fun k hk _=>heap_alloc_old w.drew _ hk⟩
theorem uX{w w':World}(h:w.drew.grownBy w' none):w.grownBy w' none:=⟨h.os,h.tape,h.output,h.size,h.block⟩
theorem FS{B:Nat}{w:World}{a:Option Addr}{c:Nat}:IntsAt B w (.slice a 0 c) []:=⟨a,c,rfl,Nat.zero_le _,fun k hk=>by simp at hk⟩
theorem oe{a:Addr}{n c:Nat}:ox (.slice (some a) n c):=fun n' c' e=>by simp at e
theorem DG{m:Nat}{w:World}{p:List (List Ins)}{v:Value}{b:List Int}{fuel:Int}(hp:iU p=true)(hM:MachAt w.heap.size w m p)(R:IntsAt w.heap.size w v b)(aQ:ox v)(bh:b.length<=500)
  (hf0:0<=fuel) (hf1:fuel<=9223372036854775807):
  Calls Tryz.prog 58 #[.pointer (some ⟨m,0,none⟩),v,.int .i64 fuel] w fun e w'=>∃ sv,e= .returned (.tuple #[sv,.int .i64 ((mm p b fuel.toNat).2:Nat)])/\w'.ownsRow w.heap.size 3 1 sv (mm p b fuel.toNat).1.length (iL (mm p b fuel.toNat).1)/\w.grownBy w' none:=by
 have HP:=ij hp;have HM:=ij hM;have HV:=ij R;have HN:=ij aQ;obtain⟨so,K,rfl⟩:=R.form;have hcap:b.length<=K:=by
  obtain⟨a,c,e,h1,_⟩:=R;simp only [Value.slice.injEq]at e;omega
 clear hp hM R aQ;have HC:=ij (zD p b);go_enter Tryz.func58,Tryz.ntmps58
 go_wp2_with fail
 refine(uh HP.out HM.out (Nat.le_refl _) HV.out bh).mono ?_;rintro e q ⟨rv,rfl,⟨sv,gv,rfl,V,aJ⟩,aw⟩;obtain⟨x1,x2,x3,rfl⟩:=iw V;obtain⟨y1,y2,y3,rfl⟩:=iw aJ;have bd:=iB V;subst bd;have aM:=ij aw;have hln:=tq p b;have hcl:=HC.out.2;have aK:Hid (∀ n,mm p b n=shr p (iI p b) n (b.take (kj (iI p b))) 0 0):=fun n=>rfl
 clear V aJ aw;generalize hO:iI p b=o at*;clear hO;have aX:o.steps.length<=1000:=by omega
 have ec:∃ f:Nat,f=kj o:=⟨_,rfl⟩;obtain⟨f,ab⟩:=ec;rw [<-ab]at hcl aK;have aW:=ij ab;clear ab;have c0:(f:Int)<=K:=by omega
 have c1:(0:Int)<=(f:Int):=by omega
 go_wp2_with (go_at_call 90;refine(xY o _ _ _ _ _ _ _ _ _ _ aX).mono ?_;rintro e z ⟨rfl,O⟩;rw [<-aW.out])
 have x:Hid (w.grownBy z none):=il (il aM.out (iq (ir _ _))) O;have a2:q.heap.size<z.heap.size:=by have:=O.size;simp at this;omega
 have a4:Hid (z.heap[q.heap.size]?=some (.cells (Fd o (.slice x1 o.steps.length x3) (.slice y1 y2 y3)) 31 (0,0))):=by
  unfold Hid;rw [O.block _ (by simp) (by simp)];exact heap_alloc_new q _
 have aT:Hid (MachAt w.heap.size z m p):=HM.out.grown' (Nat.le_refl _) x.out;have ax:Hid (IntsAt z.heap.size z (.slice so f K) (b.take f)):=((HV.out.pres (ip x.out)).mono x.out.size).front hcl;have aL:Hid (ox (.slice so f K)):=fun n c e=>by
  simp only [Value.slice.injEq]at e;have:=HN.out b.length K (by rw [e.1]);omega
 clear O aM;have C:([b.take f]:List (List Int)).flatten=b.take f:=by simp
 refine(tr [b.take f] _ _ (BA rfl ax.out aL.out) (by simp) (by rw [C];simp;omega)).mono ?_;rintro e w3 ⟨sv3,rfl,T,aD⟩;rw [C]at T;obtain⟨z1,z2,z3,rfl⟩:=iw T;have ar:Hid (w3.ownsRow w.heap.size 3 1 (.slice z1 z2 z3) (b.take f).length (iL (b.take f))):=iQ T (by have:=x.out.size;simp;omega);have aq:Hid (z.grownBy w3 none):=il (iq (ir _ _)) aD;have bl:(b.take f).length<=500:=by simp;omega
 clear T aD ax aL C;go_wp2_with fail
 go_loopw [9,10,11] (fun sv r iv w'=>∃ (l:List Int) (i u:Nat),r= .int .i64 u/\iv= .int .i64 i/\l.length<=500/\i<=l.length/\(u:Int)<=fuel/\Hid (w'.ownsRow w.heap.size 3 1 sv l.length (iL l))/\Hid (z.grownBy w' none)/\Hid (shr p o (fuel.toNat - u) l i u=shr p o fuel.toNat (b.take f) 0 0)) (fun _ r _ _=>fuel.toNat - (intOf r).toNat)
 case atStart=>exact⟨b.take f,0,0,rfl,rfl,bl,Nat.zero_le _,by omega,ar,aq,rfl⟩
 case round=>
  clear ar aq;obtain⟨l,i,u,rfl,rfl,a1,hil,j,B,D,HS⟩:=hrel;obtain⟨t,av⟩:∃ t,t=wr:=⟨_,rfl⟩;rw [<-av]at B D ⊢;clear av;have q0:(0:Int)<=(i:Int):=by omega
  have q1:(0:Int)<=(u:Int):=by omega
  have q2:(l.length:Int)<=500:=by omega
  by_cases ai:i<l.length/\(u:Int)<fuel
  ·obtain⟨Q,huf⟩:=ai;obtain⟨y,k,ba⟩:∃ y k,u9= .slice (some ⟨y,0,none⟩) l.length k:=by
    rcases B.out.2 with ⟨_,e⟩ | ⟨y,k,_,e,_⟩
    ·omega
    ·exact⟨y,k,e⟩
   subst ba;have X:=ij (jy B.out);have hcp:l.length<=k:=by
    obtain⟨a,c,e,h1,_⟩:=X.out;simp only [Value.slice.injEq]at e;omega
   have q3:(i:Int)<l.length:=by omega
   have q4:(i:Int)<=k:=by omega
   have q5:(i:Int)+1<=l.length:=by omega
   have q6:(l.length:Int)<=k:=by omega
   have aC:fuel.toNat - u=(fuel.toNat - (u+1))+1:=by omega
   have ah:Hid (shr p o fuel.toNat (b.take f) 0 0=if l9 (iI p (jb l i)) o=true then shr p o (fuel.toNat - (u+1)) (jb l i) 0 (u+1) else shr p o (fuel.toNat - (u+1)) l (i+1) (u+1)):=by
    unfold Hid;rw [<-HS.out,aC,shr,if_pos Q]
   have hll:=oJ Q;clear HS aC;go_upto_region 7 with fail
   have HA:Hid (IntsAt t.drew.heap.size t.drew (.slice (some ⟨y,0,none⟩) i k) (l.take i)):=X.out.front (by omega);go_cut [12] (fun tv w'=>Hid (w'.ownsRow w.heap.size 3 1 tv (jb l i).length (iL (jb l i))/\t.grownBy w' none))
   case first=>
    have aF:IntKind.i64.wrap ((i:Int)+1)=(i:Int)+1:=by rw [IntKind.wrap_i64];omega
    have htn:((i:Int)+1).toNat=i+1:=by omega
    by_cases hsk:k - (i+1)=0
    ·have HD:Hid (IntsAt t.drew.heap.size t.drew (.slice (some ⟨y,0,none⟩) (l.length - (i+1)) 0) (l.drop (i+1))):=by
      have e1:l.drop (i+1)=[]:=List.drop_of_length_le (by omega);have e2:l.length - (i+1)=0:=by omega
      unfold Hid;rw [e1,e2];exact FS
     have ac:Hid (k=i+1):=by unfold Hid;omega
     refine iz (fun _=>True) 9 (by kernel_rfl) (by kernel_rfl) trivial ?_;intro d;refine gJ 0 ?va0 rfl (by kernel_rfl) (fun _ _ _ h=>h) (by rfl) ?ya0 d ?_
     case ya0=>(intro u j;go_simp;try rfl)
     simp only [Act.put,List.setIfInBounds_toArray];refine gJ 1 ?va1 rfl (by kernel_rfl) (fun _ _ _ h=>h) (by rfl) ?ya1 d ?_
     case ya1=>(intro u j;go_simp;try rfl)
     simp only [Act.put];refine gJ 2 ?va2 rfl (by kernel_rfl) (fun _ _ _ h=>h) (by rfl) ?ya2 d ?_
     case ya2=>(intro u j;go_simp;try rfl)
     simp only [Act.put];refine gJ 3 ?va3 rfl (by kernel_rfl) (fun _ _ _ h=>h) (by rfl) ?ya3 d ?_
     case ya3=>(intro u j;go_simp;try rfl)
     simp only [Act.put];refine gJ 4 ?va4 rfl (by kernel_rfl) (fun _ _ _ h=>h) (by rfl) ?ya4 d ?_
     case ya4=>(intro u j;go_simp;try rfl)
     simp only [Act.put];refine kJ (i:=5) (v:= .int .i64 ((i:Int)+1)) rfl (by kernel_rfl) (fun _ _ _ h=>h) (Or.inl ⟨by rfl,?ya5⟩) d ?resta5
     case ya5=>(intro u j;go_simp;try rw [aF])
     simp only [Act.put];refine kJ (i:=6) (v:= .slice (some ⟨y,0,none⟩) (l.length - (i+1)) 0) rfl (by kernel_rfl) (fun _ _ _ h=>h) (Or.inl ⟨by rfl,?ya6⟩) d ?resta6
     case ya6=>(intro u j;have a0:=ac.out;go_simp;first | done | (intro h;exfalso;omega))
     simp only [Act.put];refine iu (i:=7) rfl (by kernel_rfl) (by kernel_rfl) (by rfl) ?_;intro K7 J;have L:=ij J;clear J;go_simp;refine L.out _ _ trivial ?_;clear L;try simp only [Act.put,List.setIfInBounds_toArray]
     refine iu (i:=8) rfl (by kernel_rfl) (by kernel_rfl) (by rfl) ?_;intro K8 F;have I:=ij F;clear F;go_simp;refine(tr [l.take i,l.drop (i+1)] _ _ (wS (W:=t.drew) rfl HA.out oe HD.out oe) (by simp) (by simp;omega)).mono ?_;rintro e w6 ⟨tv,rfl,s,A⟩;have C:([l.take i,l.drop (i+1)]:List (List Int)).flatten=jb l i:=by simp [jb]
     rw [C]at s;refine I.out _ _ trivial ?_;clear I;try simp only [Act.put,List.setIfInBounds_toArray]
     refine iH rfl (by kernel_rfl) (by kernel_rfl) (by rfl) ?_;go_simp;go_wp2
     go_meet
     exact⟨iQ s (by have:=x.out.size;have:=D.out.size;simp;omega),il oy A⟩
    ·have HD:Hid (IntsAt t.drew.heap.size t.drew (.slice (some ⟨y,i+1,none⟩) (l.length - (i+1)) (k - (i+1))) (l.drop (i+1))):=zk X.out Q;have ac:Hid (¬k=i+1):=by unfold Hid;omega
     refine iz (fun _=>True) 9 (by kernel_rfl) (by kernel_rfl) trivial ?_;intro d;refine gJ 0 ?vb0 rfl (by kernel_rfl) (fun _ _ _ h=>h) (by rfl) ?yb0 d ?_
     case yb0=>(intro u j;go_simp;try rfl)
     simp only [Act.put,List.setIfInBounds_toArray];refine gJ 1 ?vb1 rfl (by kernel_rfl) (fun _ _ _ h=>h) (by rfl) ?yb1 d ?_
     case yb1=>(intro u j;go_simp;try rfl)
     simp only [Act.put];refine gJ 2 ?vb2 rfl (by kernel_rfl) (fun _ _ _ h=>h) (by rfl) ?yb2 d ?_
     case yb2=>(intro u j;go_simp;try rfl)
     simp only [Act.put];refine gJ 3 ?vb3 rfl (by kernel_rfl) (fun _ _ _ h=>h) (by rfl) ?yb3 d ?_
     case yb3=>(intro u j;go_simp;try rfl)
     simp only [Act.put];refine gJ 4 ?vb4 rfl (by kernel_rfl) (fun _ _ _ h=>h) (by rfl) ?yb4 d ?_
     case yb4=>(intro u j;go_simp;try rfl)
     simp only [Act.put];refine kJ (i:=5) (v:= .int .i64 ((i:Int)+1)) rfl (by kernel_rfl) (fun _ _ _ h=>h) (Or.inl ⟨by rfl,?yb5⟩) d ?restb5
     case yb5=>(intro u j;go_simp;try rw [aF])
     simp only [Act.put];refine kJ (i:=6) (v:= .slice (some ⟨y,i+1,none⟩) (l.length - (i+1)) (k - (i+1))) rfl (by kernel_rfl) (fun _ _ _ h=>h) (Or.inl ⟨by rfl,?yb6⟩) d ?restb6
     case yb6=>(intro u j;have a0:=ac.out;go_simp;first | done | (intro h;exfalso;omega))
     simp only [Act.put];refine iu (i:=7) rfl (by kernel_rfl) (by kernel_rfl) (by rfl) ?_;intro K7 J;have L:=ij J;clear J;go_simp;refine L.out _ _ trivial ?_;clear L;try simp only [Act.put,List.setIfInBounds_toArray]
     refine iu (i:=8) rfl (by kernel_rfl) (by kernel_rfl) (by rfl) ?_;intro K8 F;have I:=ij F;clear F;go_simp;refine(tr [l.take i,l.drop (i+1)] _ _ (wS (W:=t.drew) rfl HA.out oe HD.out oe) (by simp) (by simp;omega)).mono ?_;rintro e w6 ⟨tv,rfl,s,A⟩;have C:([l.take i,l.drop (i+1)]:List (List Int)).flatten=jb l i:=by simp [jb]
     rw [C]at s;refine I.out _ _ trivial ?_;clear I;try simp only [Act.put,List.setIfInBounds_toArray]
     refine iH rfl (by kernel_rfl) (by kernel_rfl) (by rfl) ?_;go_simp;go_wp2
     go_meet
     exact⟨iQ s (by have:=x.out.size;have:=D.out.size;simp;omega),il oy A⟩
   case rest=>
   obtain⟨s,A⟩:=hcut;obtain⟨w6,ao⟩:∃ w6,w6=wc:=⟨_,rfl⟩;rw [<-ao]at s A ⊢;clear ao HA;obtain⟨t1,t2,t3,rfl⟩:=iw s;have a7:=iB s;subst a7;have ap:=ij s;have bj:=ij A;have G:Hid (z.grownBy w6 none):=il D.out A;have M:w6.heap[q.heap.size]?=some (.cells (Fd o (.slice x1 o.steps.length x3) (.slice y1 y2 y3)) 31 (0,0)):=by
    rw [G.out.block _ a2 (by simp)];exact a4.out
   have k0:w6.cell? ⟨q.heap.size,0,none⟩=some (.int .i64 o.kind):=by simp only [World.cell?,M];rfl
   have k1:w6.cell? ⟨q.heap.size,1,none⟩=some (.int .i64 o.thread):=by simp only [World.cell?,M];rfl
   have k2:w6.cell? ⟨q.heap.size,2,none⟩=some (.int .i64 o.at_):=by simp only [World.cell?,M];rfl
   have aV:Hid (MachAt w6.drew.heap.size w6.drew m p):=(aT.out.grown' x.out.size G.out).mono (Nat.le_trans x.out.size G.out.size);have aY:Hid (IntsAt w6.drew.heap.size w6.drew (.slice t1 (jb l i).length t3) (jb l i)):=jy ap.out;have al:(jb l i).length<=500:=by omega
   clear s A M;go_upto_region 8 with fail
   refine iz (fun u=>u.cell? ⟨q.heap.size,0,none⟩=some (.int .i64 o.kind)/\u.cell? ⟨q.heap.size,1,none⟩=some (.int .i64 o.thread)/\u.cell? ⟨q.heap.size,2,none⟩=some (.int .i64 o.at_)) 6 (by kernel_rfl) (by kernel_rfl) ⟨k0,k1,k2⟩ ?_;intro d;refine gJ 0 ?vc0 rfl (by kernel_rfl) (fun _ _ _ h=>h) (by rfl) ?yc0 d ?_
   case yc0=>(rintro u ⟨P,U,S⟩;go_simp;try rfl)
   simp only [Act.put,List.setIfInBounds_toArray];refine gJ 1 ?vc1 rfl (by kernel_rfl) (fun _ _ _ h=>h) (by rfl) ?yc1 d ?_
   case yc1=>(rintro u ⟨P,U,S⟩;go_simp;try rfl)
   simp only [Act.put];refine gJ 4 ?vc4 rfl (by kernel_rfl) (fun _ _ _ h=>h) (by rfl) ?yc4 d ?_
   case yc4=>(rintro u ⟨P,U,S⟩;go_simp;try rfl)
   simp only [Act.put];refine gJ 5 ?vc5 rfl (by kernel_rfl) (fun _ _ _ h=>h) (by rfl) ?yc5 d ?_
   case yc5=>(rintro u ⟨P,U,S⟩;go_simp;try rfl)
   simp only [Act.put];refine iu (i:=2) rfl (by kernel_rfl) (by kernel_rfl) (by rfl) ?_;intro K2 ak;have aG:=ij ak;clear ak;go_simp;refine(uh HP.out aV.out (Nat.le_refl _) aY.out al).mono ?_;rintro e H ⟨rv7,rfl,⟨sv7,gv7,rfl,aA,aj⟩,an⟩;obtain⟨sa7,sb7,sc7,rfl⟩:=iw aA;obtain⟨ra7,rb7,rc7,rfl⟩:=iw aj;clear aA aj;have E:Hid (w6.grownBy H none):=uX an;have Y:H.cell? ⟨q.heap.size,0,none⟩=some (.int .i64 o.kind)/\H.cell? ⟨q.heap.size,1,none⟩=some (.int .i64 o.thread)/\H.cell? ⟨q.heap.size,2,none⟩=some (.int .i64 o.at_):=⟨ip E.out _ _ k0,ip E.out _ _ k1,ip E.out _ _ k2⟩;refine aG.out _ _ Y ?_;clear aG an;try simp only [Act.put,List.setIfInBounds_toArray]
   refine gJ 3 ?vd3 rfl (by kernel_rfl) (fun _ _ _ h=>h) (by rfl) ?yd3 Y ?_
   case yd3=>(rintro u ⟨P,U,S⟩;go_simp;try rfl)
   simp only [Act.put,List.setIfInBounds_toArray];refine iH rfl (by kernel_rfl) (by kernel_rfl) (by rfl) ?_;go_simp;refine(pq (iI p (jb l i)) o H).mono ?_;rintro e w8 ⟨rfl,az⟩;have N:Hid (w6.grownBy w8 none):=il E.out az;clear az d Y E k0 k1 k2;have q7:(u:Int)+1<=9223372036854775807:=by omega
   cases hlk:l9 (iI p (jb l i)) o
   ·have Z:Hid (shr p o (fuel.toNat - (u+1)) l (i+1) (u+1)=shr p o fuel.toNat (b.take f) 0 0):=by
     unfold Hid;rw [ah.out,hlk];simp
    clear hlk;go_wp2_with fail
    go_roundw
    case rel=>exact⟨l,i+1,u+1,by go_num,by go_num,a1,by omega,by omega,iD (iD B.out bj.out (fun _ e=>by cases e)) N.out (fun _ e=>by cases e),il G.out N.out,Z⟩
    case measure=>simp [intOf];omega
   ·have Z:Hid (shr p o (fuel.toNat - (u+1)) (jb l i) 0 (u+1)=shr p o fuel.toNat (b.take f) 0 0):=by
     unfold Hid;rw [ah.out,hlk];simp
    clear hlk;go_wp2_with fail
    go_roundw
    case rel=>exact⟨jb l i,0,u+1,by go_num,rfl,al,by omega,by omega,iD ap.out N.out (fun _ e=>by cases e),il G.out N.out,Z⟩
    case measure=>simp [intOf];omega
  ·have HE:Hid (shr p o fuel.toNat (b.take f) 0 0=(l,u)):=by
    unfold Hid;rw [<-HS.out];cases hn:fuel.toNat - u with
    | zero=>rfl
    | succ n=>rw [shr,if_neg (fun h=>ai ⟨h,by omega⟩)]
   have aN:Hid (mm p b fuel.toNat=(l,u)):=by unfold Hid;rw [aK.out,HE.out]
   obtain⟨b1,b2,b3,rfl⟩:=iw B.out;have a9:=iB B.out;subst a9;by_cases Q:i<l.length
   ·have q3:(i:Int)<l.length:=by omega
    have q4:fuel<=(u:Int):=by omega
    go_wp2_with fail
    rw [aN.out];exact bodyPost_ret (v:= .tuple #[.slice b1 l.length b3,.int .i64 u]) (by simp [results,Tryz.results58,go_sem]) rfl ⟨_,rfl,B.out,il x.out D.out⟩
   ·have q3:(l.length:Int)<=(i:Int):=by omega
    go_wp2_with fail
    rw [aN.out];exact bodyPost_ret (v:= .tuple #[.slice b1 l.length b3,.int .i64 u]) (by simp [results,Tryz.results58,go_sem]) rfl ⟨_,rfl,B.out,il x.out D.out⟩
end
section
open Go.RowKit
attribute [local go_sem] Go.World.cell?_alloc_some
def Shortened(p:List (List Ins))(s:List Int)(fuel:Int)(w:World)(e:Ending)(w':World):Prop:=
 w.grownBy w' none/\
 ((iC p s=0/\0<=fuel/\∃ sv,e= .returned (.tuple #[sv,.int .i64 ((mm p s fuel.toNat).2:Nat),.int .i64 0])/\w'.ownsRow w.heap.size 3 1 sv (mm p s fuel.toNat).1.length (iL (mm p s fuel.toNat).1))\/
  (iC p s=0/\fuel<0/\e= .returned (.tuple #[.slice none 0 0,.int .i64 0,.int .i64 2]))\/
  (iC p s≠0/\e= .returned (.tuple #[.slice none 0 0,.int .i64 0,.int .i64 (iC p s)])))
theorem sH{p:List (List Ins)}{s:List Int}(b:iC p s=0):iU p=true/\s.length<=500:=by
 unfold iC at b;by_cases a:iU p=true
 ·by_cases c:s.length<=500
  ·exact⟨a,c⟩
  ·simp [a,c]at b
 ·simp [a]at b
theorem Bi(p:List (List Ins))(s:List Int)(pv sv:Value)(fuel:Int)(w:World)(y:ShpAt w)(i:ProgAt w pv p)(k:IntsAt w.heap.size w sv s)(G:ox sv)(R:fuel<=9223372036854775807):
  Calls Tryz.prog 32 #[pv,sv,.int .i64 fuel] w (Shortened p s fuel w):=by
 have M:=ij y;have z:=ij i;have U:=ij k;have P:=ij G;obtain⟨F,D,rfl⟩:=i.form;obtain⟨so,sc,rfl⟩:=k.form;clear y i k G;go_enter Tryz.func32,Tryz.ntmps32
 go_wp2_with fail
 have j:∀ a b,w.grownBy ((w.alloc a).alloc b) none:=fun a b=>iq (iq (ir _ _))
 refine(ou p [s] _ _ _ (M.out.pres (ip (j _ _))) (z.out.pres (ip (j _ _))) (qX (by simp)) (by simp)).mono ?_;rw [nI];rintro e o ⟨rfl,l⟩;have f:Hid (w.grownBy o none):=il (j _ _) l;have x:o.heap[w.heap.size]?=some (.cells #[.slice F p.length D] 37 (0,0)):=by
  rw [l.block w.heap.size (by simp;omega) (by simp),Below.heap_alloc _ _ _ (by simp)];exact heap_alloc_new w _
 have c0:o.cell? ⟨w.heap.size,0,none⟩=some (.slice F p.length D):=by simp [World.cell?,x]
 clear x l;by_cases c:iC p s=0
 ·have h:=ij c;obtain⟨q,J⟩:=sH c;have u:=ij q;rw [c];clear c q;by_cases T:fuel<0
  ·go_wp2_with fail
   exact bodyPost_ret (v:= .tuple #[.slice none 0 0,.int .i64 0,.int .i64 2]) (by simp [results,Tryz.results32,go_sem]) rfl ⟨f.out,Or.inr (Or.inl ⟨h.out,T,rfl⟩)⟩
  ·have r:0<=fuel:=by omega
   go_wp2_with fail
   refine(zF u.out (z.out.pres (ip f.out))).mono ?_;rintro e Q ⟨m,rfl,t,E⟩;have S:=ij t;have d:Hid (w.grownBy Q none):=il f.out E;clear t E c0;go_wp2_with fail
   refine(DG u.out S.out ((U.out.pres (ip d.out)).mono d.out.size) P.out J r R).mono ?_;rintro e O ⟨rv,rfl,n,C⟩;obtain⟨N,I,H,rfl⟩:=iw n;have L:=ij n;have K:Hid (w.grownBy O none):=il d.out C;clear n C;go_wp2_with fail
   exact bodyPost_ret (v:= .tuple #[.slice N I H,.int .i64 ((mm p s fuel.toNat).2:Nat),.int .i64 0]) (by simp [results,Tryz.results32,go_sem]) rfl ⟨K.out,Or.inl ⟨h.out,r,_,rfl,iQ L.out d.out.size⟩⟩
 ·have h:=ij c;have hne:(iC p s !=0)=true:=by simpa using c
  clear c;generalize A:iC p s=e at*;have B:=ij A;clear A;go_wp2_with fail
  exact bodyPost_ret (v:= .tuple #[.slice none 0 0,.int .i64 0,.int .i64 e]) (by simp [results,Tryz.results32,go_sem]) rfl ⟨f.out,Or.inr (Or.inr ⟨by rw [B.out];exact h.out,by rw [B.out]⟩)⟩
theorem sZ{B:Nat}{w:World}{i:Option Addr}{r n:Nat}{l:List Int}(h:IntsAt B w (.slice i n r) l):∀ b,i=some b->∀ j u,(iL l)[j]?=some u->w.cell? (b.add j)=some u:=by
 rintro b rfl j u d;obtain⟨a,c,e,_,p⟩:=h;have f:=(List.getElem?_eq_some_iff.1 d).1;rw [jZ]at f;obtain⟨k,m,q,e2,s⟩:=p j f;simp only [Value.slice.injEq]at e;rw [q]at e;simp only [Option.some.injEq]at e;obtain⟨rfl,_⟩:=e;have o:(⟨k,m,none⟩:Addr).add j=⟨k,m+j,none⟩:=by unfold Addr.add;split<;>simp_all
 rw [o,s];have:(iL l)[j]?=some (.int .i64 l[j]):=by simp [iL,f]
 rw [this]at d;exact d
theorem mB{w:World}(n:Nat):w.grownBy (w.drewN n) none:=iK (by have:=lf w n;exact this)
theorem Ap(a b:Out):l9 a b=((a.kind==b.kind && (a.thread==b.thread && a.at_==b.at_)) || (a.kind==2 && b.kind==2)):=by
 unfold l9;by_cases h:a.kind=2
 ·rw [if_pos h,h];by_cases d:b.kind=2
  ·simp [d]
  ·have e:((2:Int)==b.kind)=false:=by simp;omega
   have c:(b.kind==2)=false:=by simpa using d
   simp [e,c]
 ·have c:(a.kind==2)=false:=by simpa using h
  rw [if_neg h,c];simp [Bool.and_assoc]
theorem vo(p:List (List Ins))(s:List Int)(pv sv:Value)(fuel:Int)(w:World)(hP:ProgAt w pv p)(hI:IntsAt w.heap.size w sv s)(bD:ox sv)(hf1:fuel<=9223372036854775807)(bW:p.length<=5864062014634)(aR:∀ c∈p,c.length<=4398046510976):
  Calls Tryz.prog 33 #[pv,sv,.int .i64 fuel] w (Shortened p s fuel w):=by
 obtain⟨i0,ar,aq,ai,ap⟩:=info_parts ko;have HP:=ij hP;have HI:=ij hI;have HN:=ij bD;have b4:=ij aR;obtain⟨ao,au,rfl⟩:=hP.form;obtain⟨X,J,rfl⟩:=hI.form;have hcap:s.length<=J:=by
  obtain⟨a,c,e,h1,_⟩:=hI;simp only [Value.slice.injEq]at e;omega
 clear hP hI bD aR;go_enter Tryz.func33,Tryz.ntmps33
 go_wp2_with fail
 have bi:∀ a,w.grownBy (w.alloc a) none:=fun a=>iq (ir _ _)
 refine(mG p _ _ (HP.out.pres (ip (bi _))) bW b4.out).mono ?_;rintro e w1 ⟨rfl,aC⟩;have K:Hid (w.grownBy w1 none):=il (bi _) aC;have bq:w1.heap[w.heap.size]?=some (.cells #[.slice ao p.length au] 37 (0,0)):=by
  rw [aC.block w.heap.size (by simp) (by simp)];exact heap_alloc_new w _
 have c0:w1.cell? ⟨w.heap.size,0,none⟩=some (.slice ao p.length au):=by simp [World.cell?,bq]
 clear bq aC;by_cases G:iU p=true
 ·have S:jh p=0:=by simp [jh,G]
  have HV:=ij G;rw [S];clear S G;by_cases h5:s.length<=500
  ·have cj:(s.length:Int)<=500:=by omega
   have D:Hid (iC p s=0):=by unfold Hid iC;simp [HV.out,h5]
   by_cases hf:fuel<0
   ·go_wp2_with fail
    exact bodyPost_ret (v:= .tuple #[.slice none 0 0,.int .i64 0,.int .i64 2]) (by simp [results,Tryz.results33,go_sem]) rfl ⟨K.out,Or.inr (Or.inl ⟨D.out,hf,rfl⟩)⟩
   ·have bp:0<=fuel:=by omega
    have R:=ij (pD w1 ao au p (.slice X s.length J) s HV.out (HP.out.pres (ip K.out)) ((HI.out.pres (ip K.out)).mono K.out.size) (by omega));go_wp2_with fail
    refine(ns R).mono ?_;clear R;rintro e y ⟨b,ab,rb,st,rfl,N⟩;obtain⟨x1,x2,x3,rfl⟩:=iw N.row;have b9:=iB N.row;subst b9;have W:Hid (w.grownBy y none):=il K.out N.frame;obtain⟨bX,bc,bn,aW,_,_,_⟩:=N.vcells;have ca:=ij (ip N.frame _ _ c0);have bZ:Hid (∀ u,y.grownBy u none->u.cell? ⟨b,11,none⟩=some (.int .i64 (iI p s).kind)/\u.cell? ⟨b,12,none⟩=some (.int .i64 (iI p s).thread)/\u.cell? ⟨b,13,none⟩=some (.int .i64 (iI p s).at_)):=fun u hu=>⟨ip hu _ _ bc,ip hu _ _ bn,ip hu _ _ aW⟩
    have bb:=ij (zD p s);have hln:=tq p s;have br:Hid (∀ n,mm p s n=shr p (iI p s) n (s.take (kj (iI p s))) 0 0):=fun n=>rfl
    clear N c0 bn aW;have hcl:=bb.out.2;generalize hO:iI p s=o at*;clear hO;obtain⟨f,aH⟩:∃ f:Nat,f=kj o:=⟨_,rfl⟩;rw [<-aH]at hcl br;have a0:=ij aH;clear aH bb;have hl1:(o.steps.length:Int)<=500:=by omega
    go_upto_if 42 with fail
    go_cut [11] (fun nv w'=>nv= .int .i64 (f:Int)/\w'=y)
    case first=>
     by_cases hk:o.kind=2
     ·have hc:f=o.steps.length+1:=by rw [a0.out];unfold kj;rw [if_pos hk]
      have HC:=ij hc;clear hc;go_wp2_with fail
      go_meet
      exact⟨by rw [HC.out];go_num,rfl⟩
     ·have hk2:(o.kind==2)=false:=by simpa using hk
      have hc:f=o.steps.length:=by rw [a0.out];unfold kj;rw [if_neg hk]
      have HC:=ij hc;clear hc hk;go_wp2_with fail
      go_meet
      exact⟨by rw [HC.out],rfl⟩
    case rest=>
    obtain⟨rfl,bI⟩:=hcut;have bM:=bI.symm;subst bM;have bg:Hid (IntsAt y.heap.size y (.slice X f J) (s.take f)):=((HI.out.pres (ip W.out)).mono W.out.size).front hcl;have aV:Hid (X=none->f=0/\J=0):=fun e=>by
     have:=HN.out s.length J (by rw [e]);omega
    have L:Hid (∀ ad,X=some ad->∀ j u,(iL (s.take f))[j]?=some u->y.cell? (ad.add j)=some u):=sZ bg.out;have aK:(iL (s.take f)).length=f*1:=by rw [jZ];simp;omega
    have bC:0+f<=maxLen:=by unfold maxLen;omega
    have q0:(f:Int)<=J:=by omega
    have q1:(0:Int)<=(f:Int):=by omega
    have cd:=W.out.size;clear bX bc;go_upto_region 12 with (at_builtin;refine kt rfl _ _ _ rfl w.heap.size 3 i0 _ 1 8 Tryz.underlying39 ar aq ai ap rfl (by omega) (.slice none 0 0) 0 [] rfl ⟨rfl,Or.inl ⟨rfl,rfl⟩⟩ X f J (iL (s.take f)) rfl aK aV.out L.out (oZ _) bC (by omega) cd ?_;intro z1 z2 z3 w3 aI bl)
    simp only [Nat.zero_add,List.nil_append]at aI;have aX:(s.take f).length=f:=by simp;omega
    have a6:Hid (w3.ownsRow w.heap.size 3 1 (.slice z1 z2 z3) (s.take f).length (iL (s.take f))):=by unfold Hid;rw [aX];exact aI
    have a5:Hid (y.grownBy w3 none):=bl;have cm:(s.take f).length<=500:=by omega
    clear aI bl aK bC aV L bg aX;go_wp2_with fail
    go_loopw [12,13,14] (fun lv uv kv w'=>∃ (l:List Int) (i u:Nat),uv= .int .i64 u/\kv= .int .i64 i/\l.length<=500/\i<=l.length/\(u:Int)<=fuel/\Hid (w'.ownsRow w.heap.size 3 1 lv l.length (iL l))/\Hid (y.grownBy w' none)/\Hid (shr p o (fuel.toNat - u) l i u=shr p o fuel.toNat (s.take f) 0 0)) (fun _ uv _ _=>fuel.toNat - (intOf uv).toNat)
    case atStart=>exact⟨s.take f,0,0,rfl,rfl,cm,Nat.zero_le _,by omega,a6,a5,rfl⟩
    case round=>
     clear a6 a5;obtain⟨l,i,u,rfl,rfl,bP,aK,hu,H,HG,HS⟩:=hrel;obtain⟨t,a8⟩:∃ t,t=wr:=⟨_,rfl⟩;rw [<-a8]at H HG ⊢;clear a8;have r0:(0:Int)<=(i:Int):=by omega
     have r1:(0:Int)<=(u:Int):=by omega
     have r2:(l.length:Int)<=500:=by omega
     by_cases bJ:i<l.length/\(u:Int)<fuel
     ·obtain⟨aD,huf⟩:=bJ;obtain⟨r,k,b2⟩:∃ r k,u12= .slice (some ⟨r,0,none⟩) l.length k:=by
       rcases H.out.2 with ⟨_,e⟩ | ⟨r,k,_,e,_⟩
       ·omega
       ·exact⟨r,k,e⟩
      subst b2;have ay:=ij (jy H.out);have hcp:l.length<=k:=by
       obtain⟨a,c,e,h1,_⟩:=ay.out;simp only [Value.slice.injEq]at e;omega
      have r3:(i:Int)<l.length:=by omega
      have r4:(i:Int)<=k:=by omega
      have r5:(i:Int)+1<=l.length:=by omega
      have r6:(l.length:Int)<=k:=by omega
      have bj:fuel.toNat - u=(fuel.toNat - (u+1))+1:=by omega
      have Q:Hid (shr p o fuel.toNat (s.take f) 0 0=if l9 (iI p (jb l i)) o=true then shr p o (fuel.toNat - (u+1)) (jb l i) 0 (u+1) else shr p o (fuel.toNat - (u+1)) l (i+1) (u+1)):=by
       unfold Hid;rw [<-HS.out,bj,shr,if_pos aD]
      have a3:=oJ aD;have aJ:=ij a3;have bH:w.heap.size<=t.heap.size:=by have:=HG.out.size;omega
      have L:Hid (∀ ad,some (⟨r,0,none⟩:Addr)=some ad->∀ j v,(iL (l.take i))[j]?=some v->t.cell? (ad.add j)=some v):=sZ (IntsAt.front ay.out (by omega));have bG:(iL (l.take i)).length=i*1:=by rw [jZ];simp;omega
      have bE:0+i<=maxLen:=by unfold maxLen;omega
      clear HS bj a3;go_upto_region 17 with (at_builtin;refine kt rfl _ _ _ rfl t.heap.size 3 i0 _ 1 8 Tryz.underlying39 ar aq ai ap rfl (by omega) (.slice none 0 0) 0 [] rfl ⟨rfl,Or.inl ⟨rfl,rfl⟩⟩ (some ⟨r,0,none⟩) i k (iL (l.take i)) rfl bG (fun e=>by cases e) L.out (oZ _) bE (by omega) (Nat.le_refl _) ?_;intro ta tn tc w6 az Y)
      simp only [Nat.zero_add,List.nil_append]at az;have U:=ij az;have aG:Hid (t.grownBy w6 none):=Y;have aw:t.heap.size<=w6.heap.size:=Y.size;have a1:Hid (IntsAt w6.heap.size w6 (.slice (some ⟨r,0,none⟩) l.length k) l):=(ay.out.pres (ip Y)).mono Y.size;have aE:iL (l.take i)++iL (l.drop (i+1))=iL (jb l i):=by simp [iL,jb]
      have bA:i+(l.length - (i+1))=(jb l i).length:=by have:=aJ.out;omega
      have aY:i+(l.length - (i+1))<=maxLen:=by unfold maxLen;omega
      have aZ:(iL (l.drop (i+1))).length=(l.length - (i+1))*1:=by rw [jZ];simp
      clear az Y bG bE L;go_cut [15] (fun tv w'=>Hid (w'.ownsRow t.heap.size 3 1 tv (jb l i).length (iL (jb l i))/\t.grownBy w' none))
      case first=>
       by_cases hsk:k - (i+1)=0
       ·have a2:k=i+1:=by omega
        have aT:l.drop (i+1)=[]:=List.drop_of_length_le (by omega);have M:Hid (iL (jb l i)=iL (l.take i)/\(jb l i).length=i):=⟨by rw [<-aE,aT];simp [iL],by omega⟩;clear aT;subst a2;go_wp2_with (at_builtin;refine kt rfl _ _ _ rfl t.heap.size 3 i0 _ 1 8 Tryz.underlying39 ar aq ai ap rfl (by omega) (.slice ta tn tc) i (iL (l.take i)) rfl U.out (some ⟨r,0,none⟩) 0 0 [] rfl rfl (fun e=>by cases e) (fun ad e j v hj=>by simp at hj) (fun v G=>by cases G) (by omega) (by omega) aw ?_;intro tb tm td F aM E)
        go_meet
        exact⟨by rw [M.out.1,M.out.2];simpa using aM,jG aG.out E (fun q e=>iA U.out q e)⟩
       ·have b6:Hid (IntsAt w6.heap.size w6 (.slice (some ⟨r,i+1,none⟩) (l.length - (i+1)) (k - (i+1))) (l.drop (i+1))):=zk a1.out aD;have L:Hid (∀ ad,some (⟨r,i+1,none⟩:Addr)=some ad->∀ j v,(iL (l.drop (i+1)))[j]?=some v->w6.cell? (ad.add j)=some v):=sZ b6.out;have a2:¬k=i+1:=by omega
        go_wp2_with (at_builtin;refine kt rfl _ _ _ rfl t.heap.size 3 i0 _ 1 8 Tryz.underlying39 ar aq ai ap rfl (by omega) (.slice ta tn tc) i (iL (l.take i)) rfl U.out (some ⟨r,i+1,none⟩) (l.length - (i+1)) (k - (i+1)) (iL (l.drop (i+1))) rfl aZ (fun e=>by cases e) L.out (oZ _) aY (by omega) aw ?_;intro tb tm td F aM E)
        go_meet
        exact⟨by rw [<-aE,<-bA];exact aM,jG aG.out E (fun q e=>iA U.out q e)⟩
      case rest=>
      obtain⟨P,E⟩:=hcut.out;clear hcut U aG a1 aE bA aY aZ aw;obtain⟨F,ba⟩:∃ F,F=wc:=⟨_,rfl⟩;rw [<-ba]at P E ⊢;clear ba;obtain⟨t1,t2,t3,ht⟩:=iw P;subst ht;have cq:=ij P;have bO:=ij E;have aO:Hid (y.grownBy F none):=il HG.out E;have b7:Hid (w.grownBy F none):=il W.out aO.out;have c7:=ip aO.out _ _ ca.out;have R:=ij (pD F ao au p (.slice t1 t2 t3) (jb l i) HV.out (HP.out.pres (ip b7.out)) (jy P) (by have:=aJ.out;omega));clear P E;go_wp2_with fail
      refine(ns R).mono ?_;clear R c7;rintro e I ⟨b8,ab8,rb8,st8,rfl,aA⟩;obtain⟨_,k1,k2,k3,_,_,_⟩:=aA.vcells;have be:=ij aA.frame;have C:=ij (Ap (iI p (jb l i)) o);have bx:Hid (∃ A,A=l9 (iI p (jb l i)) o):=⟨_,rfl⟩;clear aA;generalize hq:iI p (jb l i)=q at*;obtain⟨A,aQ⟩:=bx.out;rw [<-aQ]at Q C;clear bx aQ hq;go_upto_region 20 with fail
      obtain⟨B,ag⟩:∃ B,B=I.alloc (.cells #[.int .i64 q.kind,.int .i64 q.thread,.int .i64 q.at_] 26):=⟨_,rfl⟩;have a9:Hid (I.grownBy B none):=by unfold Hid;rw [ag];exact iq (ir _ _)
      have zb:B.heap[I.heap.size]?=some (.cells #[.int .i64 q.kind,.int .i64 q.thread,.int .i64 q.at_] 26 (0,0)):=by rw [ag];exact heap_alloc_new I _
      rw [<-ag];clear ag k1 k2 k3;have bw:Hid (y.grownBy B none):=il aO.out (il be.out a9.out);obtain⟨m1,m2,m3⟩:=bZ.out B bw.out;have n0:B.cell? ⟨I.heap.size,0,none⟩=some (.int .i64 q.kind):=by simp [World.cell?,zb]
      have n1:B.cell? ⟨I.heap.size,1,none⟩=some (.int .i64 q.thread):=by simp [World.cell?,zb]
      have n2:B.cell? ⟨I.heap.size,2,none⟩=some (.int .i64 q.at_):=by simp [World.cell?,zb]
      clear zb;generalize q.kind=qk at*;generalize q.thread=qt at*;generalize q.at_=qa at*;generalize o.kind=ok at*;generalize o.thread=ot at*;generalize o.at_=oa at*;go_cut [96] (fun x w'=>x= .bool A/\Hid (B.grownBy w' none))
      case first=>
       by_cases V:qk=ok
       ·subst V;by_cases Z:qt=ot
        ·subst Z;by_cases e3:qa=oa
         ·subst e3;have m:Hid (A=true):=by unfold Hid;rw [C.out];simp
          go_quiet (fail)
          go_wp2_with fail
          go_meet
          exact⟨by rw [m.out],mB _⟩
         ·have b3:(qa==oa)=false:=by simpa using e3
          by_cases z:qk=2
          ·subst z;have m:Hid (A=true):=by unfold Hid;rw [C.out];simp
           clear e3;go_quiet (fail)
           go_wp2_with fail
           go_meet
           exact⟨by rw [m.out],mB _⟩
          ·have T:(qk==2)=false:=by simpa using z
           have m:Hid (A=false):=by unfold Hid;rw [C.out];simp [b3,T]
           clear e3 z;go_quiet (fail)
           go_wp2_with fail
           go_meet
           exact⟨by rw [m.out],mB _⟩
        ·have b1:(qt==ot)=false:=by simpa using Z
         by_cases z:qk=2
         ·subst z;have m:Hid (A=true):=by unfold Hid;rw [C.out];simp
          clear Z;go_quiet (fail)
          go_wp2_with fail
          go_meet
          exact⟨by rw [m.out],mB _⟩
         ·have T:(qk==2)=false:=by simpa using z
          have m:Hid (A=false):=by unfold Hid;rw [C.out];simp [b1,T]
          clear Z z;go_quiet (fail)
          go_wp2_with fail
          go_meet
          exact⟨by rw [m.out],mB _⟩
       ·have bz:(qk==ok)=false:=by simpa using V
        by_cases z:qk=2
        ·subst z;have ck:(ok==2)=false:=by simpa using fun h:ok=2=>V h.symm
         have m:Hid (A=false):=by unfold Hid;rw [C.out];simp [bz,ck]
         clear V;go_quiet (fail)
         go_wp2_with fail
         go_meet
         exact⟨by rw [m.out],mB _⟩
        ·have T:(qk==2)=false:=by simpa using z
         have m:Hid (A=false):=by unfold Hid;rw [C.out];simp [bz,T]
         clear V z;go_quiet (fail)
         go_wp2_with fail
         go_meet
         exact⟨by rw [m.out],mB _⟩
      case rest=>
      obtain⟨rfl,av⟩:=hcut;obtain⟨O,aS⟩:∃ O,O=wc:=⟨_,rfl⟩;rw [<-aS]at av ⊢;clear aS m1 m2 m3 n0 n1 n2 C;have bu:Hid (y.grownBy O none):=il bw.out av.out;have aU:Hid (F.grownBy O none):=il be.out (il a9.out av.out);have huf':(u:Int)+1<=fuel:=by omega
      cases A with
      | true=>
       have ax:Hid (shr p o (fuel.toNat - (u+1)) (jb l i) 0 (u+1)=shr p o fuel.toNat (s.take f) 0 0):=by unfold Hid;rw [Q.out];rfl
       have aN:Hid (O.ownsRow w.heap.size 3 1 (.slice t1 t2 t3) (jb l i).length (iL (jb l i))):=iQ (iD cq.out aU.out (fun _ e=>by cases e)) bH;clear Q;go_wp2_with fail
       go_roundw
       case rel=>exact⟨jb l i,0,u+1,by go_num,rfl,by have:=aJ.out;omega,Nat.zero_le _,by omega,aN,bu,ax⟩
       case measure=>simp [intOf];omega
      | false=>
       have ax:Hid (shr p o (fuel.toNat - (u+1)) l (i+1) (u+1)=shr p o fuel.toNat (s.take f) 0 0):=by unfold Hid;rw [Q.out];rfl
       have aN:Hid (O.ownsRow w.heap.size 3 1 (.slice (some ⟨r,0,none⟩) l.length k) l.length (iL l)):=iD (iD H.out bO.out (fun _ e=>by cases e)) aU.out (fun _ e=>by cases e);clear Q;go_wp2_with fail
       go_roundw
       case rel=>exact⟨l,i+1,u+1,by go_num,by go_num,bP,by omega,by omega,aN,bu,ax⟩
       case measure=>simp [intOf];omega
     ·have M:Hid (mm p s fuel.toNat=(l,u)):=by
       unfold Hid;rw [br.out,<-HS.out];cases hd:fuel.toNat - u with
       | zero=>rfl
       | succ d=>rw [shr,if_neg (by omega)]
      have bd:Hid (w.grownBy t none):=il W.out HG.out;obtain⟨l1,l2,l3,cg⟩:=iw H.out;subst cg;have bS:=iB H.out;subst bS;by_cases hA:(u:Int)<fuel
      ·have r7:(l.length:Int)<=(i:Int):=by omega
       go_wp2_with fail
       exact bodyPost_ret (v:= .tuple #[.slice l1 l.length l3,.int .i64 (u:Int),.int .i64 0]) (by simp [results,Tryz.results33,go_sem]) rfl ⟨bd.out,Or.inl ⟨D.out,bp,_,by rw [M.out],by rw [M.out];exact H.out⟩⟩
      ·have r7:fuel<=(u:Int):=by omega
       go_wp2_with fail
       exact bodyPost_ret (v:= .tuple #[.slice l1 l.length l3,.int .i64 (u:Int),.int .i64 0]) (by simp [results,Tryz.results33,go_sem]) rfl ⟨bd.out,Or.inl ⟨D.out,bp,_,by rw [M.out],by rw [M.out];exact H.out⟩⟩
  ·have cj:(500:Int)<s.length:=by omega
   have D:Hid (iC p s=2):=by unfold Hid iC;simp [HV.out,h5]
   go_wp2_with fail
   exact bodyPost_ret (v:= .tuple #[.slice none 0 0,.int .i64 0,.int .i64 2]) (by simp [results,Tryz.results33,go_sem]) rfl ⟨K.out,Or.inr (Or.inr ⟨by rw [D.out];decide,by rw [D.out]⟩)⟩
 ·have S:jh p=1:=by simp [jh,G]
  have D:Hid (iC p s=1):=by unfold Hid iC;simp [G]
  rw [S];clear S G;go_wp2_with fail
  exact bodyPost_ret (v:= .tuple #[.slice none 0 0,.int .i64 0,.int .i64 1]) (by simp [results,Tryz.results33,go_sem]) rfl ⟨K.out,Or.inr (Or.inr ⟨by rw [D.out];decide,by rw [D.out]⟩)⟩
def mx(p:List (List Ins))(s:List Int)(fuel:Int):List Int:=if iC p s=0/\0<=fuel then (mm p s fuel.toNat).1 else []
def wL(p:List (List Ins))(s:List Int)(fuel:Int):Int:=if iC p s=0/\0<=fuel then (((mm p s fuel.toNat).2:Nat):Int) else 0
def ws(p:List (List Ins))(s:List Int)(fuel:Int):Int:=if iC p s=0 then (if 0<=fuel then 0 else 2) else iC p s
theorem Shortened.form{p:List (List Ins)}{s:List Int}{fuel:Int}{w w':World}{e:Ending}(h:Shortened p s fuel w e w'):
  w.grownBy w' none/\∃ v,e= .returned (.tuple #[v,.int .i64 (wL p s fuel),.int .i64 (ws p s fuel)])/\w'.ownsRow w.heap.size 3 1 v (mx p s fuel).length (iL (mx p s fuel)):=by
 obtain⟨b,h⟩:=h;rcases h with ⟨h0,hf,v,he,ho⟩ | ⟨h0,hf,he⟩ | ⟨h0,he⟩
 ·refine⟨b,v,?_,?_⟩
  ·unfold wL ws;rw [if_pos ⟨h0,hf⟩,if_pos h0,if_pos hf];exact he
  ·unfold mx;rw [if_pos ⟨h0,hf⟩];exact ho
 ·have a:¬(iC p s=0/\0<=fuel):=by omega
  refine⟨b,.slice none 0 0,?_,?_⟩
  ·unfold wL ws;rw [if_neg a,if_pos h0,if_neg (by omega)];exact he
  ·unfold mx;rw [if_neg a];exact⟨rfl,Or.inl ⟨rfl,rfl⟩⟩
 ·have a:¬(iC p s=0/\0<=fuel):=fun e=>h0 e.1
  refine⟨b,.slice none 0 0,?_,?_⟩
  ·unfold wL ws;rw [if_neg a,if_neg h0];exact he
  ·unfold mx;rw [if_neg a];exact⟨rfl,Or.inl ⟨rfl,rfl⟩⟩
theorem xj(p:List (List Ins))(s:List Int)(fuel:Int):(mx p s fuel).length<=500:=by
 unfold mx;by_cases h:iC p s=0/\0<=fuel
 ·rw [if_pos h];have h5:=(sH h.1).2;unfold mm;have h1:=uQ (p:=p) (V:=iI p s) fuel.toNat (s.take (kj (iI p s))) 0 0;have h2:(s.take (kj (iI p s))).length<=s.length:=by simp;omega
  omega
 ·rw [if_neg h];simp
theorem wN(W:World)(B:Nat)(w:World)(b:Nat)(who:Nat->Role)(n:Int)(f:Nat->Value)(K:Nat->List (Value × Int))(pv sv:Value)(p:List (List Ins))(s:List Int)(fuel:Int)
  (h:Hz B w b who n f K) (hW:W.grownBy w none) (l:W.heap.size<=B) (hS:ShpAt W) (M:ProgAt W pv p) (hI:IntsAt W.heap.size W sv s) (aC:ox sv) (aA:fuel<=9223372036854775807) (aq:p.length<=5864062014634) (R:∀ c∈p,c.length<=4398046510976) (a5:s.length<=17592186043904) (bt:0<=n) (hn1:n<=9000000000000) (hK:∀ c,c<5->(K c).length<=4900000000000):
  Calls Tryz.prog 8 #[pt b,pv,sv,.int .i64 fuel] w (HzF W B b (n+1) K w who):=by
 have HH:=ij h;have HW:=ij hW;have HS:=ij hS;have HP:=ij M;have HI:=ij hI;have bj:=ij aC;have a7:=ij R;have HK:=ij hK;obtain⟨u,C,rfl⟩:=M.form;obtain⟨so,sc,rfl⟩:=hI.form;have E:pt b= .pointer (some ⟨b,0,none⟩):=rfl;have Q:=ij (nh W B (w.alloc (.cells #[.slice u p.length C] 37)) b who n f K [] [] [] (.agg #[.slice u p.length C]) p (h.lx.grown (iq (ir _ _))) (iq hW) l M aq R (by simpa using aq) (by simp));clear h hW hS M hI aC R hK;rw [E]at Q ⊢;go_enter Tryz.func8,Tryz.ntmps8
 go_wp2_with fail
 refine Q.out.mono ?_;clear Q;rintro e m ⟨g,LC1,aW,f1,rfl,x,al,I,ba⟩;have a2:who w.heap.size= .other:=by
  by_cases e:who w.heap.size= .other
  ·exact e
  ·exact absurd (HH.out.1.1.dom _ e).2 (by omega)
 obtain⟨t,A⟩:=I.oth w.heap.size (by simp) a2 (fun e=>e);have am:Hid (W.grownBy m none):=I.base (iq HW.out) l (fun g e=>(HH.out.1.1.dom g e).1) (fun _ e=>e.elim);have bi:Hid (Fr w m who aW (fun g=>w.heap.size<=g)):=(Fr.grown (iq (ir _ _))).step0 I;have c1:m.cell? ⟨w.heap.size,0,none⟩=some (.slice u p.length C):=by
  simp only [World.cell?,t,heap_alloc_new];rfl
 have aN:w.heap.size<m.heap.size:=World.block_lt_of_cell? m _ c1;have aP:LC1.length=p.length:=by rw [<-al];simp
 simp only [List.nil_append]at x;have ar:=ij (lV B m b aW n f1 K [] LC1 [(g,p.length)] 0 (.slice so s.length sc) s x ((HI.out.pres (ip am.out)).mono am.out.size) (mF x.hs l HI.out) a5 (by simp));have aJ:=ij x;have bd:=ij al;have aG:=ij A;have aH:=ij aP;have aQ:=ij c1;clear x al I ba t a2 A aP c1;rw [E]at ar;go_wp2_with fail
 refine ar.out.mono ?_;clear ar;rintro e a ⟨gs,j,f2,rfl,d,L⟩;simp only [List.nil_append]at d;have an:Hid (W.grownBy a none):=L.base am.out l (fun g e=>(aJ.out.hs.1.dom g e).1) (fun _ e=>e.elim);have aY:Hid (Fr w a who j (fun g=>w.heap.size<=g)):=bi.out.step0 L;obtain⟨t,A⟩:=L.oth w.heap.size aN aG.out (fun e=>e);have bl:=ij A;have Z:Hid (a.cell? ⟨w.heap.size,0,none⟩=some (.slice u p.length C)):=by
  unfold Hid;rw [World.cell?_of_block t];exact aQ.out
 have hlt2:w.heap.size<a.heap.size:=World.block_lt_of_cell? a _ Z.out;have aR:a.heap[g]?=some (.cells (jA LC1) 66 (0,0)):=by
  have:=(d.le.lr 0 (by simp)).1;simp only [List.getElem_cons_zero,List.take_zero,List.map_nil,List.sum_nil,List.drop_zero]at this;rw [List.take_of_length_le (by rw [aH.out];omega)]at this;exact this
 have aO:ProgAt a (.agg #[.slice (some ⟨g,0,none⟩) p.length (p.length+2)]) p:=ni (LC0:=[]) (by simpa using d.le) aR bd.out _;have aw:IntsAt a.heap.size a (.slice (some ⟨gs,0,none⟩) s.length (s.length+2)) s:=md (d.le.li (gs,s,.slice so s.length sc) (by simp)).1;have a3:=ij (Bi p s _ _ fuel a (HS.out.pres (ip an.out)) aO aw (fun _ _ e=>by simp at e) aA);have D:=ij d;clear d L t A aR aO aw aJ aQ aG aN;go_wp2_with fail
 refine a3.out.mono ?_;clear a3;intro e w3 y;obtain⟨H,v,he,au⟩:=y.form;clear y;subst he;obtain⟨x1,x2,x3,rfl⟩:=iw au;have N:=ij au;have aa:=ij H;have bk:Hid (W.grownBy w3 none):=il an.out H;have Y:=ij (rq B w3 b j n f2 K _ _ _ (D.out.grown H) (by simp) (by rw [aH.out];omega) (by simp));clear au H;rw [E]at Y;generalize aE:ws p s fuel=cr at*;generalize aF:wL p s fuel=nm at*;have bq:=ij aE;have bg:=ij aF;clear aE aF;go_wp2_with fail
 refine Y.out.mono ?_;clear Y;rintro e o ⟨rfl,f4,aV,r⟩;have F:Hid (W.grownBy o none):=r.base bk.out l (fun g e=>(D.out.hs.1.dom g e).1) (fun _ e=>e.elim);have bu:Hid (Fr w o who j (fun g=>w.heap.size<=g)):=(aY.out.stepG aa.out).step0 r;have G:∀ q,(Value.slice x1 x2 x3).ownBlock=some q->a.heap.size<=q/\q<w3.heap.size/\j q= .other:=fun q e=>by
  have h1:=iA N.out q e;refine⟨h1,iZ N.out q e,?_⟩;by_cases ho:j q= .other
  ·exact ho
  ·exact absurd (D.out.hs.1.dom q ho).2 (by omega)
 have ai:=ij G;have aD:Hid (o.ownsRow a.heap.size 3 1 (.slice x1 x2 x3) (mx p s fuel).length (iL (mx p s fuel))):=iM N.out (fun q e=>(r.oth q (G q e).2.1 (G q e).2.2 (fun e=>e)).1);have c4:o.cell? ⟨w.heap.size,0,none⟩=some (.slice u p.length C):=by
  rw [World.cell?_of_block (r.oth w.heap.size (by have:=aa.out.size;omega) bl.out (fun e=>e)).1];exact ip aa.out _ _ Z.out
 have V:=ij aV;have az:=ij (vo p s _ _ fuel o (HP.out.pres (ip F.out)) ((HI.out.pres (ip F.out)).mono F.out.size) bj.out aA aq a7.out);have bh:Hid (B<=a.heap.size):=by
  have:=D.out.low;unfold Hid;omega
 clear aV r G N D Z;go_wp2_with fail
 refine az.out.mono ?_;clear az;intro e S y;obtain⟨af,v',he,ag⟩:=y.form;clear y;subst he;rw [bq.out,bg.out];obtain⟨y1,y2,y3,rfl⟩:=iw ag;have bb:=ij af;have X:Hid (S.ownsRow a.heap.size 3 1 (.slice x1 x2 x3) (mx p s fuel).length (iL (mx p s fuel))):=iD aD.out af (fun _ e=>by cases e);have ak:=ij (sB (mx p s fuel) (mx p s fuel) _ _ S (jy X.out) (jy ag) (by have:=xj p s fuel;omega));rw [show (mx p s fuel==mx p s fuel)=true by simp]at ak;clear af ag aD c4;go_wp2_with fail
 refine ak.out.mono ?_;clear ak;rintro e w6 ⟨rfl,aL⟩;have aB:Hid (S.grownBy w6 none):=iK aL;have T:Hid (o.grownBy w6 none):=il bb.out aB.out;have aS:Hid (w6.ownsRow B 3 1 (.slice x1 x2 x3) (mx p s fuel).length (iL (mx p s fuel))):=iQ (iD X.out aB.out (fun _ e=>by cases e)) bh.out;have aj:=ij (od B w6 b j n f4 K (.slice x1 x2 x3) (mx p s fuel).length _ (V.out.1.grown T.out) aS.out (fun q e=>(ai.out q e).2.2) bt (by omega) (by have:=HK.out 0 (by omega);omega) (by have:=xj p s fuel;omega));clear aL X aS;rw [E]at aj;go_wp2_with fail
 refine aj.out.mono ?_;clear aj;rintro e z ⟨⟨rv,rfl⟩,J,f7,O,U,i⟩;have bf:Hid (W.grownBy w6 none):=il F.out T.out;have bv:Hid (W.grownBy z none):=i.fr.base bf.out l (fun g e=>(V.out.1.1.dom g e).1) (fun q e=>by have:=(ai.out q e).1;have:=an.out.size;omega);have br:Hid (Fr w z who J (fun g=>w.heap.size<=g)):=(bu.out.stepG T.out).trans (i.fr.mono fun q e=>by have:=(ai.out q e).1;have:=aY.out.size;omega);have aZ:Hid (Hz B z b J (n+1) f7 O):=⟨U,fun k hk=>by rw [i.lent k hk];exact V.out.2 k hk⟩;have a0:Hid (∀ c,c<5->(O c).length<=(K c).length+4):=fun c hc=>by
  by_cases e:c=0
  ·subst e;have:=i.len;omega
  ·rw [i.oth c e];omega
 have ad:=ij (qf B z b J (n+1) f7 O U (fun c hc=>by have:=a0.out c hc;have:=HK.out c hc;omega));clear U i;rw [E]at ad;go_wp2_with fail
 refine ad.out.mono ?_;clear ad;rintro e w8 ⟨rfl,aM⟩;have P:Hid (z.grownBy w8 none):=iK aM;clear aM;go_wp2_with (go_at_call 23;refine(qP _ _).mono ?_;rintro e w9 ⟨rfl,be⟩;have a6:=be.symm;subst a6)
 go_ret;exact⟨by simp,J,f7,O,⟨aZ.out.1.grown P.out,aZ.out.2⟩,il bv.out P.out,a0.out,br.out.stepG P.out⟩
theorem Cv:((Tryz.prog.info? 65).map fun i=>(i.zero,i.size,i.bytes))=some (some (.agg #[.int .i64 0,.int .i64 0,.int .i64 0,.int .i64 0]),4,32):=by kernel_rfl
theorem BU:((Tryz.prog.info? 66).map fun i=>(i.zero,i.size,i.bytes))=some (some (.slice none 0 0),1,24):=by kernel_rfl
theorem D5(m:Int)(xs:List Value)(k len:Nat)(hx:xs.length=len*4)(hk:k<len):((((((List.replicate k (elC m 3)).flatten++xs.drop (k*4)).set (k*4) (.int .i64 m)).set (k*4+1) (.int .i64 0)).set (k*4+2) (.int .i64 0)).set (k*4+3) (.int .i64 0))=(List.replicate (k+1) (elC m 3)).flatten++xs.drop ((k+1)*4):=by
 obtain⟨e,h⟩:∃ e,e=(List.replicate k (elC m 3)).flatten:=⟨_,rfl⟩;have j:e.length=k*4:=by rw [h];exact mr _ _
 rw [<-kY,<-h];have f:4<=(xs.drop (k*4)).length:=by rw [List.length_drop];omega
 have i:xs.drop ((k+1)*4)=(xs.drop (k*4)).drop 4:=by rw [List.drop_drop];congr 1<;>omega
 rw [i];generalize xs.drop (k*4)=zs at f;obtain⟨a,z1,b,c,d,rfl⟩:∃ a z1 b c d,zs=a::z1::b::c::d:=by
  match zs,f with
  | a::z1::b::c::d,_=>exact⟨a,z1,b,c,d,rfl⟩
 rw [<-j];simp [elC]
theorem Ew{B:Nat}{w:World}{b P t tg tl tc:Nat}(h3:w.cell? ⟨P,0,none⟩=some (.slice (some ⟨tg,0,none⟩) tl tc))(ht:t<tl)(htl:tl<=1000){who:Nat->Role}{n:Int}{f:Nat->Value}{K:Nat->List (Value × Int)}{x1:Option Addr}{x3 len:Nat}{xs:List Value}(d9:w.cell? ⟨tg,t,none⟩=some (.slice x1 len x3))(s:HsK B w b who n f K)(Y:w.ownsRow B 65 4 (.slice x1 len x3) len xs)(D:∀ g,(Value.slice x1 len x3).ownBlock=some g->who g= .other)
  (cZ:0<=n) (hn1:n<=10000000000000) (hK:(K 3).length<=5000000000000) (ha:len<=900)
  {Q':Exit->Act->World->Prop} {c1 c2 c5 c6 H c8 c9 be aD bu a4 bc bv ap aE dj dS c4 dC eo el b0 d7 cU cJ eb bI cy dl du dG dq cm cw bX dI cT dU cS ce bL dc cX cO cG cB bQ b4 dE d2 dw cP dZ dF d5 b1 dd cD d4 ee b2 cc cY dP bb bn ay aS bj ak aU aw aK a3 bq bw aQ bA aI a6 a5 bk aR ao aq bm aG br bo aL aM bx aj aO bf aZ a1 ah bt an aF ba al bz au bC ax bi ar a8:Value}
  (cl:Hid (∀ {z5 z6 z7 z8 dX dx cE d8 cI di cR bZ ci bG cj cr cF cf cg cQ cV en d0 dB ck dy em dL df bW dr bS dW dR dz eg cC b3 bJ ds c3 cn b6 eh da dK de bO dm d3 ch cx dp:Value} (w':World),(∃ who' f' K',HsK B w' b who' (n+1) f' K'/\oz 3 w w' who who' f f' K K' (fun g=>(Value.slice x1 len x3).ownBlock=some g))->Q' .normal ⟨#[.pointer (some ⟨b,0,none⟩),c1,c2,.pointer (some ⟨P,0,none⟩),.int .i64 ((t:Int)+1),z5,z6,z7,z8,c9,be,aD,bu,a4,bc,bv,ap,aE,dX,dx,cE,d8,cI,di,cR,bZ,ci,bG,cj,cr,cF,cf,cg,cQ,cV,en,d0,dB,ck,dy,em,dL,df,bW,dr,bS,dW,dR,dz,eg,cC,b3,bJ,ds,c3,cn,b6,eh,da,dK,de,bO,dm,d3,ch,cx,dp,bb,bn,ay,aS,bj,ak,aU,aw,aK,a3,bq,bw,aQ,bA,aI,a6,a5,bk,aR,ao,aq,bm,aG,br,bo,aL,aM,bx,aj,aO,bf,aZ,a1,ah,bt,an,aF,ba,al,bz,au,bC,ax,bi,ar,a8],[]⟩ w')):
  Code.wp Tryz.prog (oM Tryz.f44 4) Q' ⟨#[.pointer (some ⟨b,0,none⟩),c1,c2,.pointer (some ⟨P,0,none⟩),.int .i64 (t:Int),c5,c6,H,c8,c9,be,aD,bu,a4,bc,bv,ap,aE,dj,dS,c4,dC,eo,el,b0,d7,cU,cJ,eb,bI,cy,dl,du,dG,dq,cm,cw,bX,dI,cT,dU,cS,ce,bL,dc,cX,cO,cG,cB,bQ,b4,dE,d2,dw,cP,dZ,dF,d5,b1,dd,cD,d4,ee,b2,cc,cY,dP,bb,bn,ay,aS,bj,ak,aU,aw,aK,a3,bq,bw,aQ,bA,aI,a6,a5,bk,aR,ao,aq,bm,aG,br,bo,aL,aM,bx,aj,aO,bf,aZ,a1,ah,bt,an,aF,ba,al,bz,au,bC,ax,bi,ar,a8],[]⟩ w:=by
 conv=>arg 2;whnf
 obtain⟨i0,d6,cH,dD,dM⟩:=info_parts Cv;obtain⟨i1,dO,cz,cq,dN⟩:=info_parts BU;obtain⟨i2,cM,cb,bT,cA⟩:=info_parts ko;have am:=Y.1;have q3:(t:Int)<tl:=by omega
 have q4:(0:Int)<=(t:Int):=by omega
 have q5:(tl:Int)<=1000:=by omega
 go_upto_region 5 with fail
 clear h3 d9 q3 q4 q5;have HM:=ij (sT s.1 cZ (by omega));have HO:=ij D;have H0:Hid (WrG B 3 w (w.setCell ⟨b,5,none⟩ (.int .i64 (n+1))) b who (n+1) f (lw f 5 (.int .i64 (n+1))) K (.slice x1 len x3) len xs (-77000000 - (n+1)) 0):=by
  refine⟨⟨s.1.setCnt _,s.2⟩,?_,?_,fun o D=>iW _ _ (by omega)⟩
  ·have bH:(Value.slice x1 len x3).ownBlock≠some b:=fun e=>by have:=D b e;rw [s.1.wb]at this;cases this
   have h5:=ownsRow_setCell_other (a:=⟨b,5,none⟩) Y bH (.int .i64 (n+1));have e5:(List.replicate 0 (elC (-77000000 - (n+1)) 3)).flatten++xs.drop (0*(elC (-77000000 - (n+1)) 3).length)=xs:=by simp
   rw [e5];exact h5
  ·exact Fr.set (Or.inl (by rw [s.1.wb];simp))
 have bD:pt b= .pointer (some ⟨b,0,none⟩):=rfl;rw [bD]at*;clear s Y D bD;generalize hm: -77000000 - (n+1)=m at*;have HMM:=ij hm;clear hm;go_wp2_with (go_at_call 55;refine HM.out.mono ?_;rintro e w1 ⟨rfl,rfl⟩)
 go_loopw [7] (fun i w'=>∃ k:Nat,k<=len/\i= .int .i64 k/\Hid (WrG B 3 w w' b who (n+1) f (lw f 5 (.int .i64 (n+1))) K (.slice x1 len x3) len xs m k)) (fun i _=>len - (intOf i).toNat)
 case atStart=>exact⟨0,Nat.zero_le _,rfl,H0⟩
 case round=>
  clear H0 HM;obtain⟨k,M,rfl,r⟩:=hrel;obtain⟨d,bd⟩:∃ d,d=wr:=⟨_,rfl⟩;rw [<-bd]at r ⊢;clear bd;by_cases dJ:k<len
  ·obtain⟨g,cp,L,_,_⟩:=r.out.row.form (by omega);have l:d.ownsRow B 65 4 (.slice x1 len x3) len ((List.replicate k (elC m 3)).flatten++xs.drop (k*4)):=r.out.row;rw [L]at l;simp only [Value.slice.injEq,true_and]at L;obtain⟨rfl,rfl⟩:=L;have y:=HO.out g rfl;obtain⟨u0,y0⟩:∃ u,d.cell? ⟨g,k*4,none⟩=some u:=lO l (by omega);have z0:d.frozen? ⟨g,k*4,none⟩=false:=lN l;obtain⟨u1,y1⟩:∃ u,d.cell? ⟨g,k*4+1,none⟩=some u:=lO l (by omega);have z1:d.frozen? ⟨g,k*4+1,none⟩=false:=lN l;obtain⟨u2,y2⟩:∃ u,d.cell? ⟨g,k*4+2,none⟩=some u:=lO l (by omega);have z2:d.frozen? ⟨g,k*4+2,none⟩=false:=lN l;obtain⟨u3,y3⟩:∃ u,d.cell? ⟨g,k*4+3,none⟩=some u:=lO l (by omega);have z3:d.frozen? ⟨g,k*4+3,none⟩=false:=lN l;have bP:Hid (WrG B 3 w ((((d.setCell ⟨g,k*4,none⟩ (.int .i64 m)).setCell ⟨g,k*4+1,none⟩ (.int .i64 0)).setCell ⟨g,k*4+2,none⟩ (.int .i64 0)).setCell ⟨g,k*4+3,none⟩ (.int .i64 0)) b who (n+1) f (lw f 5 (.int .i64 (n+1))) K (.slice (some ⟨g,0,none⟩) len x3) len xs m (k+1)):=by
    have hs:=r.out;refine⟨((((hs.hs.setOther y).setOther y).setOther y).setOther y),?_,?_,hs.lent⟩
    ·have h9:=(js (js (js (js l (k*4) (.int .i64 m)) (k*4+1) (.int .i64 0)) (k*4+2) (.int .i64 0)) (k*4+3) (.int .i64 0));have V:=D5 m xs k len am dJ;rw [V]at h9;exact h9
    ·exact((((hs.fr).trans (Fr.set (Or.inr rfl))).trans (Fr.set (Or.inr rfl))).trans (Fr.set (Or.inr rfl))).trans (Fr.set (Or.inr rfl))
   have q0:(0:Int)<=(k:Int):=by omega
   have q1:(k:Int)<len:=by omega
   clear l y;go_wp2_with fail
   go_roundw
   case rel=>exact⟨k+1,by omega,by go_num,bP⟩
   case measure=>simp [intOf];omega
  ·have ek:k=len:=by omega
   have q1:(len:Int)<=(k:Int):=by omega
   have HS:Hid (∃ U,KpG B 3 w d b who U (n+1) m f (lw f 5 (.int .i64 (n+1))) K K (.slice x1 len x3) len 0 (fun g=>(Value.slice x1 len x3).ownBlock=some g)):=by
    have hi:=r.out;rw [ek]at hi;exact hi.kp (by omega) am (by omega) HO.out
   clear r ek;go_wp2_with fail
   go_loopw [5,8] (fun lv' i w'=>∃ (k:Nat) (who':Nat->Role) (f':Nat->Value) (K':Nat->List (Value × Int)),k<=4/\i= .int .i64 k/\Hid (KpG B 3 w w' b who who' (n+1) m f f' K K' lv' (len+k) k (fun g=>(Value.slice x1 len x3).ownBlock=some g))) (fun _ i _=>4 - (intOf i).toNat)
   case atStart=>
    obtain⟨U,h1⟩:=HS.out;exact⟨0,U,_,K,by omega,rfl,ij h1⟩
   case round=>
    clear HS;obtain⟨j,who',f',K',hj,rfl,h⟩:=hrel;obtain⟨c,bg⟩:∃ c,c=wr:=⟨_,rfl⟩;rw [<-bg]at h ⊢;clear bg;have A:c.ownsRow B 66 1 (f' 12) (K' 3).length ((K' 3).map (·.1)):=h.out.hs.lst 3 (by omega);have rM:c.ownsRow B 3 1 (f' 13) (K' 3).length (iL ((K' 3).map (·.2))):=by have:=h.out.hs.mrk 3 (by omega);simpa [jo]using this
    have E:c.ownsRow B 65 4 u5 (len+j) (List.replicate (len+j) (elC m 3)).flatten:=h.out.cu.row;have dg:Hid ((K' 3).length=(K 3).length+j):=h.out.len;have c6:c.cell? ⟨b,12,none⟩=some (f' 12):=h.out.hs.blk.cell (by omega);have hbase:B<=c.heap.size:=by have:=h.out.hs.blk.lt;have:=(h.out.hs.dom b (by rw [h.out.hs.wb];simp)).1;omega
    obtain⟨v,l2,x,rfl⟩:=iw E;have b7:=iB E;subst b7;obtain⟨S,o2,o3,W⟩:=iw A;rw [W]at A c6;have ec:=iB A;subst ec;have bE:(K' 3).length<=5000000000003\/¬j<4:=by have:=dg.out;omega
    have bK:=ij E;have aA:=ij A;have I:=ij W;have d1:=ij rM;clear E A rM W;by_cases hj4:j<4
    ·have bE:(K' 3).length<=5000000000003:=by omega
     have z2:(j:Int)<4:=by omega
     have aV:(K' 3).length+1<=maxLen:=by unfold maxLen;omega
     have db:len+j+1<=maxLen:=by unfold maxLen;omega
     have ab:Hid (∀ {o:Obj} {g6 c6:Nat} {w6:World},w6.ownsRow B 66 1 (.slice (some ⟨g6,0,none⟩) ((K' 3).length+1) c6) ((K' 3).length+1) ((K' 3).map (·.1)++[.slice v (len+j) x])->
       (((Value.slice S (K' 3).length o3).ownBlock=some g6/\(c.alloc o).grownBy w6 (some g6))\/(g6=c.heap.size+1/\(c.alloc o).grownBy w6 none))->
       HB w6 b f'/\∃ who'' f'',KpA B 3 w (w6.setCell ⟨b,12,none⟩ (.slice (some ⟨g6,0,none⟩) ((K' 3).length+1) c6)) b who who'' (n+1) m f f'' K K' (.slice v (len+j) x) (len+j) j (fun g=>(Value.slice x1 len x3).ownBlock=some g)/\f'' 13=f' 13):=by
      intro o g6 c6 w6 bM key;rw [<-I.out]at key;exact h.out.push (by omega) bM key
     generalize aN:(K' 3).length=N at*;generalize cK:(K' 3).map (·.1)=L1 at*;have af:=ij aN;clear aN cK;go_upto_region 14 with (at_builtin;go_must (refine iG rfl _ _ _ rfl B 66 i1 _ 1 24 Tryz.underlying35 dO cz cq dN rfl (by omega) (.slice S N o3) N L1 rfl (iJ aA.out) ⟨c.heap.size,0,none⟩ 1 1 [.slice v (len+j) x] rfl rfl (World.news_of_block (cs:= #[.slice v (len+j) x]) (t:=66) (fr:=(0,0)) (heap_alloc_new c _)) (by simp [Value.oneCell']) (by omega) aV (by omega) (by simp;omega) (c.heap.size+1) (by simp) ?_);intro g8 cd w8 Z ad bN;have ae:=(ab.out Z ad).1;have J:w8.cell? ⟨b,12,none⟩=some (.slice S N o3):=(by rw [ae.cell (by omega),I.out]);have p7:=ae.frozen 12)
     obtain⟨_,who9,f9,p,V⟩:=ab.out Z ad;generalize w8.setCell ⟨b,12,none⟩ (.slice (some ⟨g8,0,none⟩) (N+1) cd)=w9 at*;have T:=ij p;have z:w9.ownsRow B 3 1 (f9 13) N (iL ((K' 3).map (·.2))):=by
      have:=p.hs.mrk 3 (by omega);rw [<-af.out];simpa [jo]using this
     have H:w9.cell? ⟨b,13,none⟩=some (f9 13):=p.hs.blk.cell (by omega);obtain⟨G,m2,F,Q⟩:=iw z;rw [Q]at z H;have ea:=(iB z).symm;subst ea;have hbase9:B<=w9.heap.size:=by have:=p.hs.blk.lt;have:=(p.hs.dom b (by rw [p.hs.wb];simp)).1;omega
     have a9:=ij z;have C:=ij Q;clear Z ad ae J p7 bN c6 p V ab z Q I aA d1;go_upto_region 15 with (at_builtin;go_must (refine iG rfl _ _ _ rfl B 3 i2 _ 1 8 Tryz.underlying39 cM cb bT cA rfl (by omega) (.slice G N F) N (iL ((K' 3).map (·.2))) rfl (iJ a9.out) ⟨w9.heap.size,0,none⟩ 1 1 [.int .i64 m] rfl rfl (World.news_of_block (cs:= #[.int .i64 m]) (t:=3) (fr:=(0,0)) (heap_alloc_new w9 _)) (by simp [Value.oneCell']) (by omega) aV (by omega) (by simp;omega) (w9.heap.size+1) (by simp) ?_);intro ed cL bh X R dA;have O:=(T.out.tell (by omega) (M1:=G) (M3:=F) C.out af.out X R).1;have J:bh.cell? ⟨b,13,none⟩=some (.slice G N F):=(by rw [O.cell (by omega),C.out]);have p7:=O.frozen 13)
     obtain⟨_,who11,f11,q⟩:=T.out.tell (by omega) (M1:=G) (M3:=F) C.out af.out X R;generalize bh.setCell ⟨b,13,none⟩ (.slice (some ⟨ed,0,none⟩) (N+1) cL)=w11 at*;have dh:=ij q;have co:Hid (w11.ownsRow B 65 4 (.slice v (len+j) x) (len+j) (List.replicate (len+j) (elC m 3)).flatten):=q.cu.row;have hbase11:B<=w11.heap.size:=by have:=q.hs.blk.lt;have:=(q.hs.dom b (by rw [q.hs.wb];simp)).1;omega
     clear X R O J p7 dA H q T a9 C bK;go_wp2_with (at_builtin;go_must (refine iG rfl _ _ _ rfl B 65 i0 _ 4 32 Tryz.underlying66 d6 cH dD dM rfl (by omega) (.slice v (len+j) x) (len+j) (List.replicate (len+j) (elC m 3)).flatten rfl (iJ co.out) ⟨w11.heap.size,0,none⟩ 1 1 [.int .i64 m,.int .i64 0,.int .i64 0,.int .i64 0] rfl rfl (World.news_of_block (cs:= #[.int .i64 m,.int .i64 0,.int .i64 0,.int .i64 0]) (t:=65) (fr:=(0,0)) (heap_alloc_new w11 _)) (by simp [Value.oneCell']) (by omega) db (by omega) (by simp;omega) (w11.heap.size+1) (by simp) ?_);intro g12 cap12 w12 aP bp dn;have ef:=ij (dh.out.grow (by omega) (by omega) aP bp);clear aP bp dn)
     go_roundw
     case rel=>
      obtain⟨dV,bY⟩:=ef.out;exact⟨j+1,dV,_,_,by omega,by go_num,ij bY⟩
     case measure=>simp [intOf];omega
    ·have z2:(4:Int)<=(j:Int):=by omega
     have HE:Hid (∃ who' f' K',HsK B c b who' (n+1) f' K'/\oz 3 w c who who' f f' K K' (fun g=>(Value.slice x1 len x3).ownBlock=some g)):=by
      have ej:j=4:=by omega
      have M:=h.out;rw [ej]at M;exact M.done
     go_wp2_with fail
     exact cl.out c HE.out
end
section
open Go.RowKit
structure Cu4(B:Nat)(w:World)(who:Nat->Role)(m:Int)(c:Nat)(lv:Value)(len:Nat)(R:List Value)(K:Nat->List (Value × Int)):Prop where
 row:w.ownsRow B 66 1 lv len R
 el:∀ k,k<len->∃ g' cap',R[k]?=some (.slice (some ⟨g',0,none⟩) 1 cap')/\w.heap[g']?=some (.cells (elC m 3).toArray 65 (0,0))/\who g'= .kept
 wc:∀ g,lv.ownBlock=some g->who g= .cur
 ent:∀ x∈K c,∀ g,x.1.ownBlock=some g->who g= .cur->x.2=m/\∃ l c',x.1= .slice (some ⟨g,0,none⟩) l c'/\(lv.ownBlock=some g->l<=len)
 oth:∀ c',c'<5->c'≠c->∀ x∈K c',∀ g,x.1.ownBlock=some g->who g= .kept
 ln:len<=1000
section
variable {B : Nat} {w w6 : World} {b : Nat} {who : Nat -> Role} {n m : Int} {f : Nat -> Value} {K : Nat -> List (Value × Int)} {M : Nat -> List Int} {c : Nat} {lv : Value} {len : Nat} {R : List Value}
theorem Cu4.keptNow4(a:Cu4 B w who m c lv len R K)(hc:c=4):KeptC c w who (lv,m):=by
 subst hc;rcases a.row.2 with ⟨e,_⟩ | ⟨g,cap,cur,hv,hbb,hh,hrest⟩
 ·exact Or.inl e
 ·refine Or.inr ⟨g,len,cap,hv,a.ln,?_⟩;have b:=a.row;rw [hv]at b;refine mR.2 fun k hk=>?_
  obtain⟨d,f,i,h,j⟩:=a.el k hk;exact⟨d,f,by rw [b.cellAt k (by omega)];exact i,h,j⟩
theorem Hs.push4(h:Hs B w b who n f K M)(i:Cu4 B w who m c lv len R K)(hc:c=4){o:Obj}{g6 c6:Nat}
  (y:w6.ownsRow B (tlC c) 1 (.slice (some ⟨g6,0,none⟩) ((K c).length+1) c6) ((K c).length+1) ((K c).map (·.1)++[lv]))
  (key:((f (6+2*c)).ownBlock=some g6/\(w.alloc o).grownBy w6 (some g6))\/(g6=w.heap.size+1/\(w.alloc o).grownBy w6 none)):
  Hs B (w6.setCell ⟨b,6+2*c,none⟩ (.slice (some ⟨g6,0,none⟩) ((K c).length+1) c6)) b (setW who g6 (.lst c)) n (lw f (6+2*c) (.slice (some ⟨g6,0,none⟩) ((K c).length+1) c6)) (oD K c (K c++[(lv,m)])) M/\
  Cu4 B (w6.setCell ⟨b,6+2*c,none⟩ (.slice (some ⟨g6,0,none⟩) ((K c).length+1) c6)) (setW who g6 (.lst c)) m c lv len R (oD K c (K c++[(lv,m)])):=by
 have S:c<5:=by omega
 obtain⟨hsz,t,hsr,h6r⟩:=kE key (fun g e=>(h.dom g e).2) (r:= .lst c) (by simp) (h.wl c S);have J:g6≠b:=(t b (by rw [h.wb];simp) (by rw [h.wb];simp)).2;have T:HB w6 b f:=h.blk.same (t b (by rw [h.wb];simp) (by rw [h.wb];simp)).1;generalize I:Value.slice (some ⟨g6,0,none⟩) ((K c).length+1) c6=V at*;have u:V.ownBlock=some g6:=by rw [<-I];rfl
 have C:∀ g,who g≠ .other->who g≠ .lst c->g≠b->(w6.setCell ⟨b,6+2*c,none⟩ V).heap[g]?=w.heap[g]?:=fun g q p h3=>by
  rw [Below.heap_setCell _ _ _ _ (by simpa using h3)];exact(t g q p).1
 have s:∀ g,who g≠ .other->who g≠ .lst c->setW who g6 (.lst c) g=who g:=fun g q p=>iN _ _ (fun e=>(t g q p).2 e.symm)
 have z:∀ g,who g= .kept\/who g= .cur->(w6.setCell ⟨b,6+2*c,none⟩ V).heap[g]?=w.heap[g]?:=fun g e=>C g (by rcases e with e | e<;>rw [e]<;>simp) (by rcases e with e | e<;>rw [e]<;>simp) (fun d=>by subst d;rw [h.wb]at e;rcases e with e | e<;>cases e)
 have v:∀ g,who g= .kept->setW who g6 (.lst c) g= .kept:=fun g e=>by rw [s g (by rw [e];simp) (by rw [e];simp)];exact e
 have D:∀ g,who g= .cur->setW who g6 (.lst c) g= .cur:=fun g e=>by rw [s g (by rw [e];simp) (by rw [e];simp)];exact e
 have Q:∀ g,who g= .kept\/who g= .cur->setW who g6 (.lst c) g= .kept\/setW who g6 (.lst c) g= .cur:=fun g e=>e.imp (v g) (D g)
 have L:∀ g,setW who g6 (.lst c) g= .cur->who g= .cur:=fun g e=>by
  by_cases d:g=g6
  ·subst d;rw [jC]at e;cases e
  ·rwa [iN _ _ d]at e
 have E:∀ c' x,c'<5->x∈K c'->KeptC c' (w6.setCell ⟨b,6+2*c,none⟩ V) (setW who g6 (.lst c)) x/\∀ g,x.1.ownBlock=some g->setW who g6 (.lst c) g= .kept\/setW who g6 (.lst c) g= .cur:=fun c' x hc' hx=>by
  obtain⟨k1,k2⟩:=h.kept c' hc' x hx;exact⟨(k1.same k2 z).who v,fun g e=>Q g (k2 g e)⟩
 have N:(w6.setCell ⟨b,6+2*c,none⟩ V).ownsRow B 66 1 lv len R:=iM i.row (fun g e=>z g (Or.inr (i.wc g e)));have H:∀ k,k<len->∃ j A,R[k]?=some (.slice (some ⟨j,0,none⟩) 1 A)/\(w6.setCell ⟨b,6+2*c,none⟩ V).heap[j]?=some (.cells (elC m 3).toArray 65 (0,0))/\setW who g6 (.lst c) j= .kept:=fun k hk=>by
  obtain⟨j,A,P,O,G⟩:=i.el k hk;exact⟨j,A,P,by rw [z j (Or.inl G)];exact O,v j G⟩
 have F:Cu4 B (w6.setCell ⟨b,6+2*c,none⟩ V) (setW who g6 (.lst c)) m c lv len R (oD K c (K c++[(lv,m)])):=by
  refine⟨N,H,fun g e=>D g (i.wc g e),fun x hx g e d=>?_,fun c' hc' hne x hx g e=>?_,i.ln⟩
  ·rw [nC]at hx;rcases List.mem_append.1 hx with hx | hx
   ·exact i.ent x hx g e (L g d)
   ·simp at hx;subst hx;refine⟨rfl,?_⟩;rcases i.row.2 with ⟨e3,_⟩ | ⟨j,cap,cur,hv,_⟩
    ·simp only at e;rw [e3]at e;cases e
    ·simp only at e;rw [hv]at e;simp only [Value.ownBlock,Option.some.injEq]at e;exact⟨len,cap,by rw [hv,e],fun _=>Nat.le_refl _⟩
  ·rw [nH _ _ hne]at hx;exact v g (i.oth c' hc' hne x hx g e)
 refine⟨⟨T.set (by omega) V,by rw [iW _ _ (by omega)];exact h.cnt,fun c' hc'=>?_,fun c' hc'=>?_,fun c' hc' g e=>?_,fun c' hc' g e=>?_,?_,fun c' hc' x hx=>?_,fun g e=>?_⟩,F⟩
 ·by_cases e:c'=c
  ·subst e;rw [lJ,nC];have:=ownsRow_setCell_other (a:=⟨b,6+2*c',none⟩) y (show V.ownBlock≠some b by rw [u];simpa using J) V;simpa using this
  ·rw [iW _ _ (by omega),nH _ _ e];exact iM (h.lst c' hc') (fun g d=>C g (by rw [h.wl c' hc' g d];simp) (by rw [h.wl c' hc' g d];simpa using e) (fun e3=>by subst e3;have:=h.wl c' hc' g d;rw [h.wb]at this;cases this))
 ·rw [iW _ _ (by omega)];exact iM (h.mrk c' hc') (fun g d=>C g (by rw [h.wm c' hc' g d];simp) (by rw [h.wm c' hc' g d];simp) (fun e3=>by subst e3;have:=h.wm c' hc' g d;rw [h.wb]at this;cases this))
 ·by_cases d:c'=c
  ·subst d;rw [lJ,u]at e;simp only [Option.some.injEq]at e;subst e;exact jC _ _ _
  ·rw [iW _ _ (by omega)]at e;have:=h.wl c' hc' g e;rw [s g (by rw [this];simp) (by rw [this];simpa using d),this]
 ·rw [iW _ _ (by omega)]at e;have:=h.wm c' hc' g e;rw [s g (by rw [this];simp) (by rw [this];simp),this]
 ·rw [s b (by rw [h.wb];simp) (by rw [h.wb];simp),h.wb]
 ·by_cases d:c'=c
  ·subst d;rw [nC]at hx;rcases List.mem_append.1 hx with hx | hx
   ·exact E c' x hc' hx
   ·simp at hx;subst hx;exact⟨F.keptNow4 hc,fun g e=>Or.inr (D g (i.wc g e))⟩
  ·rw [nH _ _ d]at hx;exact E c' x hc' hx
 ·by_cases d:g=g6
  ·subst d;have q:=iA y g u;have p:=iZ y g u;exact⟨q,by simpa using p⟩
  ·rw [iN _ _ d]at e;have:=h.dom g e;exact⟨this.1,by simp;omega⟩
theorem Hs.tell4(h:Hs B w b who n f K M)(i:Cu4 B w who m c lv len R K)(hc:c=4){o:Obj}{g6 c6:Nat}
  (y:w6.ownsRow B 3 1 (.slice (some ⟨g6,0,none⟩) ((M c).length+1) c6) ((M c).length+1) (iL (M c)++[.int .i64 m]))
  (key:((f (7+2*c)).ownBlock=some g6/\(w.alloc o).grownBy w6 (some g6))\/(g6=w.heap.size+1/\(w.alloc o).grownBy w6 none)):
  Hs B (w6.setCell ⟨b,7+2*c,none⟩ (.slice (some ⟨g6,0,none⟩) ((M c).length+1) c6)) b (setW who g6 (.mrk c)) n (lw f (7+2*c) (.slice (some ⟨g6,0,none⟩) ((M c).length+1) c6)) K (vY M c (M c++[m]))/\
  Cu4 B (w6.setCell ⟨b,7+2*c,none⟩ (.slice (some ⟨g6,0,none⟩) ((M c).length+1) c6)) (setW who g6 (.mrk c)) m c lv len R K:=by
 have G:c<5:=by omega
 obtain⟨hsz,s,hsr,h6r⟩:=kE key (fun g e=>(h.dom g e).2) (r:= .mrk c) (by simp) (h.wm c G);have H:g6≠b:=(s b (by rw [h.wb];simp) (by rw [h.wb];simp)).2;have L:HB w6 b f:=h.blk.same (s b (by rw [h.wb];simp) (by rw [h.wb];simp)).1;generalize D:Value.slice (some ⟨g6,0,none⟩) ((M c).length+1) c6=V at*;have t:V.ownBlock=some g6:=by rw [<-D];rfl
 have v:∀ g,who g≠ .other->who g≠ .mrk c->g≠b->(w6.setCell ⟨b,7+2*c,none⟩ V).heap[g]?=w.heap[g]?:=fun g j l h3=>by
  rw [Below.heap_setCell _ _ _ _ (by simpa using h3)];exact(s g j l).1
 have p:∀ g,who g≠ .other->who g≠ .mrk c->setW who g6 (.mrk c) g=who g:=fun g j l=>iN _ _ (fun e=>(s g j l).2 e.symm)
 have z:∀ g,who g= .kept\/who g= .cur->(w6.setCell ⟨b,7+2*c,none⟩ V).heap[g]?=w.heap[g]?:=fun g e=>v g (by rcases e with e | e<;>rw [e]<;>simp) (by rcases e with e | e<;>rw [e]<;>simp) (fun d=>by subst d;rw [h.wb]at e;rcases e with e | e<;>cases e)
 have q:∀ g,who g= .kept->setW who g6 (.mrk c) g= .kept:=fun g e=>by rw [p g (by rw [e];simp) (by rw [e];simp)];exact e
 have A:∀ g,who g= .cur->setW who g6 (.mrk c) g= .cur:=fun g e=>by rw [p g (by rw [e];simp) (by rw [e];simp)];exact e
 have I:∀ g,setW who g6 (.mrk c) g= .cur->who g= .cur:=fun g e=>by
  by_cases d:g=g6
  ·subst d;rw [jC]at e;cases e
  ·rwa [iN _ _ d]at e
 refine⟨⟨L.set (by omega) V,by rw [iW _ _ (by omega)];exact h.cnt,fun c' hc'=>?_,fun c' hc'=>?_,fun c' hc' g e=>?_,fun c' hc' g e=>?_,?_,fun c' hc' x hx=>?_,fun g e=>?_⟩,
  ⟨iM i.row (fun g e=>z g (Or.inr (i.wc g e))),fun k hk=>(by obtain⟨u,J,F,E,C⟩:=i.el k hk;exact⟨u,J,F,by rw [z u (Or.inl C)];exact E,q u C⟩),fun g e=>A g (i.wc g e),fun x hx g e d=>i.ent x hx g e (I g d),fun c' hc' hne x hx g e=>q g (i.oth c' hc' hne x hx g e),i.ln⟩⟩
 ·rw [iW _ _ (by omega)];exact iM (h.lst c' hc') (fun g d=>v g (by rw [h.wl c' hc' g d];simp) (by rw [h.wl c' hc' g d];simp) (fun e3=>by subst e3;have:=h.wl c' hc' g d;rw [h.wb]at this;cases this))
 ·by_cases e:c'=c
  ·subst e;rw [lJ,zm];have:=ownsRow_setCell_other (a:=⟨b,7+2*c',none⟩) y (show V.ownBlock≠some b by rw [t];simpa using H) V;simpa [iL]using this
  ·rw [iW _ _ (by omega),zl _ _ e];exact iM (h.mrk c' hc') (fun g d=>v g (by rw [h.wm c' hc' g d];simp) (by rw [h.wm c' hc' g d];simpa using e) (fun e3=>by subst e3;have:=h.wm c' hc' g d;rw [h.wb]at this;cases this))
 ·rw [iW _ _ (by omega)]at e;have:=h.wl c' hc' g e;rw [p g (by rw [this];simp) (by rw [this];simp),this]
 ·by_cases d:c'=c
  ·subst d;rw [lJ,t]at e;simp only [Option.some.injEq]at e;subst e;exact jC _ _ _
  ·rw [iW _ _ (by omega)]at e;have:=h.wm c' hc' g e;rw [p g (by rw [this];simp) (by rw [this];simpa using d),this]
 ·rw [p b (by rw [h.wb];simp) (by rw [h.wb];simp),h.wb]
 ·obtain⟨k1,k2⟩:=h.kept c' hc' x hx;exact⟨(k1.same k2 z).who q,fun g e=>(k2 g e).imp (q g) (A g)⟩
 ·by_cases d:g=g6
  ·subst d;have j:=iA y g t;have l:=iZ y g t;exact⟨j,by simpa using l⟩
  ·rw [iN _ _ d]at e;have:=h.dom g e;exact⟨this.1,by simp;omega⟩
theorem Hs.grow4(h:Hs B w b who n f K M)(i:Cu4 B w who m c lv len R K)(hc:c=4)(S:len+1<=1000){o:Obj}{g6 c6:Nat}{v:Value}(U:∃ g' cap',v= .slice (some ⟨g',0,none⟩) 1 cap'/\w.heap[g']?=some (.cells (elC m 3).toArray 65 (0,0))/\who g'= .kept)
  (y:w6.ownsRow B 66 1 (.slice (some ⟨g6,0,none⟩) (len+1) c6) (len+1) (R++[v]))
  (key:(lv.ownBlock=some g6/\(w.alloc o).grownBy w6 (some g6))\/(g6=w.heap.size+1/\(w.alloc o).grownBy w6 none)):
  Hs B w6 b (setW who g6 .cur) n f K M/\Cu4 B w6 (setW who g6 .cur) m c (.slice (some ⟨g6,0,none⟩) (len+1) c6) (len+1) (R++[v]) K:=by
 obtain⟨hsz,W,G,I⟩:=kE key (fun g e=>(h.dom g e).2) (r:= .cur) (by simp) i.wc;have p:∀ g,who g≠ .other->setW who g6 .cur g=who g:=fun g h1=>by
  by_cases e:g=g6
  ·subst e;rw [jC];exact(I (h.dom g h1).2).symm
  ·exact iN _ _ e
 have P:∀ g,setW who g6 .cur g= .cur->g=g6\/who g= .cur:=fun g e=>by
  by_cases a:g=g6
  ·exact Or.inl a
  ·rw [iN _ _ a]at e;exact Or.inr e
 have q:∀ g,who g≠ .other->who g≠ .cur->w6.heap[g]?=w.heap[g]?:=fun g h1 h2=>(W g h1 h2).1
 have hRl:R.length=len:=by have:=i.row.1;omega
 have Q:∀ g,lv.ownBlock=some g->∀ k,k<len->w6.cell? ⟨g,k,none⟩=w.cell? ⟨g,k,none⟩:=fun g e k C=>by
  by_cases a:g6=g
  ·subst a;rcases i.row.2 with ⟨j,_⟩ | ⟨g',cap,cur,hv,_⟩
   ·rw [j]at e;cases e
   ·have L:=i.row;rw [hv]at e;simp only [Value.ownBlock,Option.some.injEq]at e;subst e;rw [hv]at L;rw [y.cellAt k (by omega),L.cellAt k (by omega),List.getElem?_append_left (by omega)]
  ·exact World.cell?_of_block (G g (i.wc g e) a)
 have Y:∀ g,who g= .cur->lv.ownBlock≠some g->w6.heap[g]?=w.heap[g]?:=fun g e a=>by
  by_cases j:g6=g
  ·subst j;rcases key with ⟨k1,_⟩ | ⟨k1,_⟩
   ·exact absurd k1 a
   ·have:=(h.dom g6 (by rw [e];simp)).2;omega
  ·exact G g e j
 have V:∀ c' x,c'<5->x∈K c'->KeptC c' w6 (setW who g6 .cur) x/\∀ g,x.1.ownBlock=some g->setW who g6 .cur g= .kept\/setW who g6 .cur g= .cur:=fun c' x hc' hx=>by
  obtain⟨k1,k2⟩:=h.kept c' hc' x hx;refine⟨?_,fun g e=>?_⟩
  ·refine KeptC.who (who:=who) ?_ (fun g e=>by rw [p g (by rw [e];simp)];exact e);rcases k1 with k1 | ⟨g,l,cap,e,hl,hin⟩
   ·exact Or.inl k1
   ·refine Or.inr ⟨g,l,cap,e,hl,?_⟩;have D:x.1.ownBlock=some g:=by rw [e];rfl
    have u:∀ g,who g= .kept->w6.heap[g]?=w.heap[g]?:=fun g e=>q g (by rw [e];simp) (by rw [e];simp)
    rcases k2 g D with hkp | hcr
    ·exact mS hin (u g hkp) u
    ·by_cases N:c'=c
     ·subst N;by_cases A:lv.ownBlock=some g
      ·obtain⟨F,O,J,E,z⟩:=i.ent x hx g D hcr;rw [E]at e;simp only [Value.slice.injEq,true_and]at e;have hl4:l<=len:=by have:=z A;omega
       subst hc;rw [mR]at hin ⊢;intro k C;obtain⟨g',cap',t,s,d⟩:=hin k C;exact⟨g',cap',by rw [Q g A k (by omega)];exact t,by rw [u g' d];exact s,d⟩
      ·exact mS hin (Y g hcr A) u
     ·have:=i.oth c' hc' N x hx g D;rw [hcr]at this;cases this
  ·have:=k2 g e;rw [p g (by rcases this with e | e<;>rw [e]<;>simp)];exact this
 refine⟨⟨h.blk.same (q b (by rw [h.wb];simp) (by rw [h.wb];simp)),h.cnt,fun c' hc'=>iM (h.lst c' hc') (fun g e=>q g (by rw [h.wl c' hc' g e];simp) (by rw [h.wl c' hc' g e];simp)),fun c' hc'=>iM (h.mrk c' hc') (fun g e=>q g (by rw [h.wm c' hc' g e];simp) (by rw [h.wm c' hc' g e];simp)),
  fun c' hc' g e=>(by rw [p g (by rw [h.wl c' hc' g e];simp)];exact h.wl c' hc' g e),fun c' hc' g e=>(by rw [p g (by rw [h.wm c' hc' g e];simp)];exact h.wm c' hc' g e),(by rw [p b (by rw [h.wb];simp)];exact h.wb),fun c' hc' x hx=>V c' x hc' hx,fun g e=>?_⟩,
  ⟨y,fun k C=>?_,fun g e=>(by simp only [Value.ownBlock,Option.some.injEq]at e;subst e;exact jC _ _ _),fun x hx g e a=>?_,fun c' hc' hne x hx g e=>?_,S⟩⟩
 ·by_cases a:g=g6
  ·subst a;exact⟨iA y g rfl,iZ y g rfl⟩
  ·rw [iN _ _ a]at e;have:=h.dom g e;exact⟨this.1,by omega⟩
 ·by_cases e:k<len
  ·obtain⟨g',cap',t,s,d⟩:=i.el k e;exact⟨g',cap',by rw [List.getElem?_append_left (by omega)];exact t,by rw [q g' (by rw [d];simp) (by rw [d];simp)];exact s,by rw [p g' (by rw [d];simp)];exact d⟩
  ·obtain⟨g',cap',t,s,d⟩:=U;have T:k=R.length:=by omega
   exact⟨g',cap',by rw [T,List.getElem?_append_right (by omega)];simp [t],by rw [q g' (by rw [d];simp) (by rw [d];simp)];exact s,by rw [p g' (by rw [d];simp)];exact d⟩
 ·have H:who g= .cur:=by
   rcases P g a with j | j
   ·have X:=(h.kept c (by omega) x hx).2 g e;have Z:=(h.dom g (by rcases X with e | e<;>rw [e]<;>simp)).2;subst j;exact I Z
   ·exact j
  obtain⟨F,O,J,E,z⟩:=i.ent x hx g e H;refine⟨F,O,J,E,fun e6=>?_⟩;simp only [Value.ownBlock,Option.some.injEq]at e6;subst e6;rcases key with ⟨k1,_⟩ | ⟨k1,_⟩
  ·have:=z k1;omega
  ·have:=(h.dom g6 (by rw [H];simp)).2;omega
 ·have:=i.oth c' hc' hne x hx g e;rw [p g (by rw [this];simp)];exact this
theorem Hs.begin4(h:Hs B w b who n f K M)(hc:c=4)(d:∀ c',c'<5->∀ x∈K c',∀ g,x.1.ownBlock=some g->who g= .kept)(j:w.ownsRow B 66 1 lv len R)(q:len<=1000)
  (r:∀ k,k<len->∃ g' cap',R[k]?=some (.slice (some ⟨g',0,none⟩) 1 cap')/\w.heap[g']?=some (.cells (elC m 3).toArray 65 (0,0))/\who g'= .kept)
  (l:∀ g,lv.ownBlock=some g->who g= .other):∃ who',Hs B w b who' n f K M/\Cu4 B w who' m c lv len R K/\(∀ g,lv.ownBlock≠some g->who' g=who g):=by
 rcases j.2 with ⟨e,_⟩ | ⟨g0,cap,cur,hv,hbb,hh,hrest⟩
 ·refine⟨who,h,⟨j,r,fun g a=>(by rw [e]at a;cases a),fun x hx g a e3=>?_,fun c' hc' hne x hx g a=>d c' hc' x hx g a,q⟩,fun _ _=>rfl⟩;rw [d c (by omega) x hx g a]at e3;cases e3
 ·have i:lv.ownBlock=some g0:=by rw [hv];rfl
  have p:∀ c',c'<5->∀ x∈K c',∀ g,x.1.ownBlock=some g->g≠g0:=fun c' hc' x hx g e a=>by
   have:=d c' hc' x hx g e;subst a;rw [l g i]at this;cases this
  refine⟨setW who g0 .cur,h.more (fun g e=>iN _ _ (fun a=>by subst a;exact e (l g i))) (fun g e=>?_),⟨j,fun k d=>(by obtain⟨g',cap',t,s,o⟩:=r k d;exact⟨g',cap',t,s,by rw [iN _ _ (fun a=>by rw [a,l g0 i]at o;cases o)];exact o⟩),fun g a=>(by rw [i]at a;simp only [Option.some.injEq]at a;subst a;exact jC _ _ _),fun x hx g a e3=>?_,fun c' hc' hne x hx g a=>?_,q⟩,fun g e=>iN _ _ (fun a=>e (by rw [a];exact i))⟩
  ·by_cases a:g=g0
   ·subst a;exact⟨hbb,(Array.getElem?_eq_some_iff.1 hh).1⟩
   ·rw [iN _ _ a]at e;exact h.dom g e
  ·rw [iN _ _ (p c (by omega) x hx g a),d c (by omega) x hx g a]at e3;cases e3
  ·rw [iN _ _ (p c' hc' x hx g a)];exact d c' hc' x hx g a
end
structure KpH(B:Nat)(w0 w:World)(b:Nat)(who0 who:Nat->Role)(n m:Int)(f0 f:Nat->Value)(K0 K:Nat->List (Value × Int))(lv:Value)(len:Nat)(R:List Value)(k:Nat)(ex:Nat->Prop):Prop where
 hs:Hs B w b who n f K (jo K)
 cu:Cu4 B w who m 4 lv len R K
 fr:Fr w0 w who0 who ex
 lent:∀ o,o<5->f o=f0 o
 len:(K 4).length=(K0 4).length+k
 oth:∀ c',c'≠4->K c'=K0 c'
structure KpB(B:Nat)(w0 w:World)(b:Nat)(who0 who:Nat->Role)(n m:Int)(f0 f:Nat->Value)(K0 K:Nat->List (Value × Int))(lv:Value)(len:Nat)(R:List Value)(k:Nat)(ex:Nat->Prop):Prop where
 hs:Hs B w b who n f (oD K 4 (K 4++[(lv,m)])) (jo K)
 cu:Cu4 B w who m 4 lv len R (oD K 4 (K 4++[(lv,m)]))
 fr:Fr w0 w who0 who ex
 lent:∀ o,o<5->f o=f0 o
 len:(K 4).length=(K0 4).length+k
 oth:∀ c',c'≠4->K c'=K0 c'
section
variable {B : Nat} {w0 w w6 : World} {b : Nat} {who0 who : Nat -> Role} {n m : Int} {f0 f : Nat -> Value} {K0 K : Nat -> List (Value × Int)} {lv : Value} {len k : Nat} {ex : Nat -> Prop} {R : List Value}
structure WrK(B:Nat)(w0 w:World)(b:Nat)(who0 who:Nat->Role)(n:Int)(f0 f:Nat->Value)(K:Nat->List (Value × Int))(lv:Value)(len:Nat)(R:List Value)(m:Int)(k:Nat):Prop where
 hs:HsK B w b who n f K
 row:w.ownsRow B 66 1 lv len R
 el:∀ j,j<k->∃ g' cap',R[j]?=some (.slice (some ⟨g',0,none⟩) 1 cap')/\w.heap[g']?=some (.cells (elC m 3).toArray 65 (0,0))/\who g'= .kept
 fr:Fr w0 w who0 who (fun g=>lv.ownBlock=some g)
 oth:∀ g,lv.ownBlock=some g->who g= .other
 lent:∀ o,o<5->f o=f0 o
theorem Hs.made{M:Nat->List Int}(h:Hs B w b who n f K M)(o:Obj):Hs B (w.alloc o) b (setW who w.heap.size .kept) n f K M:=by
 have c:∀ g',who g'≠ .other->setW who w.heap.size .kept g'=who g':=fun g' e=>iN _ _ (fun a=>by subst a;have:=(h.dom _ e).2;omega)
 refine(h.grown (iq (ir _ _))).more c (fun g' e=>?_);have hb:=h.dom b (by rw [h.wb];simp);by_cases a:g'=w.heap.size
 ·subst a;exact⟨by omega,by simp⟩
 ·rw [iN _ _ a]at e;have:=h.dom g' e;exact⟨this.1,by simp;omega⟩
theorem HsK.made(h:HsK B w b who n f K)(o:Obj):HsK B (w.alloc o) b (setW who w.heap.size .kept) n f K:=by
 refine⟨h.1.made o,fun c hc x hx g e=>?_⟩;have:=h.2 c hc x hx g e;rw [iN _ _ (fun e2=>by subst e2;have:=(h.1.dom _ (by rw [this];simp)).2;omega)];exact this
theorem Fr.made{ex:Nat->Prop}(h:Fr w0 w who0 who ex)(hd:w0.heap.size<=w.heap.size)(o:Obj):Fr w0 (w.alloc o) who0 (Go.Proofs.YtklenjmfalljgabGreatDoor.setW who w.heap.size .kept) ex:=
 Fr.setW (h.trans (Fr.grown (iq (ir _ _)))) (Or.inl hd)
theorem WrK.step(h:WrK B w0 w b who0 who n f0 f K lv len R m k){g p:Nat}(a:lv= .slice (some ⟨g,0,none⟩) len p)(hk:k<len):
  WrK B w0 ((w.alloc (.cells #[.int .i64 m,.int .i64 0,.int .i64 0,.int .i64 0] 65)).setCell ⟨g,k,none⟩ (.slice (some ⟨w.heap.size,0,none⟩) 1 1)) b who0 (setW who w.heap.size .kept) n f0 f K lv len (R.set k (.slice (some ⟨w.heap.size,0,none⟩) 1 1)) m (k+1):=by
 have l:who g= .other:=h.oth g (by rw [a];rfl);have hgl:g<w.heap.size:=iZ h.row g (by rw [a];rfl);have i:setW who w.heap.size .kept g= .other:=by rw [iN _ _ (by omega)];exact l
 have hRl:R.length=len:=by have:=h.row.1;omega
 refine⟨(h.hs.made _).setOther i,?_,fun j hj=>?_,(h.fr.made h.fr.size _).trans (Fr.set (Or.inr (by rw [a];rfl))),fun d e=>?_,h.lent⟩
 ·have:=js (iJ (o:= .cells #[.int .i64 m,.int .i64 0,.int .i64 0,.int .i64 0] 65) (by have:=h.row;rw [a]at this;exact this)) k (.slice (some ⟨w.heap.size,0,none⟩) 1 1);rw [a];exact this
 ·by_cases e:j<k
  ·obtain⟨d,q,v,u,c⟩:=h.el j e;have s:=(h.hs.1.dom d (by rw [c];simp)).2;have r:d≠g:=fun e2=>by rw [e2,l]at c;cases c
   refine⟨d,q,by rw [List.getElem?_set_ne (by omega)];exact v,?_,by rw [iN _ _ (by omega)];exact c⟩;rw [Below.heap_setCell _ _ _ _ (by simpa using r),Below.heap_alloc _ _ _ s];exact u
  ·have t:j=k:=by omega
   subst t;refine⟨w.heap.size,1,by rw [List.getElem?_set_self (by omega)],?_,jC _ _ _⟩;rw [Below.heap_setCell _ _ _ _ (by simp only;omega)];exact heap_alloc_new w _
 ·rw [a]at e;simp only [Value.ownBlock,Option.some.injEq]at e;subst e;exact i
theorem KpH.push(h:KpH B w0 w b who0 who n m f0 f K0 K lv len R k ex){o:Obj}{g6 c6:Nat}
  (d:w6.ownsRow B (tlC 4) 1 (.slice (some ⟨g6,0,none⟩) ((K 4).length+1) c6) ((K 4).length+1) ((K 4).map (·.1)++[lv]))
  (key:((f (6+2*4)).ownBlock=some g6/\(w.alloc o).grownBy w6 (some g6))\/(g6=w.heap.size+1/\(w.alloc o).grownBy w6 none)):
  HB w6 b f/\∃ who' f',KpB B w0 (w6.setCell ⟨b,6+2*4,none⟩ (.slice (some ⟨g6,0,none⟩) ((K 4).length+1) c6)) b who0 who' n m f0 f' K0 K lv len R k ex/\f' (7+2*4)=f (7+2*4):=by
 obtain⟨hsz,j,hsr,h6r⟩:=kE key (fun g e=>(h.hs.dom g e).2) (r:= .lst 4) (by simp) (h.hs.wl 4 (by omega));have i:HB w6 b f:=h.hs.blk.same (j b (by rw [h.hs.wb];simp) (by rw [h.hs.wb];simp)).1;obtain⟨a,c⟩:=h.hs.push4 h.cu rfl d key;refine⟨i,_,_,⟨a,c,?_,fun o ho=>by rw [iW _ _ (by omega)];exact h.lent o ho,h.len,h.oth⟩,iW _ _ (by omega)⟩;refine(h.fr.trans (Fr.key (r:= .lst 4) (fun g e=>by rw [h.hs.wl 4 (by omega) g e];simp) key)).trans (Fr.set (Or.inl ?_));have:=a.wb;rw [this];simp
theorem KpB.tell(h:KpB B w0 w b who0 who n m f0 f K0 K lv len R k ex){M1:Option Addr}{N M3:Nat}(l:f (7+2*4)= .slice M1 N M3)(i:(K 4).length=N){o:Obj}{g6 c6:Nat}
  (j:w6.ownsRow B 3 1 (.slice (some ⟨g6,0,none⟩) (N+1) c6) (N+1) (iL ((K 4).map (·.2))++[.int .i64 m]))
  (key:((Value.slice M1 N M3).ownBlock=some g6/\(w.alloc o).grownBy w6 (some g6))\/(g6=w.heap.size+1/\(w.alloc o).grownBy w6 none)):
  HB w6 b f/\∃ who' f',KpH B w0 (w6.setCell ⟨b,7+2*4,none⟩ (.slice (some ⟨g6,0,none⟩) (N+1) c6)) b who0 who' n m f0 f' K0 (oD K 4 (K 4++[(lv,m)])) lv len R (k+1) ex:=by
 rw [<-l]at key;obtain⟨hsz,q,hsr,h6r⟩:=kE key (fun g e=>(h.hs.dom g e).2) (r:= .mrk 4) (by simp) (h.hs.wm 4 (by omega));have p:HB w6 b f:=h.hs.blk.same (q b (by rw [h.hs.wb];simp) (by rw [h.hs.wb];simp)).1;have d:(jo K 4).length=N:=by simp [jo,i]
 obtain⟨a,c⟩:=h.hs.tell4 h.cu rfl (w6:=w6) (g6:=g6) (c6:=c6) (o:=o) (by rw [d];exact j) key;rw [d]at a c;refine⟨p,_,_,⟨by rw [tx];exact a,c,?_,fun o ho=>by rw [iW _ _ (by omega)];exact h.lent o ho,by rw [nC,List.length_append,h.len];simp;omega,fun c' hc'=>by rw [nH _ _ hc'];exact h.oth c' hc'⟩⟩;refine(h.fr.trans (Fr.key (r:= .mrk 4) (fun g e=>by rw [h.hs.wm 4 (by omega) g e];simp) key)).trans (Fr.set (Or.inl ?_));have:=a.wb;rw [this];simp
theorem KpH.grow(h:KpH B w0 w b who0 who n m f0 f K0 K lv len R k ex)(j:len+1<=1000){o:Obj}{g6 c6:Nat}
  {v:Value} (i:∃ g' cap',v= .slice (some ⟨g',0,none⟩) 1 cap'/\w.heap[g']?=some (.cells (elC m 3).toArray 65 (0,0))/\who g'= .kept)
  (d:w6.ownsRow B 66 1 (.slice (some ⟨g6,0,none⟩) (len+1) c6) (len+1) (R++[v]))
  (key:(lv.ownBlock=some g6/\(w.alloc o).grownBy w6 (some g6))\/(g6=w.heap.size+1/\(w.alloc o).grownBy w6 none)):
  ∃ who',KpH B w0 w6 b who0 who' n m f0 f K0 K (.slice (some ⟨g6,0,none⟩) (len+1) c6) (len+1) (R++[v]) k ex:=by
 obtain⟨a,c⟩:=h.hs.grow4 h.cu rfl j i d key;exact⟨_,a,c,h.fr.trans (Fr.key (fun g e=>by rw [h.cu.wc g e];simp) key),h.lent,h.len,h.oth⟩
theorem WrK.kp(h:WrK B w0 w b who0 who n f0 f K lv len R m len)(i:len<=1000):∃ who1,KpH B w0 w b who0 who1 n m f0 f K K lv len R 0 (fun g=>lv.ownBlock=some g):=by
 obtain⟨k,d,e,j⟩:=h.hs.1.begin4 (c:=4) rfl h.hs.2 h.row i h.el h.oth;refine⟨k,d,e,⟨h.fr.os,h.fr.tape,h.fr.output,h.fr.size,fun g q1 q2 q3=>?_⟩,h.lent,rfl,fun _ _=>rfl⟩;obtain⟨a,b⟩:=h.fr.oth g q1 q2 q3;exact⟨a,by rw [j g q3];exact b⟩
theorem KpH.made(h:KpH B w0 w b who0 who n m f0 f K0 K lv len R k ex)(o:Obj):KpH B w0 (w.alloc o) b who0 (setW who w.heap.size .kept) n m f0 f K0 K lv len R k ex:=by
 have c:∀ a,who a≠ .other->setW who w.heap.size .kept a=who a:=fun a e=>iN _ _ (fun e2=>by subst e2;have:=(h.hs.dom _ e).2;omega)
 refine⟨h.hs.made o,⟨iJ h.cu.row,fun j hj=>?_,fun g e=>?_,fun x hx g e e2=>?_,fun c' hc' hcn x hx g e=>?_,h.cu.ln⟩,h.fr.made h.fr.size o,h.lent,h.len,h.oth⟩
 ·obtain⟨a,l,q,p,d⟩:=h.cu.el j hj;exact⟨a,l,q,by rw [Below.heap_alloc _ _ _ (h.hs.dom a (by rw [d];simp)).2];exact p,by rw [c a (by rw [d];simp)];exact d⟩
 ·have:=h.cu.wc g e;rw [c g (by rw [this];simp)];exact this
 ·refine h.cu.ent x hx g e ?_;by_cases i:g=w.heap.size
  ·subst i;rw [jC]at e2;cases e2
  ·rw [iN _ _ i]at e2;exact e2
 ·have:=h.cu.oth c' hc' hcn x hx g e;rw [c g (by rw [this];simp)];exact this
theorem KpH.done(h:KpH B w0 w b who0 who n m f0 f K0 K lv len R 4 ex):∃ who' f' K',HsK B w b who' n f' K'/\oz 4 w0 w who0 who' f0 f' K0 K' ex:=
 ⟨mH who,f,K,⟨h.hs.settled.1,h.hs.settled.2⟩,⟨h.fr.settled,h.lent,h.len,h.oth⟩⟩
end
end
section
open Go.RowKit
attribute [local go_sem] Go.World.cell?_alloc_some
theorem EP:((Tryz.prog.info? 66).map fun i=>(i.zero,i.size,i.bytes))=some (some (.slice none 0 0),1,24):=by kernel_rfl
theorem Eq:((Tryz.prog.info? 35).map fun i=>(i.zero,i.size,i.bytes))=some (some (.slice none 0 0),1,24):=by kernel_rfl
theorem FC{B:Nat}{w:World}{b n3:Nat}{who:Nat->Role}{n:Int}{f:Nat->Value}{K:Nat->List (Value × Int)}{x1:Option Addr}{x3 len:Nat}{xs:List Value}(h3:w.cell? ⟨n3,0,none⟩=some (.slice x1 len x3))(p:HsK B w b who n f K)(hl:w.ownsRow B 66 1 (.slice x1 len x3) len xs)(C:∀ g,(Value.slice x1 len x3).ownBlock=some g->who g= .other)
  (dc:0<=n) (hn1:n<=10000000000000) (hK:(K 4).length<=5000000000000) (ha:len<=900)
  {Q:Exit->Act->World->Prop} {c1 c2 c4 c5 c6 H c8 c9 ea bR eP dz d3 eW a7 bT ds ev df dU fk fe bi eS cX cB eZ aN cg dy dL d4 dG b6 cc a8 d7 cU ew cS bO aS di c3 cK ct cl aY bw dY eJ dO cL eF dZ eQ bk dj co eL e5 bn bM db ep d1 et bu cH eg aL cR bq ce du eE eX cA fb b5 dM dJ em cG a0 a9 es bY eH ex ci ck e2 aK cx eb dd dm aH eN aV bU dX aQ e4 bh fh bt ed bc dS:Value}
  (HQ:Hid (∀ {z0 z1 L z3 z4 z5 z6 z7 z8 z9 dp cN e7 bE bd cw bx cC eB dN cq eV cz dr cO bf bW aJ b0 cb cr bP bQ cM cY fg eG dT b3 dP ff ei dn a6 dH a1 eA er dQ e8 cn br aO dI de b7 bC fa dg ec dk aW dA eK bS cf dD eU bv eu bp d0 d2 bg fd bL dF b2 eD dV dt b9 d8 eC bB aP bV cJ cV cd ez bH ba dv cP bb bK ee fi eh b4 dE a3 cW dx bm d5 bA bX dC bz cT ef:Value} (w':World),(∃ who' f' K',HsK B w' b who' (n+1) f' K'/\oz 4 w w' who who' f f' K K' (fun g=>(Value.slice x1 len x3).ownBlock=some g))->Q .normal ⟨#[z0,z1,L,z3,z4,z5,z6,z7,z8,z9,dp,cN,e7,bE,bd,cw,bx,cC,eB,dN,cq,eV,cz,dr,cO,bf,bW,aJ,b0,cb,cr,bP,bQ,cM,cY,fg,eG,dT,b3,dP,ff,ei,dn,a6,dH,a1,eA,er,dQ,e8,cn,br,aO,dI,de,b7,bC,fa,dg,ec,dk,aW,dA,eK,bS,cf,dD,eU,bv,eu,bp,d0,d2,bg,fd,bL,dF,b2,eD,dV,dt,b9,d8,eC,bB,aP,bV,cJ,cV,cd,ez,bH,ba,dv,cP,bb,bK,ee,fi,eh,b4,dE,a3,cW,dx,bm,d5,bA,bX,dC,bz,cT,ef],[]⟩ w')):
  Code.wp Tryz.prog (oM Tryz.f44 16) Q ⟨#[.pointer (some ⟨b,0,none⟩),c1,c2,.pointer (some ⟨n3,0,none⟩),c4,c5,c6,H,c8,c9,ea,bR,eP,dz,d3,eW,a7,bT,ds,ev,df,dU,fk,fe,bi,eS,cX,cB,eZ,aN,cg,dy,dL,d4,dG,b6,cc,a8,d7,cU,ew,cS,bO,aS,di,c3,cK,ct,cl,aY,bw,dY,eJ,dO,cL,eF,dZ,eQ,bk,dj,co,eL,e5,bn,bM,db,ep,d1,et,bu,cH,eg,aL,cR,bq,ce,du,eE,eX,cA,fb,b5,dM,dJ,em,cG,a0,a9,es,bY,eH,ex,ci,ck,e2,aK,cx,eb,dd,dm,aH,eN,aV,bU,dX,aQ,e4,bh,fh,bt,ed,bc,dS],[]⟩ w:=by
 conv=>arg 2;whnf
 go_upto_region 17 with fail
 clear h3;obtain⟨i0,eR,cv,dW,el⟩:=info_parts EP;obtain⟨i1,eo,ch,ca,en⟩:=info_parts Eq;obtain⟨i2,cF,bJ,a2,cj⟩:=info_parts ko;have Y:=ij (sT p.1 dc (by omega));have H0:Hid (WrK B w (w.setCell ⟨b,5,none⟩ (.int .i64 (n+1))) b who who (n+1) f (lw f 5 (.int .i64 (n+1))) K (.slice x1 len x3) len xs (-77000000 - (n+1)) 0):=by
  refine⟨⟨p.1.setCnt _,p.2⟩,?_,fun j hj=>by omega,Fr.set (Or.inl (by rw [p.1.wb];simp)),C,fun o C=>iW _ _ (by omega)⟩;have aM:(Value.slice x1 len x3).ownBlock≠some b:=fun e=>by have:=C b e;rw [p.1.wb]at this;cases this
  exact ownsRow_setCell_other (a:=⟨b,5,none⟩) hl aM (.int .i64 (n+1))
 have aF:pt b= .pointer (some ⟨b,0,none⟩):=rfl;rw [aF]at Y;clear p hl C aF;generalize hm: -77000000 - (n+1)=m at*;have HMM:=ij hm;clear hm;go_wp2_with (go_at_call 55;refine Y.out.mono ?_;rintro e w1 ⟨rfl,rfl⟩)
 go_loopw [11] (fun i w'=>∃ (k:Nat) (who':Nat->Role) (R:List Value),k<=len/\i= .int .i64 k/\Hid (WrK B w w' b who who' (n+1) f (lw f 5 (.int .i64 (n+1))) K (.slice x1 len x3) len R m k)) (fun i _=>len - (intOf i).toNat)
 case atStart=>exact⟨0,who,xs,Nat.zero_le _,rfl,H0⟩
 case round=>
  clear H0 Y;obtain⟨k,who',R,M,rfl,l⟩:=hrel;obtain⟨r,az⟩:∃ r,r=wr:=⟨_,rfl⟩;rw [<-az]at l ⊢;clear az;by_cases d9:k<len
  ·obtain⟨g,cp,A,_,_⟩:=l.out.row.form (by omega);have G:=l.out.row;rw [A]at G;have bj:g<r.heap.size:=iZ G g rfl;have ac:=l.out.step A d9;rw [World.setCell_alloc_past _ _ _ _ bj]at ac;have aX:=ij ac;clear ac;simp only [Value.slice.injEq,true_and]at A;obtain⟨rfl,rfl⟩:=A;have af:=iJ (o:= .cells #[.int .i64 m,.int .i64 0,.int .i64 0,.int .i64 0] 65) G;obtain⟨u0,y0⟩:∃ u,(r.alloc (.cells #[.int .i64 m,.int .i64 0,.int .i64 0,.int .i64 0] 65)).cell? ⟨g,k,none⟩=some u:=lO af (by omega);have z0:(r.alloc (.cells #[.int .i64 m,.int .i64 0,.int .i64 0,.int .i64 0] 65)).frozen? ⟨g,k,none⟩=false:=lN af;have q0:(0:Int)<=(k:Int):=by omega
   have q1:(k:Int)<len:=by omega
   clear G af;go_wp2_with fail
   go_roundw
   case rel=>exact⟨k+1,_,_,by omega,by go_num,aX⟩
   case measure=>simp [intOf];omega
  ·have ek:k=len:=by omega
   have q1:(len:Int)<=(k:Int):=by omega
   have HS:Hid (∃ V,KpH B w r b who V (n+1) m f (lw f 5 (.int .i64 (n+1))) K K (.slice x1 len x3) len R 0 (fun g=>(Value.slice x1 len x3).ownBlock=some g)):=by
    have hi:=l.out;rw [ek]at hi;exact hi.kp (by omega)
   clear l ek;go_wp2_with fail
   go_loopw [9,12] (fun lv' i w'=>∃ (k:Nat) (who':Nat->Role) (f':Nat->Value) (K':Nat->List (Value × Int)) (R:List Value),k<=4/\i= .int .i64 k/\Hid (KpH B w w' b who who' (n+1) m f f' K K' lv' (len+k) R k (fun g=>(Value.slice x1 len x3).ownBlock=some g))) (fun _ i _=>4 - (intOf i).toNat)
   case atStart=>
    obtain⟨V,h1⟩:=HS.out;exact⟨0,V,_,K,R,by omega,rfl,ij h1⟩
   case round=>
    clear HS;obtain⟨j,who',f',K',R,hj,rfl,d⟩:=hrel;obtain⟨c,aA⟩:∃ c,c=wr:=⟨_,rfl⟩;rw [<-aA]at d ⊢;clear aA;have y:c.ownsRow B 35 1 (f' 14) (K' 4).length ((K' 4).map (·.1)):=d.out.hs.lst 4 (by omega);have rM:c.ownsRow B 3 1 (f' 15) (K' 4).length (iL ((K' 4).map (·.2))):=by have:=d.out.hs.mrk 4 (by omega);simpa [jo]using this
    have D:c.ownsRow B 66 1 u9 (len+j) R:=d.out.cu.row;have dq:Hid ((K' 4).length=(K 4).length+j):=d.out.len;have c6:c.cell? ⟨b,14,none⟩=some (f' 14):=d.out.hs.blk.cell (by omega);have hbase:B<=c.heap.size:=by have:=d.out.hs.blk.lt;have:=(d.out.hs.dom b (by rw [d.out.hs.wb];simp)).1;omega
    obtain⟨q,l2,s,rfl⟩:=iw D;have bD:=iB D;subst bD;obtain⟨T,o2,o3,W⟩:=iw y;rw [W]at y c6;have e1:=iB y;subst e1;have aG:(K' 4).length<=5000000000003\/¬j<4:=by have:=dq.out;omega
    have aR:=ij D;have ai:=ij y;have I:=ij W;have eI:=ij rM;clear D y rM W;by_cases hj4:j<4
    ·have aG:(K' 4).length<=5000000000003:=by omega
     have L:(j:Int)<4:=by omega
     have aq:(K' 4).length+1<=maxLen:=by unfold maxLen;omega
     have dh:len+j+1<=maxLen:=by unfold maxLen;omega
     have ab:Hid (∀ {o:Obj} {g6 c6:Nat} {w6:World},w6.ownsRow B 35 1 (.slice (some ⟨g6,0,none⟩) ((K' 4).length+1) c6) ((K' 4).length+1) ((K' 4).map (·.1)++[.slice q (len+j) s])->
       (((Value.slice T (K' 4).length o3).ownBlock=some g6/\(c.alloc o).grownBy w6 (some g6))\/(g6=c.heap.size+1/\(c.alloc o).grownBy w6 none))->
       HB w6 b f'/\∃ who'' f'',KpB B w (w6.setCell ⟨b,14,none⟩ (.slice (some ⟨g6,0,none⟩) ((K' 4).length+1) c6)) b who who'' (n+1) m f f'' K K' (.slice q (len+j) s) (len+j) R j (fun g=>(Value.slice x1 len x3).ownBlock=some g)/\f'' 15=f' 15):=by
      intro o g6 c6 w6 aT key;rw [<-I.out]at key;exact d.out.push aT key
     generalize an:(K' 4).length=N at*;generalize cD:(K' 4).map (·.1)=L1 at*;have ag:=ij an;clear an cD;go_upto_region 26 with (at_builtin;go_must (refine iG rfl _ _ _ rfl B 35 i1 _ 1 24 Tryz.underlying41 eo ch ca en rfl (by omega) (.slice T N o3) N L1 rfl (iJ ai.out) ⟨c.heap.size,0,none⟩ 1 1 [.slice q (len+j) s] rfl rfl (World.news_of_block (cs:= #[.slice q (len+j) s]) (t:=35) (fr:=(0,0)) (heap_alloc_new c _)) (by simp [Value.oneCell']) (by omega) aq (by omega) (by simp;omega) (c.heap.size+1) (by simp) ?_);intro g8 bN w8 Z ad aU;have ae:=(ab.out Z ad).1;have J:w8.cell? ⟨b,14,none⟩=some (.slice T N o3):=(by rw [ae.cell (by omega),I.out]);have p7:=ae.frozen 14)
     obtain⟨_,who9,f9,h,e9⟩:=ab.out Z ad;generalize w8.setCell ⟨b,14,none⟩ (.slice (some ⟨g8,0,none⟩) (N+1) bN)=w9 at*;have U:=ij h;have x:w9.ownsRow B 3 1 (f9 15) N (iL ((K' 4).map (·.2))):=by
      have:=h.hs.mrk 4 (by omega);rw [<-ag.out];simpa [jo]using this
     have H:w9.cell? ⟨b,15,none⟩=some (f9 15):=h.hs.blk.cell (by omega);obtain⟨F,m2,E,P⟩:=iw x;rw [P]at x H;have eY:=(iB x).symm;subst eY;have hbase9:B<=w9.heap.size:=by have:=h.hs.blk.lt;have:=(h.hs.dom b (by rw [h.hs.wb];simp)).1;omega
     have ay:=ij x;have z:=ij P;clear Z ad ae J p7 aU c6 h e9 ab x P I ai eI;go_upto_region 27 with (at_builtin;go_must (refine iG rfl _ _ _ rfl B 3 i2 _ 1 8 Tryz.underlying39 cF bJ a2 cj rfl (by omega) (.slice F N E) N (iL ((K' 4).map (·.2))) rfl (iJ ay.out) ⟨w9.heap.size,0,none⟩ 1 1 [.int .i64 m] rfl rfl (World.news_of_block (cs:= #[.int .i64 m]) (t:=3) (fr:=(0,0)) (heap_alloc_new w9 _)) (by simp [Value.oneCell']) (by omega) aq (by omega) (by simp;omega) (w9.heap.size+1) (by simp) ?_);intro e3 cE aB X S dR;have O:=(U.out.tell (M1:=F) (M3:=E) z.out ag.out X S).1;have J:aB.cell? ⟨b,15,none⟩=some (.slice F N E):=(by rw [O.cell (by omega),z.out]);have p7:=O.frozen 15)
     obtain⟨_,dl,f11,v⟩:=U.out.tell (M1:=F) (M3:=E) z.out ag.out X S;generalize aB.setCell ⟨b,15,none⟩ (.slice (some ⟨e3,0,none⟩) (N+1) cE)=w11 at*;have aw:=ij (v.made (.cells #[.int .i64 m,.int .i64 0,.int .i64 0,.int .i64 0] 65));have b8:Hid ((w11.alloc (.cells #[.int .i64 m,.int .i64 0,.int .i64 0,.int .i64 0] 65)).ownsRow B 66 1 (.slice q (len+j) s) (len+j) R):=aw.out.cu.row;have bl:Hid (∃ g' cap',Value.slice (some ⟨w11.heap.size,0,none⟩) 1 1= .slice (some ⟨g',0,none⟩) 1 cap'/\(w11.alloc (.cells #[.int .i64 m,.int .i64 0,.int .i64 0,.int .i64 0] 65)).heap[g']?=some (.cells (elC m 3).toArray 65 (0,0))/\setW dl w11.heap.size .kept g'= .kept):=⟨w11.heap.size,1,rfl,heap_alloc_new w11 _,jC _ _ _⟩;have hbase11:B<=w11.heap.size:=by have:=v.hs.blk.lt;have:=(v.hs.dom b (by rw [v.hs.wb];simp)).1;omega
     have cm:((w11.alloc (.cells #[.int .i64 m,.int .i64 0,.int .i64 0,.int .i64 0] 65)).alloc (.cells #[.slice (some ⟨w11.heap.size,0,none⟩) 1 1] 66)).heap[w11.heap.size+1]?=some (.cells #[.slice (some ⟨w11.heap.size,0,none⟩) 1 1] 66 (0,0)):=by
      have:=heap_alloc_new (w11.alloc (.cells #[.int .i64 m,.int .i64 0,.int .i64 0,.int .i64 0] 65)) (.cells #[.slice (some ⟨w11.heap.size,0,none⟩) 1 1] 66);simpa using this
     clear X S O J p7 dR H v U ay z aR;go_wp2_with (at_builtin;go_must (refine iG rfl _ _ _ rfl B 66 i0 _ 1 24 Tryz.underlying35 eR cv dW el rfl (by omega) (.slice q (len+j) s) (len+j) R rfl (iJ b8.out) ⟨w11.heap.size+1,0,none⟩ 1 1 [.slice (some ⟨w11.heap.size,0,none⟩) 1 1] rfl rfl (World.news_of_block (cs:= #[.slice (some ⟨w11.heap.size,0,none⟩) 1 1]) (t:=66) (fr:=(0,0)) cm) (by simp [Value.oneCell']) (by omega) dh (by omega) (by simp;omega) ((w11.alloc (.cells #[.int .i64 m,.int .i64 0,.int .i64 0,.int .i64 0] 65)).heap.size+1) (by simp) ?_);intro g12 cap12 w12 ao aD dB;have e6:=ij (aw.out.grow (by omega) bl.out ao aD);clear ao aD dB)
     go_roundw
     case rel=>
      obtain⟨ey,be⟩:=e6.out;exact⟨j+1,ey,_,_,_,by omega,by go_num,ij be⟩
     case measure=>simp [intOf];omega
    ·have L:(4:Int)<=(j:Int):=by omega
     have HE:Hid (∃ who' f' K',HsK B c b who' (n+1) f' K'/\oz 4 w c who who' f f' K K' (fun g=>(Value.slice x1 len x3).ownBlock=some g)):=by
      have ej:j=4:=by omega
      have M:=d.out;rw [ej]at M;exact M.done
     go_wp2_with fail
     exact HQ.out c HE.out
structure ThrD(B:Nat)(w:World)(tv:Value)(T:List (Value × Nat × List Value)):Prop where
 row:w.ownsRow B 66 1 tv T.length (T.map (·.1))
 el:∀ x∈T,w.ownsRow B 65 4 x.1 x.2.1 x.2.2/\x.2.1<=900
 dis:∀ i j (hi:i<T.length) (hj:j<T.length),i<j->∀ g,T[i].1.ownBlock=some g->T[j].1.ownBlock≠some g
theorem ub{w:World}{B f:Nat}{v b:Value}{m q:Nat}{xs c:List Value}(h:w.ownsRow B 66 1 v m xs)(d:w.ownsRow f 65 4 b q c){g:Nat}(e:v.ownBlock=some g)(a:b.ownBlock=some g):False:=by
 rcases h.2 with ⟨rfl,_⟩ | ⟨g1,cap1,cur1,rfl,_,hh,_⟩
 ·cases e
 ·rcases d.2 with ⟨rfl,_⟩ | ⟨g2,cap2,cur2,rfl,_,hh',_⟩
  ·cases a
  ·simp only [Value.ownBlock,Option.some.injEq]at e a;subst e a;rw [hh]at hh';simp only [Option.some.injEq,Obj.cells.injEq]at hh';exact absurd hh'.2.1 (by decide)
structure KpQ(B:Nat)(w0 w:World)(b:Nat)(who0 who:Nat->Role)(n:Int)(f0 f:Nat->Value)(K0 K:Nat->List (Value × Int))(T:List (Value × Nat × List Value))(t:Nat):Prop where
 hs:HsK B w b who (n+t) f K
 fr:Fr w0 w who0 who (fun g=>∃ x∈T.take t,x.1.ownBlock=some g)
 lent:∀ o,o<5->f o=f0 o
 len:(K 3).length=(K0 3).length+4*t
 oth:∀ c,c≠3->K c=K0 c
theorem tN(B:Nat)(w:World)(b:Nat)(who:Nat->Role)(n:Int)(f:Nat->Value)(K:Nat->List (Value × Int))(tv:Value)(T:List (Value × Nat × List Value))(R:HsK B w b who n f K)(E:ThrD B w tv T)
  (U:∀ g,tv.ownBlock=some g->who g= .other) (Y:∀ x∈T,∀ g,x.1.ownBlock=some g->who g= .other) (hn0:0<=n) (hn1:n<=9000000000000) (hK3:(K 3).length<=4900000000000) (hK4:(K 4).length<=4900000000000) (hl:T.length<=100):
  Calls Tryz.prog 44 #[pt b,.agg #[tv]] w fun e w'=>(∃ v,e= .returned v)/\∃ who' f' K',HsK B w' b who' (n+T.length+1) f' K'/\Fr w w' who who' (fun g=>tv.ownBlock=some g\/∃ x∈T,x.1.ownBlock=some g)/\(∀ o,o<5->f' o=f o)/\(K' 3).length=(K 3).length+4*T.length/\(K' 4).length=(K 4).length+4/\∀ c,c≠3->c≠4->K' c=K c:=by
 obtain⟨q,t2,s,rfl⟩:=iw E.row;have aS:=iB E.row;subst aS;have W:=ij R;have y:=ij E;have HO:=ij U;have ad:=ij Y;have bi:pt b= .pointer (some ⟨b,0,none⟩):=rfl;have qT:(T.length:Int)<=100:=by omega
 rw [bi];clear R E U Y;go_enter Tryz.func44,Tryz.ntmps44
 go_upto_region 1 with fail
 obtain⟨k,C⟩:∃ k,k=w.alloc (.cells #[.slice q T.length s] 37):=⟨_,rfl⟩;have X:Hid (k.heap[w.heap.size]?=some (.cells #[.slice q T.length s] 37 (0,0))):=by unfold Hid;rw [C];exact heap_alloc_new w _
 have F:Hid (w.grownBy k none):=by unfold Hid;rw [C];exact iq (ir _ _)
 rw [<-C];clear C;have bb:Hid (who w.heap.size= .other):=by
  unfold Hid;by_cases e:who w.heap.size= .other
  ·exact e
  ·exact absurd (W.out.1.dom _ e).2 (by omega)
 have j:Hid (ThrD B k (.slice q T.length s) T):=⟨iD y.out.row F.out (fun _ e=>by cases e),fun x d=>⟨iD (y.out.el x d).1 F.out (fun _ e=>by cases e),(y.out.el x d).2⟩,y.out.dis⟩;have Z:Hid (KpQ B k k b who who n f f K K T 0):=⟨by simpa using W.out.grown F.out,Fr.refl _ _ _,fun _ _=>rfl,by simp,fun _ _=>rfl⟩;have a4:Hid (∀ (w':World) (who':Nat->Role) (f':Nat->Value) (K':Nat->List (Value × Int)) (t:Nat),t<=T.length->KpQ B k w' b who who' n f f' K K' T t->w'.cell? ⟨w.heap.size,0,none⟩=some (.slice q T.length s)/\(w'.ownsRow B 66 1 (.slice q T.length s) T.length (T.map (·.1))/\∀ g,(Value.slice q T.length s).ownBlock=some g->who' g= .other)/\∀ (G:t<T.length),w'.ownsRow B 65 4 T[t].1 T[t].2.1 T[t].2.2/\∀ g,T[t].1.ownBlock=some g->who' g= .other):=by
  intro w' who' f' K' t G p;have r:w.heap.size<k.heap.size:=(Array.getElem?_eq_some_iff.1 X.out).1;have I:∀ x∈T.take t,x∈T:=fun x d=>List.mem_of_mem_take d
  have aN:=p.fr.oth w.heap.size r bb.out (fun⟨x,d,e⟩=>by
   have:=iZ (y.out.el x (I x d)).1 _ e;omega)
  refine⟨?_,⟨?_,?_⟩,fun htl=>⟨?_,?_⟩⟩
  ·rw [World.cell?_of_block aN.1];simp [World.cell?,X.out]
  ·exact iM j.out.row (fun g e=>(p.fr.oth g (iZ j.out.row g e) (HO.out g e) (fun⟨x,d,m⟩=>ub j.out.row (j.out.el x (I x d)).1 e m)).1)
  ·exact fun g e=>(p.fr.oth g (iZ j.out.row g e) (HO.out g e) (fun⟨x,d,m⟩=>ub j.out.row (j.out.el x (I x d)).1 e m)).2
  ·have d:=j.out.el T[t] (List.getElem_mem htl);refine iM d.1 (fun g e=>(p.fr.oth g (iZ d.1 g e) (ad.out _ (List.getElem_mem htl) g e) (fun⟨x,hx',m⟩=>?_)).1);obtain⟨i,N,rfl⟩:=List.getElem_of_mem hx';simp only [List.length_take]at N;rw [List.getElem_take]at m;exact j.out.dis i t (by omega) htl (by omega) g m e
  ·intro g e;have d:=j.out.el T[t] (List.getElem_mem htl);refine(p.fr.oth g (iZ d.1 g e) (ad.out _ (List.getElem_mem htl) g e) (fun⟨x,hx',m⟩=>?_)).2;obtain⟨i,N,rfl⟩:=List.getElem_of_mem hx';simp only [List.length_take]at N;rw [List.getElem_take]at m;exact j.out.dis i t (by omega) htl (by omega) g m e
 go_wp2_with fail
 go_loopw [4] (fun tv' w'=>∃ t:Nat,t<=T.length/\tv'= .int .i64 t/\Hid (∃ who' f' K',KpQ B k w' b who who' n f f' K K' T t)) (fun tv' _=>T.length - (intOf tv').toNat)
 case atStart=>exact⟨0,Nat.zero_le _,rfl,⟨_,_,_,Z.out⟩⟩
 case round=>
  clear Z;obtain⟨t,G,rfl,HE⟩:=hrel;obtain⟨who',f',K',p⟩:=HE.out;clear HE;obtain⟨A,Q⟩:∃ A,A=wr:=⟨_,rfl⟩;rw [<-Q]at p ⊢;clear Q;have h:=ij p;obtain⟨c3,⟨L,aC⟩,aT⟩:=a4.out A who' f' K' t G p;clear p;by_cases r:t<T.length
  ·have q1:(t:Int)<T.length:=by omega
   obtain⟨tg,rfl⟩:∃ g,q=some ⟨g,0,none⟩:=by
    rcases L.2 with ⟨_,e⟩ | ⟨g,cap,cur,hv,_⟩
    ·omega
    ·simp only [Value.slice.injEq]at hv;exact⟨g,hv.1⟩
   obtain⟨z,O⟩:=aT r;have V:=(j.out.el T[t] (List.getElem_mem r)).2;have ab:A.cell? ⟨tg,t,none⟩=some T[t].1:=by rw [L.cellAt _ (by omega)];simp [r]
   have S:Hid (T.take (t+1)=T.take t++[T[t]]):=List.take_succ_eq_append_getElem r;generalize T[t]=x at*;obtain⟨xv,xn,xs⟩:=x;simp only at z O V ab;obtain⟨x1,x2,x3,rfl⟩:=iw z;have a0:=iB z;subst a0;go_upto_if 17 with fail
   refine wp_cond_true rfl ?_;refine wp_skip ?_;refine ‹∀ a w,Code.wp Tryz.prog _ _ a w->_› _ _ ?_;have HXO:=ij O;refine Ew c3 r (by omega) ab h.out.hs z O (by omega) (by omega) (by have:=h.out.len;omega) V ?_;intro z5 z6 z7 z8 aW ax a3 a6 a7 ak bd az aM ah aP aX a5 aI aJ bc bf bg aZ aB aQ ay be aL aj av ar aq aV aR aA a9 a1 aD al au bj aU aF ba bk aH af an am a2 aK aY ap D u;have ao:Hid (∃ who' f' K',KpQ B k D b who who' n f f' K K' T (t+1)):=by
    obtain⟨H,P,M,J,l⟩:=u;refine⟨H,P,M,?_,?_,fun o ho'=>(l.lent o ho').trans (h.out.lent o ho'),?_,fun c hc=>(l.oth c hc).trans (h.out.oth c hc)⟩
    ·have e:n+((t+1:Nat):Int)=n+(t:Int)+1:=by omega
     rw [e];exact J
    ·exact(h.out.fr.mono (fun g ⟨x,d,e⟩=>⟨x,(by rw [S.out];exact List.mem_append.2 (Or.inl d)),e⟩)).trans (l.fr.mono (fun g e=>⟨(.slice x1 x2 x3,x2,xs),(by rw [S.out];exact List.mem_append.2 (Or.inr (List.mem_singleton.2 rfl))),e⟩))
    ·have e1:=l.len;have m:=h.out.len;omega
   clear u;go_wp2_with fail
   go_roundw
   case rel=>exact⟨t+1,by omega,by go_num,ao⟩
   case measure=>simp [intOf]<;>omega
  ·have q1:(T.length:Int)<=(t:Int):=by omega
   have et:t=T.length:=by omega
   subst et;go_upto_if 17 with fail
   refine wp_cond_false rfl ?_;refine wp_exit ?_;refine ‹∀ a w,Code.wp Tryz.prog _ _ a w->_› _ _ ?_;refine FC c3 h.out.hs L aC (by omega) (by omega) (by have:=h.out.oth 4 (by omega);rw [this];omega) (by omega) ?_;intro z0 z1 z2 z3 z4 z5 z6 z7 z8 z9 z10 z11 z12 z13 z14 z15 z16 z17 aW ax a3 a6 a7 ak bd az aM ah aP aX a5 aI aJ bc bf bg aZ aB aQ ay be aL aj av ar aq aV aR aA a9 a1 aD al au bj aU aF ba bk aH af an am a2 aK aY ap z67 z68 z69 z70 z71 z72 z73 z74 z75 z76 z77 z78 z79 z80 z81 z82 z83 z84 z85 z86 z87 z88 z89 z90 z91 z92 z93 z94 z95 z96 z97 z98 z99 z100 z101 z102 z103 z104 z105 z106 z107 z108 z109 z110 z111 z112 D u;have HF:Hid (∃ who' f' K',HsK B D b who' (n+T.length+1) f' K'/\Fr w D who who' (fun g=>(Value.slice q T.length s).ownBlock=some g\/∃ x∈T,x.1.ownBlock=some g)/\(∀ o,o<5->f' o=f o)/\(K' 3).length=(K 3).length+4*T.length/\(K' 4).length=(K 4).length+4/\∀ c,c≠3->c≠4->K' c=K c):=by
    obtain⟨H,P,M,J,l⟩:=u;refine⟨H,P,M,J,?_,fun o ho'=>(l.lent o ho').trans (h.out.lent o ho'),?_,?_,fun c hc3 hc4=>(l.oth c hc4).trans (h.out.oth c hc3)⟩
    ·refine(((Fr.grown F.out).trans (h.out.fr.mono (fun g ⟨x,d,e⟩=>?_))).trans (l.fr.mono (fun g e=>Or.inl e)));exact Or.inr ⟨x,List.mem_of_mem_take d,e⟩
    ·rw [l.oth 3 (by omega)];exact h.out.len
    ·rw [l.len,h.out.oth 4 (by omega)]
   clear u;go_end0
   exact⟨⟨_,rfl⟩,HF.out⟩
end
end Go.Proofs.YtklenjmfalljgabGreatDoor
