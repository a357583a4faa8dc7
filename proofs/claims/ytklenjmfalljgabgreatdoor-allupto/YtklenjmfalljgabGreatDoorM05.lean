/- The texts Fhd Frt Fhe Fhf Fhg Fhh Fhi. -/
import Derived.Test.YtklenjmfalljgabGreatDoorM02
import Derived.Test.YtklenjmfalljgabGreatDoorM04
import Derived.Sort.Grow
import Derived.Deep.Draws
import Derived.Test.YtklenjmfalljgabGreatDoorSrt
import Derived.BigQuiet
import Derived.Deep.QuietTactic
namespace Go.Proofs.YtklenjmfalljgabGreatDoor
set_option maxRecDepth 100000
set_option maxHeartbeats 8000000
section
open Go.RowKit Go.Maps
attribute [local go_sem] Go.World.cell?_alloc_some
theorem vK{i:Ins}{len:Int}(h:lH i len=true):0<=i.a/\i.a<4/\0<=i.b/\i.b<4:=by
 obtain⟨h1,h2⟩:=vb h;obtain⟨c,d,f⟩:=sB h;have hc:i.op=1\/i.op=2\/i.op=3\/i.op=4\/i.op=5\/i.op=6\/i.op=7\/i.op=8\/i.op=9\/i.op=10\/i.op=11:=by omega
 rcases hc with e | e | e | e | e | e | e | e | e | e | e<;>rw [e]at c d f<;>simp [shp,mn,jE]at c d f<;>omega
theorem yl{t:Nat}{i:Ins}(ht:t<4)(ha:i.a<4)(hb:i.b<4):(∀ u∈mW t i,nL u)/\(mW t i).length<=10:=by
 unfold mW nL;by_cases e:i.op=9\/i.op=10
 ·simp [e];omega
 ·by_cases d:i.op=2
  ·simp [d];omega
  ·by_cases c:i.op=3
   ·simp [c];omega
   ·simp [e,d,c];omega
def kJ(q:Nat × Nat):Int × Int:=((q.1:Int),(q.2:Int))
def nz(ks:List (Nat × Nat)):List Value:=iS (ks.map kJ)
theorem Ak(a:List (Nat × Nat)):(nz a).length=a.length*2:=by
 induction a with
 | nil=>rfl
 | cons x r ih=>simp only [nz,iS,List.map_cons,List.flatMap_cons,List.length_append]at*;simp at*;omega
theorem yz(a:List (Nat × Nat))(q:Nat × Nat):nz (a++[q])=nz a++[.int .i64 (q.1:Int),.int .i64 (q.2:Int)]:=by
 unfold nz;rw [List.map_append,List.map_cons,List.map_nil,nw];rfl
theorem BS(L:List Value)(x y:Value)(i n:Nat)(b:L.length=i*2)(hi:i<n):((L++List.replicate ((n - i)*2) (Value.int .i64 0)).set (i*2) x).set (i*2+1) y=(L++[x,y])++List.replicate ((n - (i+1))*2) (Value.int .i64 0):=by
 obtain⟨k,a⟩:∃ k,(n - i)*2=k+2/\(n - (i+1))*2=k:=⟨(n - (i+1))*2,by omega,rfl⟩;rw [a.1,a.2,List.set_append,if_neg (by omega),b,Nat.sub_self,List.replicate_succ,List.set_cons_zero,List.set_append,if_neg (by omega),b];have e:i*2+1 - i*2=1:=by omega
 rw [e,List.replicate_succ];simp
theorem wY:((Tryz.prog.info? 165).map fun i=>(i.zero,i.size,i.bytes))=some (some (.agg #[.int .i64 0,.int .i64 0]),2,16):=by kernel_rfl
theorem Bn(n:Nat):(madeCells #[Value.int .i64 0,.int .i64 0] n).toList=List.replicate n (.int .i64 0):=by
 apply List.ext_getElem (by simp [madeCells]);intro i h1 a;simp only [madeCells,Array.toList_map,List.getElem_map,List.getElem_replicate];have:i<n:=by simpa using a
 simp only [Array.toList_range,List.getElem_range];rcases(by omega:i % 2=0\/i % 2=1)with h | h<;>simp [h]
theorem tz:∀ (l:List (Int × Int)) (j:Nat) (hj:j<l.length),(iS l)[j*2]?=some (.int .i64 l[j].1)/\(iS l)[j*2+1]?=some (.int .i64 l[j].2)
 | [],j,hj=>by simp at hj
 | x::l,0,hj=>by simp [iS]
 | x::l,j+1,hj=>by
  have h:=tz l j (by simpa using hj);have e:iS (x::l)=[.int .i64 x.1,.int .i64 x.2]++iS l:=by simp [iS]
  have e2:∀ q,(iS (x::l))[(j+1)*2+q]?=(iS l)[j*2+q]?:=fun q=>by
   rw [e,List.getElem?_append_right (by simp;omega)];congr 1
   simp;omega
  refine⟨?_,?_⟩
  ·have:=e2 0;simp only [Nat.add_zero]at this;rw [this];simpa using h.1
  ·rw [e2 1];simpa using h.2
theorem qA{w:World}{base:Nat}{b:Option Addr}{c:Nat}{xs:List Ev}{o:Out}(h:w.ownsRow base 76 2 (.slice b xs.length c) xs.length (iS o.steps))(a:o.steps=xs.map Ev.pr){j:Nat}(f:j<xs.length):
  ∃ g,b=some ⟨g,0,none⟩/\w.cell? ⟨g,j*2,none⟩=some (.int .i64 (xs[j].t:Int))/\w.cell? ⟨g,j*2+1,none⟩=some (.int .i64 xs[j].k):=by
 rcases h.2 with ⟨_,e⟩ | ⟨g,cap,_,e,_⟩
 ·omega
 ·simp only [Value.slice.injEq,true_and]at e;obtain⟨rfl,rfl⟩:=e;have d:j<o.steps.length:=by rw [a];simpa using f
  have q:=tz o.steps j d;have i:o.steps[j]=xs[j].pr:=by simp [a]
  rw [i]at q;exact⟨g,rfl,by rw [h.cellAt _ (by omega)];exact q.1,by rw [h.cellAt _ (by omega)];exact q.2⟩
theorem yt{w:World}{j:Option Addr}{l:Nat}{p:List (List Ins)}(m:ProgAt w (.agg #[.slice j p.length l]) p){t:Nat}(i:t<p.length){k:Nat}(c:k<(iP p t).length):
  ∃ g o ca cc cg co,j=some ⟨g,o,none⟩/\ca=some ⟨cg,co,none⟩/\w.cell? ⟨g,o+t,none⟩=some (.slice ca (iP p t).length cc)/\w.cell? ⟨cg,co+k*4,none⟩=some (.int .i64 (jw p t k).op)/\w.cell? ⟨cg,co+k*4+1,none⟩=some (.int .i64 (jw p t k).a)/\w.cell? ⟨cg,co+k*4+2,none⟩=some (.int .i64 (jw p t k).b)/\w.cell? ⟨cg,co+k*4+3,none⟩=some (.int .i64 (jw p t k).n):=by
 obtain⟨ao',cap',e,h⟩:=m;simp at e;obtain⟨rfl,rfl⟩:=e;obtain⟨g,o,q,rv,c0,ca,cc,f,d⟩:=h t i;have s:=nn i;rw [<-s]at d f;obtain⟨cg,co,v,k0,k1,k2,u⟩:=d k c;have r:jw p t (k:Int)=(iP p t)[k]:=by rw [mE (by simpa using c)];simp
 rw [r];exact⟨g,o,ca,cc,cg,co,q,v,by rw [c0,f],k0,k1,k2,u⟩
theorem HistAt.keptRow{w w':World}{b n r:Nat}{F:Use->Nat}(h:HistAt w b n F)(e:w.grownBy w' (some r))(c:r≠b):HistAt w' b n F:=by
 obtain⟨D,a,d⟩:=h;exact⟨D,a.kept e (by simpa using Ne.symm c),d⟩
theorem HistAt.mono{w:World}{b n n':Nat}{F:Use->Nat}(h:HistAt w b n F)(a:n<=n'):HistAt w b n' F:=by
 obtain⟨D,c,d⟩:=h;exact⟨D,c.mono a,d⟩
theorem pL{w:World}{g o:Nat}{v:Value}:w.grownBy (w.setCell ⟨g,o,none⟩ v) (some g):=⟨rfl,rfl,rfl,by simp,fun k _ hk=>Below.heap_setCell _ _ _ _ (by simp at hk ⊢;omega)⟩
structure FG(p:List (List Ins))(xs:List Ev)(W w':World)(gl gm i h:Nat):Prop where
 row:w'.heap[gl]?=some (.cells (nz ((tl (jb p) [] (xs.take i)).map yr)++List.replicate ((xs.length - i)*2) (Value.int .i64 0)).toArray 165 (0,0))
 his:HistAt w' gm (i*10) (jY p (tl (jb p) [] (xs.take i)))
 hgh:h=mC (tl (jb p) [] (xs.take i))
 gr:∀ k,k<W.heap.size->w'.heap[k]?=W.heap[k]?
 sz:W.heap.size<=w'.heap.size
 os:w'.os=W.os/\w'.tape=W.tape/\w'.output=W.output
theorem Dv{p:List (List Ins)}{o:Out}{xs:List Ev}(hp:iV p=true)(a7:rx p o xs)(h500:xs.length<=500)(w:World)(pv:Value)(hP:ProgAt w pv p)(base:Nat)(E:Option Addr)(y:Nat)
  (hs:w.ownsRow base 76 2 (.slice E xs.length y) xs.length (iS o.steps)) (Q T X O:Int) (P:Option Addr) (Y U:Nat):
  Calls Tryz.prog 85 #[pv,.agg #[.int .i64 o.kind,.int .i64 o.thread,.int .i64 o.at_,.slice E xs.length y,.int .i64 Q,.int .i64 T,.int .i64 X,.int .i64 O,.slice P Y U]] w fun e w'=>∃ g,e= .returned (.slice (some ⟨g,0,none⟩) xs.length xs.length)/\w.heap.size<=g/\w'.heap[g]?=some (.cells (nz (jy p xs)).toArray 165 (0,0))/\w.grownBy w' none:=by
 obtain⟨i0,b9,cs,cB,cd⟩:=info_parts wY;obtain⟨ao,J,rfl⟩:=hP.form;have HP:=il hP;have HV:=il hp;have aZ:=il a7;have HR:=il hs;have hlen:=jA hp;have q0:(xs.length:Int)<=500:=by omega
 have q1:(0:Int)<=(xs.length:Int):=by omega
 clear hP hp a7 hs;go_enter Tryz.func85,Tryz.ntmps85
 go_upto_region 1 with fail
 have bM:w.grownBy ((w.alloc (.cells #[.slice ao p.length J] 37)).alloc (.cells #[.int .i64 o.kind,.int .i64 o.thread,.int .i64 o.at_,.slice E xs.length y,.int .i64 Q,.int .i64 T,.int .i64 X,.int .i64 O,.slice P Y U] 31)) none:=ir (ir (iu _ _));have bw:((w.alloc (.cells #[.slice ao p.length J] 37)).alloc (.cells #[.int .i64 o.kind,.int .i64 o.thread,.int .i64 o.at_,.slice E xs.length y,.int .i64 Q,.int .i64 T,.int .i64 X,.int .i64 O,.slice P Y U] 31)).heap[w.heap.size]?=some (.cells #[.slice ao p.length J] 37 (0,0)):=by
  rw [Below.heap_alloc _ _ _ (by simp)];exact heap_alloc_new _ _
 have aH:((w.alloc (.cells #[.slice ao p.length J] 37)).alloc (.cells #[.int .i64 o.kind,.int .i64 o.thread,.int .i64 o.at_,.slice E xs.length y,.int .i64 Q,.int .i64 T,.int .i64 X,.int .i64 O,.slice P Y U] 31)).heap[w.heap.size+1]?=some (.cells #[.int .i64 o.kind,.int .i64 o.thread,.int .i64 o.at_,.slice E xs.length y,.int .i64 Q,.int .i64 T,.int .i64 X,.int .i64 O,.slice P Y U] 31 (0,0)):=by
  have:=heap_alloc_new (w.alloc (.cells #[.slice ao p.length J] 37)) (.cells #[.int .i64 o.kind,.int .i64 o.thread,.int .i64 o.at_,.slice E xs.length y,.int .i64 Q,.int .i64 T,.int .i64 X,.int .i64 O,.slice P Y U] 31);simpa using this
 have aQ:((w.alloc (.cells #[.slice ao p.length J] 37)).alloc (.cells #[.int .i64 o.kind,.int .i64 o.thread,.int .i64 o.at_,.slice E xs.length y,.int .i64 Q,.int .i64 T,.int .i64 X,.int .i64 O,.slice P Y U] 31)).heap.size=w.heap.size+2:=by simp
 generalize (w.alloc (.cells #[.slice ao p.length J] 37)).alloc (.cells #[.int .i64 o.kind,.int .i64 o.thread,.int .i64 o.at_,.slice E xs.length y,.int .i64 Q,.int .i64 T,.int .i64 X,.int .i64 O,.slice P Y U] 31)=w1 at*;have cE:=il bw;have cC:=il aH;have ad:=il bM;have r3:w1.cell? ⟨w.heap.size+1,3,none⟩=some (.slice E xs.length y):=by simp [World.cell?,aH]
 clear bw aH bM;go_upto_region 2 with (at_make;refine wpList_make_full _ rfl _ _ _ rfl w1.heap.size 165 i0 _ 2 Tryz.underlying161 b9 cs cB .i64 .i64 _ _ xs.length rfl rfl rfl rfl (by rw [cd];omega) (by unfold maxLen;omega) (by simp) ?_;intro V bk bE)
 have aG:V.heap[w1.heap.size]?=some (.cells (List.replicate (xs.length*2) (Value.int .i64 0)).toArray 165 (0,0)):=by
  rcases bk.2 with ⟨e,_⟩ | ⟨g',cap',cur,hv,_,hh,_,_,hcs,htk⟩
  ·cases e
  ·simp only [Value.slice.injEq,Option.some.injEq,Addr.mk.injEq,true_and,and_true]at hv;obtain⟨rfl,rfl⟩:=hv;rw [hh];have e1:cur.toList=List.replicate (xs.length*2) (Value.int .i64 0):=by
    rw [<-Bn];simp only [Value.cells]at htk;rw [<-htk,List.take_of_length_le (by simp;omega)]
   rw [<-e1]
 have aI:w1.heap.size<V.heap.size:=(Array.getElem?_eq_some_iff.1 aG).1;have ac:Hid (w1.grownBy V none):=bE;have aR:=il aG;rw [aQ]at aI aR;clear bk bE aG;have cm:= @run_makeMap Tryz.prog;have r4:V.cell? ⟨w.heap.size+1,3,none⟩=some (.slice E xs.length y):=iq ac.out _ _ r3;go_upto_region 4 with fail
 have H0:Hid (FG p xs w1 (V.alloc (.map #[] 0)) (w.heap.size+2) V.heap.size 0 0):=by
  refine⟨?_,?_,rfl,fun k hk=>?_,?_,ac.out.os,ac.out.tape,ac.out.output⟩
  ·rw [Below.heap_alloc _ _ _ aI];simpa [tl,nz,iS]using aR.out
  ·have e:jY p (tl (jb p) [] (xs.take 0))=fun _=>0:=by funext u;simp [tl,jY]
   rw [e];have:=HistAt.made V;simpa using this
  ·rw [Below.heap_alloc _ _ _ (by have:=ac.out.size;omega)];exact ac.out.block k hk (by simp)
  ·have:=ac.out.size;simp;omega
 obtain⟨W,bY⟩:∃ W,W=V.heap.size:=⟨_,rfl⟩;obtain⟨d,bv⟩:∃ d,d=w.heap.size+2:=⟨_,rfl⟩;have aB:Hid (d=w1.heap.size/\w1.heap.size=w.heap.size+2/\d<W):=⟨by omega,aQ,by omega⟩;rw [<-bY,<-bv]at H0 ⊢;clear bY bv cm aI aR aQ;go_wp2_with fail
 go_loopw [7,20] (fun hv iv w'=>∃ (i h:Nat),i<=xs.length/\iv= .int .i64 i/\hv= .int .i64 h/\Hid (FG p xs w1 w' d W i h)) (fun _ iv _=>xs.length - (intOf iv).toNat)
 case atStart=>exact⟨0,0,Nat.zero_le _,rfl,rfl,H0⟩
 case round=>
  clear H0 r3 r4;obtain⟨i,h,hi,rfl,rfl,l⟩:=hrel;obtain⟨c,bt⟩:∃ c,c=wr:=⟨_,rfl⟩;rw [<-bt]at l ⊢;clear bt;have au:Hid (∀ a v,w1.cell? a=some v->c.cell? a=some v):=fun a v hc=>by
   rw [World.cell?_of_block (l.out.gr a.block (World.block_lt_of_cell? w1 _ hc))];exact hc
  by_cases aj:i<xs.length
  ·have bG:=List.getElem_mem aj;obtain⟨ht,bD,cr⟩:=aZ.out.th _ bG;obtain⟨g,rfl,s0,s1⟩:=qA HR.out aZ.out.st aj;obtain⟨f,a4⟩:=Int.eq_ofNat_of_zero_le bD;have bW:f<(iP p xs[i].t).length:=by omega
   obtain⟨pg,po,ca,cc,K,L,rfl,rfl,m0,m1,m2,m3,m4⟩:=yt HP.out ht bW;have a3:=l9 HV.out ht (k:=(f:Int)) (by simpa using bW);obtain⟨bU,bh,bZ,bF⟩:=vK a3;obtain⟨bK,a6⟩:=yl (t:=xs[i].t) (i:=jw p xs[i].t f) (by omega) bh bF;have bI:Hid (nF p xs[i]=mW xs[i].t (jw p xs[i].t f)):=by unfold Hid nF;rw [a4]
   have ak:=il (Bz aZ.out aj);rw [bI.out]at ak;have cK:=il (ui (p:=p) aj);have a8:=cE.out;have aN:=cC.out;have S:∀ a v,w.cell? a=some v->c.cell? a=some v:=fun a v hc=>au.out _ _ (iq ad.out _ _ hc)
   have cJ:=S _ _ s0;have bC:=S _ _ s1;have bP:=S _ _ m0;have ba:=S _ _ m1;have br:=S _ _ m2;have bR:=S _ _ m3;have bu:=S _ _ m4;rw [a4]at bC;have n0:c.cell? ⟨w.heap.size,0,none⟩=some (.slice (some ⟨pg,po,none⟩) p.length J):=au.out _ _ (by simp [World.cell?,a8]);have n1:c.cell? ⟨w.heap.size+1,0,none⟩=some (.int .i64 o.kind):=au.out _ _ (by simp [World.cell?,aN]);have n3:c.cell? ⟨w.heap.size+1,3,none⟩=some (.slice (some ⟨g,0,none⟩) xs.length y):=au.out _ _ (by simp [World.cell?,aN]);have bb:=il (fun u:World=>BE xs[i].t (jw p xs[i].t f) u bU bZ);have HTB:Hid (xs[i].t<4):=by unfold Hid;omega
   have hcl:(iP p xs[i].t).length<=16:=kW (kg HV.out ht);clear s0 s1 m0 m1 m2 m3 m4 a3 a8 aN S bD cr bG bU bh bZ bF;generalize cD:jw p xs[i].t (f:Int)=ix at*;generalize cp:(iP p xs[i].t).length=cl at*;generalize ce:mW xs[i].t ix=us at*;generalize hxi:xs[i]=x at*;obtain⟨m,xk,xb⟩:=x;simp only at*;clear cD cp ce;have t0:(0:Int)<=(i:Int):=by omega
   have t1:(i:Int)<xs.length:=by omega
   have t2:(0:Int)<=(m:Int):=by omega
   have t3:(m:Int)<p.length:=by omega
   have t4:(0:Int)<=(f:Int):=by omega
   have t5:(f:Int)<cl:=by omega
   go_upto_region 7 with fail
   have hX:=heap_alloc_new c (.cells #[.int .i64 (m:Int),.int .i64 (f:Int)] 76);have Z:c.grownBy (c.alloc (.cells #[.int .i64 (m:Int),.int .i64 (f:Int)] 76)) none:=ir (iu _ _);have a1:(c.alloc (.cells #[.int .i64 (m:Int),.int .i64 (f:Int)] 76)).heap.size=c.heap.size+1:=by simp
   generalize c.alloc (.cells #[.int .i64 (m:Int),.int .i64 (f:Int)] 76)=w6 at*;have b0:w6.cell? ⟨c.heap.size,0,none⟩=some (.int .i64 (m:Int)):=by simp only [World.cell?,hX];rfl
   have b1:w6.cell? ⟨c.heap.size,1,none⟩=some (.int .i64 (f:Int)):=by simp only [World.cell?,hX];rfl
   have cu:=il hX;have cH:=il Z;have ck:=il a1;have bB:w6.drew.cell? ⟨c.heap.size,0,none⟩=some (.int .i64 (m:Int))/\w6.drew.cell? ⟨c.heap.size,1,none⟩=some (.int .i64 (f:Int))/\w6.drew.cell? ⟨w.heap.size,0,none⟩=some (.slice (some ⟨pg,po,none⟩) p.length J)/\w6.drew.cell? ⟨pg,po+m,none⟩=some (.slice (some ⟨K,L,none⟩) cl cc)/\w6.drew.cell? ⟨K,L+f*4,none⟩=some (.int .i64 ix.op)/\w6.drew.cell? ⟨K,L+f*4+1,none⟩=some (.int .i64 ix.a)/\w6.drew.cell? ⟨K,L+f*4+2,none⟩=some (.int .i64 ix.b)/\w6.drew.cell? ⟨K,L+f*4+3,none⟩=some (.int .i64 ix.n):=
    ⟨b0,b1,iq Z _ _ n0,iq Z _ _ bP,iq Z _ _ ba,iq Z _ _ br,iq Z _ _ bR,iq Z _ _ bu⟩
   clear hX a1 Z b0 b1;refine iA (fun u=>u.cell? ⟨c.heap.size,0,none⟩=some (.int .i64 (m:Int))/\u.cell? ⟨c.heap.size,1,none⟩=some (.int .i64 (f:Int))/\u.cell? ⟨w.heap.size,0,none⟩=some (.slice (some ⟨pg,po,none⟩) p.length J)/\u.cell? ⟨pg,po+m,none⟩=some (.slice (some ⟨K,L,none⟩) cl cc)/\u.cell? ⟨K,L+f*4,none⟩=some (.int .i64 ix.op)/\u.cell? ⟨K,L+f*4+1,none⟩=some (.int .i64 ix.a)/\u.cell? ⟨K,L+f*4+2,none⟩=some (.int .i64 ix.b)/\u.cell? ⟨K,L+f*4+3,none⟩=some (.int .i64 ix.n)) 13 (by kernel_rfl) (by kernel_rfl) bB ?_;intro j;refine ij 0 ?va0 rfl (by kernel_rfl) (fun _ _ _ h=>h) (by rfl) ?ya0 j ?_
   case ya0=>(rintro u ⟨C,F,I,A,B,D,H,G⟩;go_simp;try rfl)
   simp only [Act.put,List.setIfInBounds_toArray];refine ij 1 ?va1 rfl (by kernel_rfl) (fun _ _ _ h=>h) (by rfl) ?ya1 j ?_
   case ya1=>(rintro u ⟨C,F,I,A,B,D,H,G⟩;go_simp;try rfl)
   simp only [Act.put];refine ij 2 ?va2 rfl (by kernel_rfl) (fun _ _ _ h=>h) (by rfl) ?ya2 j ?_
   case ya2=>(rintro u ⟨C,F,I,A,B,D,H,G⟩;go_simp;try rfl)
   simp only [Act.put];refine ij 3 ?va3 rfl (by kernel_rfl) (fun _ _ _ h=>h) (by rfl) ?ya3 j ?_
   case ya3=>(rintro u ⟨C,F,I,A,B,D,H,G⟩;go_simp;try rfl)
   simp only [Act.put];refine ij 4 ?va4 rfl (by kernel_rfl) (fun _ _ _ h=>h) (by rfl) ?ya4 j ?_
   case ya4=>(rintro u ⟨C,F,I,A,B,D,H,G⟩;go_simp;try rfl)
   simp only [Act.put];refine ij 5 ?va5 rfl (by kernel_rfl) (fun _ _ _ h=>h) (by rfl) ?ya5 j ?_
   case ya5=>(rintro u ⟨C,F,I,A,B,D,H,G⟩;go_simp;try rfl)
   simp only [Act.put];refine ij 6 ?va6 rfl (by kernel_rfl) (fun _ _ _ h=>h) (by rfl) ?ya6 j ?_
   case ya6=>(rintro u ⟨C,F,I,A,B,D,H,G⟩;go_simp;try rfl)
   simp only [Act.put];refine ij 7 ?va7 rfl (by kernel_rfl) (fun _ _ _ h=>h) (by rfl) ?ya7 j ?_
   case ya7=>(rintro u ⟨C,F,I,A,B,D,H,G⟩;go_simp;try rfl)
   simp only [Act.put];refine ij 8 ?va8 rfl (by kernel_rfl) (fun _ _ _ h=>h) (by rfl) ?ya8 j ?_
   case ya8=>(rintro u ⟨C,F,I,A,B,D,H,G⟩;go_simp;try rfl)
   simp only [Act.put];refine ij 9 ?va9 rfl (by kernel_rfl) (fun _ _ _ h=>h) (by rfl) ?ya9 j ?_
   case ya9=>(rintro u ⟨C,F,I,A,B,D,H,G⟩;go_simp;try rfl)
   simp only [Act.put];refine ij 10 ?va10 rfl (by kernel_rfl) (fun _ _ _ h=>h) (by rfl) ?ya10 j ?_
   case ya10=>(rintro u ⟨C,F,I,A,B,D,H,G⟩;go_simp;try rfl)
   simp only [Act.put];refine ij 11 ?va11 rfl (by kernel_rfl) (fun _ _ _ h=>h) (by rfl) ?ya11 j ?_
   case ya11=>(rintro u ⟨C,F,I,A,B,D,H,G⟩;go_simp;try rfl)
   simp only [Act.put];refine iw (i:=12) rfl (by kernel_rfl) (by kernel_rfl) (by rfl) ?_;intro K12 bx;have bi:=il bx;clear bx;go_simp;refine(bb.out _).mono ?_;rintro e w7 ⟨uv,rfl,bL,r⟩;have bX:Hid (w6.grownBy w7 none):=⟨r.os,r.tape,r.output,r.size,r.block⟩;refine bi.out _ _ ⟨iq r _ _ j.1,iq r _ _ j.2.1,iq r _ _ j.2.2.1,iq r _ _ j.2.2.2.1,iq r _ _ j.2.2.2.2.1,iq r _ _ j.2.2.2.2.2.1,iq r _ _ j.2.2.2.2.2.2.1,iq r _ _ j.2.2.2.2.2.2.2⟩ ?_;clear bi r j bB bb;try simp only [Act.put,List.setIfInBounds_toArray]
   refine iI rfl (by kernel_rfl) (by kernel_rfl) (by rfl) ?_;go_simp;have a9:us.length<=10:=a6;have aw:=il bL;have az:Hid (c.grownBy w7 none):=ip cH.out bX.out;have aT:Hid (HistAt w7 W (i*10) (jY p (tl (jb p) [] (xs.take i)))):=l.out.his.kept az.out;have aM:∀ u,jY p (tl (jb p) [] (xs.take i)) u<=1000:=fun u=>by have:=Au p (xs.take i) u;simp at this;omega
   have b2:=il aM;have bA:=il bK;have hhi:h<=500:=by rw [l.out.hgh];have:=AB p (xs.take i);simp at this;omega
   have b8:Hid (jj (jb p) (tl (jb p) [] (xs.take i)) ⟨m,xk,xb⟩<=500):=by
    unfold Hid;have:=FE p (xs.take i) ⟨m,xk,xb⟩;simp at this;omega
   have cG:Hid (kK (jY p (tl (jb p) [] (xs.take i))) us 0<=1000):=qg _ aM us 0 (by omega);have bc:=iq az.out _ _ n1;have b3:=iq az.out _ _ n3;clear bL bK a6 aM n0 n1 n3 bP ba br bR bu cJ bC;obtain⟨ug,uc,cw⟩:∃ ug uc,uv= .slice (some ⟨ug,0,none⟩) us.length uc:=by
    obtain⟨ug,uc,e,_⟩:=aw.out;exact⟨ug,uc,e⟩
   subst cw;go_wp2_with fail
   refine(EA aT.out b2.out us bA.out _ aw.out a9).mono ?_;rintro e w8 ⟨rfl,ay⟩;have ax:=il ay;have k1:=iq ay _ _ bc;have k3:=iq ay _ _ b3;clear ay bc b3;generalize bT:jj (jb p) (tl (jb p) [] (xs.take i)) ⟨m,xk,xb⟩=lx at*;generalize cb:kK (jY p (tl (jb p) [] (xs.take i))) us 0=ah at*;have HLX:=il bT;have bd:=il l.out.hgh;rw [<-bd.out]at ak;have hah0:(ah:Int)<=1000:=by have:=cG.out;omega
   clear bT cb;go_upto_region 9 with fail
   obtain⟨bl,bq⟩:∃ bl:Bool,bl=decide (o.kind=1/\i+1=xs.length):=⟨_,rfl⟩;have ag:=il bq;clear bq;go_cut [52] (fun q w'=>q= .bool bl/\w'=w8)
   case first=>
    by_cases e1:i+1=xs.length
    ·have e3:(xs.length:Int) - 1=(i:Int):=by omega
     by_cases e2:o.kind=1
     ·have hb:bl=true:=by rw [ag.out];simp [e1,e2]
      rw [e2]at k1;go_wp2_with fail
      all_goals first | (go_meet;exact⟨by rw [hb],rfl⟩) | (exfalso;omega)
     ·have hb:bl=false:=by rw [ag.out];simp [e2]
      have hb2:(o.kind==1)=false:=by simpa using e2
      go_wp2_with fail
      all_goals first | (go_meet;exact⟨by rw [hb],rfl⟩) | (exfalso;omega)
    ·have hb:bl=false:=by rw [ag.out];simp [e1]
     have e3:(i:Int)<(xs.length:Int) - 1:=by omega
     have e4:((i:Int)==(xs.length:Int) - 1)=false:=by simp;omega
     go_wp2_with fail
     all_goals first | (go_meet;exact⟨by rw [hb],rfl⟩) | (exfalso;omega)
   case rest=>
   obtain⟨rfl,aW⟩:=hcut;have aO:=aW.symm;subst aO;go_upto_if 52 with fail
   go_cut [11] (fun q w'=>q= .int .i64 (lx:Int)/\w'=w8)
   case first=>
    cases bl with
    | true=>
     have hl:lx=h:=by rw [ak.out,if_pos (by have:=ag.out.symm;simpa using this)]
     go_wp2_with fail
     go_meet
     exact⟨by rw [hl],rfl⟩
    | false=>
     have hl:lx=ah:=by rw [ak.out,if_neg (by have:=ag.out.symm;simpa using this)]
     go_wp2_with fail
     go_meet
     exact⟨by rw [hl],rfl⟩
   case rest=>
   obtain⟨rfl,aW⟩:=hcut;have aO:=aW.symm;subst aO;clear ak ag;have cz:lx<=900:=by have:=b8.out;omega
   have hlx':(lx:Int)<=900:=by omega
   have hlx0:(0:Int)<=(lx:Int):=by omega
   have hh':(h:Int)<=500:=by omega
   have hh0:(0:Int)<=(h:Int):=by omega
   have b5:Hid (HistAt w8 W (i*10) (jY p (tl (jb p) [] (xs.take i)))):=aT.out.kept ax.out;have bz:Hid (UsesAt w8 (.slice (some ⟨ug,0,none⟩) us.length uc) us):=aw.out.grown ax.out;have M:Hid (c.grownBy w8 none):=ip az.out ax.out;go_wp2_with fail
   refine(EX b5.out b2.out (by omega) us bA.out _ bz.out a9 lx cz).mono ?_;rintro e s ⟨⟨rv9,rfl⟩,be,N⟩;have hgm5:W<c.heap.size:=l.out.his.lt;have a2:s.heap[c.heap.size]?=some (.cells #[.int .i64 (m:Int),.int .i64 (f:Int)] 76 (0,0)):=by
    have bN:=ip bX.out ax.out;have hs:=ck.out;rw [N.block _ (by have:=bN.size;omega) (by simp;omega),bN.block _ (by omega) (by simp)];exact cu.out
   have aa:s.heap[d]?=some (.cells (nz ((tl (jb p) [] (xs.take i)).map yr)++List.replicate ((xs.length - i)*2) (Value.int .i64 0)).toArray 165 (0,0)):=by
    have cF:=(Array.getElem?_eq_some_iff.1 l.out.row).1;rw [N.block _ (by have:=M.out.size;omega) (by have:=aB.out;simp;omega),M.out.block _ cF (by simp)];exact l.out.row
   have cA:=il aa;have y0:s.cell? ⟨c.heap.size,0,none⟩=some (.int .i64 (m:Int)):=by simp [World.cell?,a2]
   obtain⟨R,hR⟩:∃ R:List Value,R=nz ((tl (jb p) [] (xs.take i)).map yr)++List.replicate ((xs.length - i)*2) (Value.int .i64 0):=⟨_,rfl⟩;have aV:(nz ((tl (jb p) [] (xs.take i)).map yr)).length=i*2:=by
    rw [Ak,List.length_map,jB];simp;omega
   have ct:R.length=xs.length*2:=by rw [hR,List.length_append,aV,List.length_replicate];omega
   rw [<-hR]at aa;obtain⟨z0,hz0'⟩:∃ z,s.cell? ⟨d,i*2,none⟩=some z:=⟨R[i*2]'(by omega),by simp only [World.cell?,aa];simp⟩;obtain⟨z1,hz1'⟩:∃ z,(s.setCell ⟨d,i*2,none⟩ (.int .i64 (lx:Int))).cell? ⟨d,i*2+1,none⟩=some z:=by
    have ap:=heap_setCell_same s d (i*2) _ _ (.int .i64 (lx:Int)) aa;exact⟨_,by simp only [World.cell?,ap];exact Array.getElem?_eq_getElem (by simp;omega)⟩
   have fz0:s.frozen? ⟨d,i*2,none⟩=false:=by simp [World.frozen?,aa]
   have fz1:(s.setCell ⟨d,i*2,none⟩ (.int .i64 (lx:Int))).frozen? ⟨d,i*2+1,none⟩=false:=by
    have ap:=heap_setCell_same s d (i*2) _ _ (.int .i64 (lx:Int)) aa;simp [World.frozen?,ap]
   have ci:Hid (FG p xs w1 ((s.setCell ⟨d,i*2,none⟩ (.int .i64 (lx:Int))).setCell ⟨d,i*2+1,none⟩ (.int .i64 (m:Int))) d W (i+1) (max h (lx+1))):=by
    have aS:=cK.out;have af:s.grownBy ((s.setCell ⟨d,i*2,none⟩ (.int .i64 (lx:Int))).setCell ⟨d,i*2+1,none⟩ (.int .i64 (m:Int))) (some d):=ip pL pL;have a0:=aB.out;have hs5:=l.out.sz;refine⟨?_,?_,?_,fun k hk=>?_,?_,?_⟩
    ·have ap:=heap_setCell_same s d (i*2) _ _ (.int .i64 (lx:Int)) cA.out;have cq:=heap_setCell_same _ d (i*2+1) _ _ (.int .i64 (m:Int)) ap;rw [cq];simp only [List.setIfInBounds_toArray];rw [BS _ _ _ i xs.length aV aj,aS,List.map_append,List.map_cons,List.map_nil,yz];rfl
    ·have h9:=(be.keptRow af (by omega)).mono (n':=(i+1)*10) (by omega);have e:kZ (lx+1) us (jY p (tl (jb p) [] (xs.take i)))=jY p (tl (jb p) [] (xs.take (i+1))):=by
      funext u
      rw [qR,aS,rP,bI.out]
     rw [e]at h9;exact h9
    ·rw [aS,rN,<-bd.out]
    ·rw [af.block k (by have:=N.size;have:=M.out.size;omega) (by simp;omega),N.block k (by have:=M.out.size;omega) (by simp;omega),M.out.block k (by omega) (by simp)];exact l.out.gr k hk
    ·have h1:=af.size;have h2:=N.size;have h3:=M.out.size;omega
    ·exact⟨af.os.trans (N.os.trans (M.out.os.trans l.out.os.1)),af.tape.trans (N.tape.trans (M.out.tape.trans l.out.os.2.1)),af.output.trans (N.output.trans (M.out.output.trans l.out.os.2.2))⟩
   have hne:d≠c.heap.size:=by have:=(Array.getElem?_eq_some_iff.1 l.out.row).1;omega
   clear aa a2 hR ct aV be N b5 bz k1 k3 aT aw;go_wp2_with fail
   go_roundw
   case rel=>exact⟨i+1,max h (lx+1),by omega,by go_num,by congr 1;(repeat' split)<;>omega,ci⟩
   case measure=>simp [intOf];omega
  ·have t1:(xs.length:Int)<=(i:Int):=by omega
   have ei:i=xs.length:=by omega
   have cy:Hid (c.heap[d]?=some (.cells (nz (jy p xs)).toArray 165 (0,0))):=by
    have:=l.out.row;rw [ei,List.take_length,Nat.sub_self]at this;unfold Hid jy;simpa using this
   have cn:Hid (w.grownBy c none):=by
    have a0:=aB.out;refine⟨l.out.os.1.trans ad.out.os,l.out.os.2.1.trans ad.out.tape,l.out.os.2.2.trans ad.out.output,Nat.le_trans ad.out.size l.out.sz,fun k hk _=>?_⟩;rw [l.out.gr k (Nat.lt_of_lt_of_le hk ad.out.size)];exact ad.out.block k hk (by simp)
   have a0:w.heap.size<=d:=by have:=aB.out;omega
   go_wp2_with fail
   go_ret;exact⟨d,rfl,a0,cy.out,cn.out⟩
end
section
def oE(ks:List (Nat × Nat))(l t:Nat):List (Nat × Nat):=ks.filter fun k=>k.1==l && k.2==t
def kS(ks:List (Nat × Nat))(l t i:Nat):List (Nat × Nat):=jT l ks++((List.range t).flatMap (oE ks l)++oE (ks.take i) l t)
theorem zQ(ks:List (Nat × Nat)):kS ks 0 0 0=[]:=by simp [kS,jT,oE]
theorem At(a:List (Nat × Nat))(l t i:Nat)(b:i<a.length):kS a l t (i+1)=kS a l t i++(if a[i].1==l && a[i].2==t then [a[i]] else []):=by
 unfold kS oE;rw [List.take_succ_eq_append_getElem b,List.filter_append];simp only [List.append_assoc,List.filter_cons,List.filter_nil]
theorem wK(a:List (Nat × Nat))(l t i:Nat)(b:a.length<=i):kS a l t i=kS a l (t+1) 0:=by
 unfold kS;rw [List.take_of_length_le b,List.range_succ,List.flatMap_append];simp [oE]
theorem yX(a:List (Nat × Nat))(l:Nat):kS a l 4 0=kS a (l+1) 0 0:=by
 have e:jT (l+1) a=jT l a++(List.range 4).flatMap (oE a l):=by
  unfold jT;rw [List.range_succ (n:=l),List.flatMap_append];congr 1
  rw [List.flatMap_cons,List.flatMap_nil,List.append_nil];rfl
 unfold kS;rw [e];simp [oE]
theorem Cn(ks:List (Nat × Nat))(n:Nat):kS ks n 0 0=jT n ks:=by simp [kS,oE]
theorem xj(ks:List (Nat × Nat))(l t:Nat):(oE ks l t).length<=ks.length:=List.length_filter_le ..
theorem qC{f:Nat->List (Nat × Nat)}{m:Nat}(h:∀ l,(f l).length<=m):∀ n,((List.range n).flatMap f).length<=n*m
 | 0=>by simp
 | n+1=>by
  rw [List.range_succ,List.flatMap_append,List.length_append];have h1:=qC h n;have h2:=h n;have h3:(n+1)*m=n*m+m:=by rw [Nat.add_mul];omega
  simp only [List.flatMap_cons,List.flatMap_nil,List.append_nil];omega
theorem E0(a:List (Nat × Nat))(l t i:Nat)(c:l<=500)(d:t<=4)(b:a.length<=500):(kS a l t i).length<=2000000:=by
 unfold kS;rw [List.length_append,List.length_append];have h1:(jT l a).length<=l*(4*a.length):=by
  unfold jT;exact qC (fun _=>qC (fun _=>List.length_filter_le ..) 4) l
 have h2:((List.range t).flatMap (oE a l)).length<=t*a.length:=qC (fun _=>xj ..) t;have h3:(oE (a.take i) l t).length<=a.length:=Nat.le_trans (xj ..) (by simp;omega);have h4:l*(4*a.length)<=500*(4*500):=Nat.mul_le_mul c (by omega);have h5:t*a.length<=4*500:=Nat.mul_le_mul d b;omega
def nx(L:List (Nat × Nat)):List Int:=L.map fun x=>(x.2:Int)
theorem B4(a:List (Nat × Nat))(l t i:Nat)(b:i<a.length):nx (kS a l t (i+1))=if a[i].1==l && a[i].2==t then nx (kS a l t i)++[(t:Int)] else nx (kS a l t i):=by
 rw [At a l t i b];unfold nx;by_cases h:(a[i].1==l && a[i].2==t)=true
 ·rw [if_pos h,if_pos h,List.map_append];simp at h;simp [h.2]
 ·rw [if_neg h,if_neg h];simp
def kl(p:List (List Ins))(xs:List Ev)(i:Nat):List Nat:=(tl (jb p) [] (xs.take i)).map (·.2)
theorem pm(p:List (List Ins))(xs:List Ev)(i:Nat)(h:i<=xs.length):(kl p xs i).length=i:=by unfold kl;rw [List.length_map,jB];simp;omega
theorem yO(p:List (List Ins))(xs:List Ev)(i:Nat)(h:i<xs.length):kl p xs (i+1)=kl p xs i++[jj (jb p) ((tl (jb p) [] (xs.take i)).take i) xs[i]]:=by
 unfold kl;have e:(tl (jb p) [] (xs.take i)).take i=tl (jb p) [] (xs.take i):=List.take_of_length_le (by rw [jB];simp;omega);rw [ui h,List.map_append,e];rfl
theorem qV(p:List (List Ins))(xs:List Ev):(jy p xs).length=xs.length:=by unfold jy;rw [List.length_map,jB]
theorem Dt(p:List (List Ins))(xs:List Ev)(i:Nat)(h:i<xs.length):(jy p xs)[i]'(by rw [qV];exact h)=((kl p xs xs.length)[i]'(by rw [pm _ _ _ (Nat.le_refl _)];exact h),xs[i].t):=by
 have b:i<(tl (jb p) [] xs).length:=by rw [jB];exact h
 have a:((tl (jb p) [] xs)[i]'b).1=xs[i]:=by
  have c:=sT (jb p) [] xs;have d:((tl (jb p) [] xs).map (·.1))[i]'(by rw [c];exact h)=xs[i]:=by congr 1
  simpa using d
 simp [jy,kl,yr,a]
theorem DI(p:List (List Ins))(xs:List Ev)(i:Nat)(h:i<xs.length):(kl p xs xs.length)[i]'(by rw [pm _ _ _ (Nat.le_refl _)];exact h)<=xs.length:=by
 have a:i<(tl (jb p) [] xs).length:=by rw [jB];exact h
 have:=oN (jb p) xs [] 0 (by simp) i _ (List.getElem?_eq_getElem a);simp [kl];omega
end
section
open Go.RowKit
attribute [local go_sem] Go.World.cell?_alloc_some
theorem yK(W:World)(a b c:Obj):((W.alloc a).alloc b).drew.alloc c=Sort.grow (W.drewN 1) #[a,b,c]:=by
 have d:∀ (w:World) os,(Sort.grow w os).drew=Sort.grow w.drew os:=fun _ _=>rfl
 rw [Sort.alloc_eq_grow W a,Sort.alloc_eq_grow _ b,Sort.grow_grow,d,Sort.alloc_eq_grow _ c,Sort.grow_grow];rfl
def mM(x y:Int):Int:=if x<y then -1 else if y<x then 1 else 0
def orI(x y:Int):Int:=if x=0 then y else x
def Bg(x y:Int × Int):Int:=orI (mM x.1 y.1) (mM x.2 y.2)
theorem vg(x:Int)(w:World):Calls Tryz.prog 168 #[.int .i64 x] w fun e w'=>e= .returned (.bool false)/\w'=w:=by
 go_enter Tryz.func168,Tryz.ntmps168
 go_wp2
 go_ret;exact⟨rfl,rfl⟩
theorem pV(x y:Int)(w:World):Calls Tryz.prog 130 #[.int .i64 x,.int .i64 y] w fun e w'=>e= .returned (.int .i64 (mM x y))/\w'=w:=by
 by_cases b:x<y
 ·have a:Hid (mM x y= -1):=by unfold Hid mM;simp [b]
  go_enter Tryz.func130,Tryz.ntmps130
  go_wp2_with (go_at_call 168;refine(vg _ _).mono ?_;rintro e w' ⟨rfl,rfl⟩)
  go_ret;exact⟨by rw [a.out];rfl,rfl⟩
 ·by_cases c:y<x
  ·have a:Hid (mM x y=1):=by unfold Hid mM;simp [b,c]
   go_enter Tryz.func130,Tryz.ntmps130
   go_wp2_with (go_at_call 168;refine(vg _ _).mono ?_;rintro e w' ⟨rfl,rfl⟩)
   go_ret;exact⟨by rw [a.out];rfl,rfl⟩
  ·have a:Hid (mM x y=0):=by unfold Hid mM;simp [b,c]
   have h3:x<=y:=by omega
   have h4:y<=x:=by omega
   go_enter Tryz.func130,Tryz.ntmps130
   go_wp2_with (go_at_call 168;refine(vg _ _).mono ?_;rintro e w' ⟨rfl,rfl⟩)
   go_ret;exact⟨by rw [a.out];rfl,rfl⟩
theorem Ei(x y:Int)(g:Nat)(w:World)(j:w.cell? ⟨g,0,none⟩=some (.int .i64 x))(l:w.cell? ⟨g,1,none⟩=some (.int .i64 y)):
  Calls Tryz.prog 129 #[.slice (some ⟨g,0,none⟩) 2 2] w fun e w'=>e= .returned (.int .i64 (orI x y))/\w'=w:=by
 have HA:=il j;have HB:=il l;go_enter Tryz.func129,Tryz.ntmps129
 go_wp2_with fail
 go_loopw [8] (fun i w'=>∃ k:Nat,k<=2/\i= .int .i64 k/\Hid (w'=w)/\Hid ((0<k->x=0)/\(1<k->y=0))) (fun i _=>2 - (intOf i).toNat)
 case atStart=>exact⟨0,by omega,rfl,rfl,by omega,by omega⟩
 case round=>
  obtain⟨k,hk,rfl,f,b⟩:=hrel;obtain rfl:=f.out.symm;clear f;rcases(by omega:k=0\/k=1\/k=2)with rfl | rfl | rfl
  ·by_cases c:x=0
   ·subst c;go_wp2_with fail
    go_roundw
    case rel=>exact⟨1,by omega,by go_num,(by first | exact trivial | rfl),by unfold Hid;simp⟩
    case measure=>simp [intOf]
   ·have h:(x !=0)=true:=by simpa using c
    have a:Hid (orI x y=x):=by unfold Hid orI;rw [if_neg c]
    clear c;go_wp2_with fail
    go_ret;exact⟨by rw [a.out];rfl,rfl⟩
  ·have a:Hid (orI x y=y):=by unfold Hid orI;rw [if_pos (b.out.1 (by omega))]
   by_cases d:y=0
   ·subst d;have HX:=il (b.out.1 (by omega));go_wp2_with fail
    go_roundw
    case rel=>exact⟨2,by omega,by go_num,(by first | exact trivial | rfl),by unfold Hid;simp [HX.out]⟩
    case measure=>simp [intOf]
   ·have h:(y !=0)=true:=by simpa using d
    clear d;go_wp2_with fail
    go_ret;exact⟨by rw [a.out];rfl,rfl⟩
  ·have a:Hid (orI x y=0):=by unfold Hid orI;rw [if_pos (b.out.1 (by omega))];exact b.out.2 (by omega)
   go_wp2_with fail
   go_ret;exact⟨by rw [a.out];rfl,rfl⟩
theorem AP(x y:Int × Int)(W:World):
  Calls Tryz.prog 87 #[.agg #[.int .i64 x.1,.int .i64 x.2],.agg #[.int .i64 y.1,.int .i64 y.2]] W fun e w'=>e= .returned (.int .i64 (Bg x y))/\∃ q os',w'=Sort.grow (W.drewN q) os':=by
 go_enter Tryz.func87,Tryz.ntmps87
 go_upto_region 1 with fail
 have B:=il (heap_alloc_new W (.cells #[.int .i64 x.1,.int .i64 x.2] 165));have HB:=il (heap_alloc_new (W.alloc (.cells #[.int .i64 x.1,.int .i64 x.2] 165)) (.cells #[.int .i64 y.1,.int .i64 y.2] 165));have t:(W.alloc (.cells #[.int .i64 x.1,.int .i64 x.2] 165)).heap.size=W.heap.size+1:=by simp
 rw [t]at HB;have s:Hid (((W.alloc (.cells #[.int .i64 x.1,.int .i64 x.2] 165)).alloc (.cells #[.int .i64 y.1,.int .i64 y.2] 165)).heap[W.heap.size]?=some (.cells #[.int .i64 x.1,.int .i64 x.2] 165 (0,0))):=by
  unfold Hid;rw [Below.heap_alloc _ _ _ (by simp)];exact B.out
 have F:Hid (∀ c,∃ q os',((((W.alloc (.cells #[.int .i64 x.1,.int .i64 x.2] 165)).alloc (.cells #[.int .i64 y.1,.int .i64 y.2] 165)).drew).alloc c)=Sort.grow (W.drewN q) os'):=fun c=>by
  exact⟨1,_,yK _ _ _ _⟩
 have I:((W.alloc (.cells #[.int .i64 x.1,.int .i64 x.2] 165)).alloc (.cells #[.int .i64 y.1,.int .i64 y.2] 165)).drew.cell? ⟨W.heap.size,0,none⟩=some (.int .i64 x.1)/\((W.alloc (.cells #[.int .i64 x.1,.int .i64 x.2] 165)).alloc (.cells #[.int .i64 y.1,.int .i64 y.2] 165)).drew.cell? ⟨W.heap.size,1,none⟩=some (.int .i64 x.2)/\((W.alloc (.cells #[.int .i64 x.1,.int .i64 x.2] 165)).alloc (.cells #[.int .i64 y.1,.int .i64 y.2] 165)).drew.cell? ⟨W.heap.size+1,0,none⟩=some (.int .i64 y.1)/\((W.alloc (.cells #[.int .i64 x.1,.int .i64 x.2] 165)).alloc (.cells #[.int .i64 y.1,.int .i64 y.2] 165)).drew.cell? ⟨W.heap.size+1,1,none⟩=some (.int .i64 y.2):=by
  have v:((W.alloc (.cells #[.int .i64 x.1,.int .i64 x.2] 165)).alloc (.cells #[.int .i64 y.1,.int .i64 y.2] 165)).drew.heap[W.heap.size]?=some (.cells #[.int .i64 x.1,.int .i64 x.2] 165 (0,0)):=s.out;have r:((W.alloc (.cells #[.int .i64 x.1,.int .i64 x.2] 165)).alloc (.cells #[.int .i64 y.1,.int .i64 y.2] 165)).drew.heap[W.heap.size+1]?=some (.cells #[.int .i64 y.1,.int .i64 y.2] 165 (0,0)):=HB.out;refine⟨?_,?_,?_,?_⟩
  ·simp only [World.cell?,v];rfl
  ·simp only [World.cell?,v];rfl
  ·simp only [World.cell?,r];rfl
  ·simp only [World.cell?,r];rfl
 generalize ((W.alloc (.cells #[.int .i64 x.1,.int .i64 x.2] 165)).alloc (.cells #[.int .i64 y.1,.int .i64 y.2] 165))=w2 at*;have H:Hid ((w2.drew.alloc (.cells #[.int .i64 (mM x.1 y.1),.int .i64 (mM x.2 y.2)] 3)).cell? ⟨w2.heap.size,0,none⟩=some (.int .i64 (mM x.1 y.1))):=by
  have h:=heap_alloc_new w2.drew (.cells #[.int .i64 (mM x.1 y.1),.int .i64 (mM x.2 y.2)] 3);unfold Hid;have k:(w2.drew.alloc (.cells #[.int .i64 (mM x.1 y.1),.int .i64 (mM x.2 y.2)] 3)).heap[w2.heap.size]?=_:=h;simp only [World.cell?,k];rfl
 have D:Hid ((w2.drew.alloc (.cells #[.int .i64 (mM x.1 y.1),.int .i64 (mM x.2 y.2)] 3)).cell? ⟨w2.heap.size,1,none⟩=some (.int .i64 (mM x.2 y.2))):=by
  have h:=heap_alloc_new w2.drew (.cells #[.int .i64 (mM x.1 y.1),.int .i64 (mM x.2 y.2)] 3);unfold Hid;have k:(w2.drew.alloc (.cells #[.int .i64 (mM x.1 y.1),.int .i64 (mM x.2 y.2)] 3)).heap[w2.heap.size]?=_:=h;simp only [World.cell?,k];rfl
 clear B HB s t;refine iA (fun u=>u.cell? ⟨W.heap.size,0,none⟩=some (.int .i64 x.1)/\u.cell? ⟨W.heap.size,1,none⟩=some (.int .i64 x.2)/\u.cell? ⟨W.heap.size+1,0,none⟩=some (.int .i64 y.1)/\u.cell? ⟨W.heap.size+1,1,none⟩=some (.int .i64 y.2)) 12 (by kernel_rfl) (by kernel_rfl) I ?_;intro a;refine ij 0 ?va0 rfl (by kernel_rfl) (fun _ _ _ h=>h) (by rfl) ?ya0 a ?_
 case ya0=>(rintro u ⟨b,f,j,d⟩;go_simp;try rfl)
 simp only [Act.put,List.setIfInBounds_toArray];refine ij 1 ?va1 rfl (by kernel_rfl) (fun _ _ _ h=>h) (by rfl) ?ya1 a ?_
 case ya1=>(rintro u ⟨b,f,j,d⟩;go_simp;try rfl)
 simp only [Act.put];refine ij 2 ?va2 rfl (by kernel_rfl) (fun _ _ _ h=>h) (by rfl) ?ya2 a ?_
 case ya2=>(rintro u ⟨b,f,j,d⟩;go_simp;try rfl)
 simp only [Act.put];refine ij 3 ?va3 rfl (by kernel_rfl) (fun _ _ _ h=>h) (by rfl) ?ya3 a ?_
 case ya3=>(rintro u ⟨b,f,j,d⟩;go_simp;try rfl)
 simp only [Act.put];refine ij 5 ?va5 rfl (by kernel_rfl) (fun _ _ _ h=>h) (by rfl) ?ya5 a ?_
 case ya5=>(rintro u ⟨b,f,j,d⟩;go_simp;try rfl)
 simp only [Act.put];refine ij 6 ?va6 rfl (by kernel_rfl) (fun _ _ _ h=>h) (by rfl) ?ya6 a ?_
 case ya6=>(rintro u ⟨b,f,j,d⟩;go_simp;try rfl)
 simp only [Act.put];refine ij 7 ?va7 rfl (by kernel_rfl) (fun _ _ _ h=>h) (by rfl) ?ya7 a ?_
 case ya7=>(rintro u ⟨b,f,j,d⟩;go_simp;try rfl)
 simp only [Act.put];refine ij 8 ?va8 rfl (by kernel_rfl) (fun _ _ _ h=>h) (by rfl) ?ya8 a ?_
 case ya8=>(rintro u ⟨b,f,j,d⟩;go_simp;try rfl)
 simp only [Act.put];refine iw (i:=4) rfl (by kernel_rfl) (by kernel_rfl) (by rfl) ?_;intro K4 l;have p:=il l;clear l;go_simp;refine(pV x.1 y.1 _).mono ?_;rintro e w4 ⟨rfl,G⟩;obtain rfl:=G.symm;refine p.out _ _ a ?_;clear p;try simp only [Act.put,List.setIfInBounds_toArray]
 refine iw (i:=9) rfl (by kernel_rfl) (by kernel_rfl) (by rfl) ?_;intro K9 m;have A:=il m;clear m;go_simp;refine(pV x.2 y.2 _).mono ?_;rintro e w9 ⟨rfl,E⟩;obtain rfl:=E.symm;refine A.out _ _ a ?_;clear A;try simp only [Act.put,List.setIfInBounds_toArray]
 refine iw (i:=10) rfl (by kernel_rfl) (by kernel_rfl) (by rfl) ?_;intro Kpa w;have z:=il w;clear w;go_simp;refine z.out _ _ ⟨iq (ir (iu _ _)) _ _ a.1,iq (ir (iu _ _)) _ _ a.2.1,iq (ir (iu _ _)) _ _ a.2.2.1,iq (ir (iu _ _)) _ _ a.2.2.2⟩ ?_;clear z;try simp only [Act.put,List.setIfInBounds_toArray]
 refine iw (i:=11) rfl (by kernel_rfl) (by kernel_rfl) (by rfl) ?_;intro Kpb n;have o:=il n;clear n;go_simp;refine(Ei (mM x.1 y.1) (mM x.2 y.2) _ _ (H.out) (D.out)).mono ?_;rintro e wpb ⟨rfl,C⟩;obtain rfl:=C.symm;refine o.out _ _ ⟨iq (ir (iu _ _)) _ _ a.1,iq (ir (iu _ _)) _ _ a.2.1,iq (ir (iu _ _)) _ _ a.2.2.1,iq (ir (iu _ _)) _ _ a.2.2.2⟩ ?_;clear o;try simp only [Act.put,List.setIfInBounds_toArray]
 refine iI rfl (by kernel_rfl) (by kernel_rfl) (by rfl) ?_;go_simp;go_wp2_with fail
 go_ret;exact⟨rfl,F.out _⟩
end
section
open Go.RowKit
def pp(x:Int × Int):List Value:=[.int .i64 x.1,.int .i64 x.2]
theorem ltP(x y:Int × Int):ltOf Bg x y=decide (x.1<y.1\/(x.1=y.1/\x.2<y.2)):=by
 unfold ltOf Bg orI mM;rw [Bool.eq_iff_iff];simp only [decide_eq_true_eq];repeat' split
 all_goals omega
theorem Gj:Sort.SWO (ltOf Bg) where
 irrefl x:=by rw [ltP];simp
 trans x y z h1 h2:=by rw [ltP]at*;simp only [decide_eq_true_eq]at*;omega
 ntrans x y z h1 h2:=by rw [ltP]at*;simp only [decide_eq_false_iff_not]at*;omega
theorem vy{b:List (Nat × Nat)}{a:Array (Int × Int)}(A:Sort.PermIn 0 (b.map kJ).toArray.size (b.map kJ).toArray a)(z:Sort.SortedIn (ltOf Bg) 0 (b.map kJ).toArray.size a):a.toList=(nu b).map kJ:=by
 obtain⟨m,_,d⟩:=A;have v:a.size=b.length:=by rw [m];simp
 have f:a.toList.Perm (b.map kJ):=by
  have s:(a.extract 0 (b.map kJ).toArray.size).toList=a.toList:=by rw [Array.toList_extract];simp [List.extract];rw [List.take_of_length_le (by simp [v])]
  have l:((b.map kJ).toArray.extract 0 (b.map kJ).toArray.size).toList=b.map kJ:=by rw [Array.toList_extract];simp [List.extract];rw [List.take_of_length_le (by simp)]
  rw [s,l]at d;exact d
 have c:∀ x∈a.toList,kJ (x.1.toNat,x.2.toNat)=x:=fun x hx=>by
  obtain⟨q,_,rfl⟩:=List.mem_map.1 (f.mem_iff.1 hx);simp [kJ]
 have h:(a.toList.map fun x=>(x.1.toNat,x.2.toNat)).map kJ=a.toList:=by
  rw [List.map_map];conv=>rhs;rw [<-List.map_id a.toList]
  exact List.map_congr_left (fun x hx=>c x hx)
 have p:(a.toList.map fun x=>(x.1.toNat,x.2.toNat)).Perm b:=by
  have:=f.map (fun x:Int × Int=>(x.1.toNat,x.2.toNat));have e:(b.map kJ).map (fun x:Int × Int=>(x.1.toNat,x.2.toNat))=b:=by
   rw [List.map_map];conv=>rhs;rw [<-List.map_id b]
   exact List.map_congr_left (fun x _=>by simp [kJ])
  rw [e]at this;exact this
 have w:(a.toList.map fun x=>(x.1.toNat,x.2.toNat)).Pairwise leP:=by
  rw [List.pairwise_map,List.pairwise_iff_getElem];intro i j o r y;have k:i<a.size:=by simpa using o
  have n:j<a.size:=by simpa using r
  have:=z i j (Nat.zero_le _) y (by simp;omega);rw [ltP,getElem!_pos a i k,getElem!_pos a j n]at this;have t:=c a[i] (by simp);have u:=c a[j] (by simp);simp only [decide_eq_false_iff_not]at this;simp only [kJ,Prod.ext_iff]at t u;unfold leP;simp only [Array.getElem_toList];omega
 rw [ud p.symm w,h]
theorem pB{w0 w w':World}{g:Nat}(h:w0.grownBy w none)(hg:w.grownBy w' (some g))(hl:w0.heap.size<=g):w0.grownBy w' none:=
 ⟨hg.os.trans h.os,hg.tape.trans h.tape,hg.output.trans h.output,Nat.le_trans h.size hg.size,fun k hk _=>by
  rw [hg.block k (Nat.lt_of_lt_of_le hk h.size) (by simp;omega)];exact h.block k hk (by simp)⟩
theorem Fy(a:List (Nat × Nat))(g:Nat)(w:World)(p:w.heap[g]?=some (.cells (nz a).toArray 165 (0,0)))(hn:a.length<=1000000):
  Calls Tryz.prog 86 #[.slice (some ⟨g,0,none⟩) a.length a.length,.func (.func 87) #[] #[]] w fun e w'=>e= .returned (.tuple #[])/\(∀ j (d:j<(nu a).length),w'.cell? ⟨g,j*2,none⟩=some (.int .i64 ((nu a)[j].1:Int))/\w'.cell? ⟨g,j*2+1,none⟩=some (.int .i64 ((nu a)[j].2:Int)))/\w.grownBy w' (some g):=by
 have r:g<w.heap.size:=(Array.getElem?_eq_some_iff.1 p).1;have M:∀ args w,(callFunc 87 args).run Tryz.prog w= .ok (.enter 87 args) w:=enters_of Tryz.func87 (by kernel_rfl) rfl;have c:(a.map kJ).toArray.size=a.length:=by simp
 have B:Sort.HoldsK pp 2 w g 0 (a.map kJ).toArray:=by
  intro t E;rw [Sort.size_flatK,c]at E;rw [Sort.get_flatK _ _ _ _ (by rw [c];exact E)];refine⟨?_,by simp [World.frozen?,p]⟩;have d:t / 2<(a.map kJ).length:=by simp;omega
  have A:=tz (a.map kJ) (t / 2) d;have l:((a.map kJ).toArray)[t / 2]! =(a.map kJ)[t / 2]:=by rw [getElem!_pos _ _ (by simpa using d)];simp
  rw [l];simp only [World.cell?,p];unfold nz;rcases(by omega:t % 2=0\/t % 2=1)with h | h
  ·have m:0+t=t / 2*2:=by omega
   rw [h,m];simpa [pp]using A.1
  ·have m:0+t=t / 2*2+1:=by omega
   rw [h,m];simpa [pp]using A.2
 have q:=AnyQ.slices_SortFunc Tryz.srt 2 Tryz.isAgg165 Tryz.sizeOf165 pp (fun _=>rfl) (fun x v hv=>by simp [pp]at hv;rcases hv with rfl | rfl<;>rfl) Bg Gj 87 #[] g 0 a.length (a.map kJ).toArray w M (fun _ _ _ _ x y=>AP x y _) B r (by rw [c];omega);change Calls Tryz.prog 86 _ _ _ at q
 rw [c]at q;refine q.mono ?_;rintro e w' ⟨rfl,b,n,f,N,J,rfl⟩;have K:=vy (by rw [c];exact N) (by rw [c];exact J);have C:b.size=a.length:=by have:=congrArg List.length K;simpa [(mG a).length_eq]using this
 have F:Sort.HoldsK pp 2 (Sort.ahead w n) g 0 (a.map kJ).toArray:=B;have s:Sort.HoldsK pp 2 (Sort.putRowK pp 2 (Sort.ahead w n) g 0 b) g 0 b:=Sort.holdsK_putRowK pp 2 _ _ _ _ _ F (by rw [c,C]);have i:(Sort.putRowK pp 2 (Sort.ahead w n) g 0 b).heap.size=w.heap.size:=by unfold Sort.putRowK;rw [Sort.size_putRow];rfl
 refine⟨rfl,fun j d=>?_,?_⟩
 ·have z:j<b.size:=by rw [C,<-(mG a).length_eq];exact d
  have D:b[j]! =kJ (nu a)[j]:=by
   rw [getElem!_pos b j z];have l:b.toList[j]'(by simpa using z)=((nu a).map kJ)[j]'(by simpa using d):=by congr 1
   simpa using l
  have u:∀ o v,(Sort.putRowK pp 2 (Sort.ahead w n) g 0 b).cell? ⟨g,o,none⟩=some v->(sortWorldK pp 2 w g 0 n b f).cell? ⟨g,o,none⟩=some v:=fun o v hc=>by
   unfold sortWorldK;rw [World.cell?_of_block (w:=Sort.putRowK pp 2 (Sort.ahead w n) g 0 b) (by
    show ((Sort.putRowK pp 2 (Sort.ahead w n) g 0 b).heap++f)[g]?=_
    rw [Array.getElem?_append_left (by rw [i];exact r)])]
   exact hc
  have k0:=(s (j*2) (by rw [Sort.size_flatK];omega)).1;have k1:=(s (j*2+1) (by rw [Sort.size_flatK];omega)).1;rw [Sort.get_flatK _ _ _ _ (by omega)]at k0 k1;have I:j*2 / 2=j:=by omega
  have L:(j*2+1) / 2=j:=by omega
  have H:j*2 % 2=0:=by omega
  have G:(j*2+1) % 2=1:=by omega
  rw [I,H,D]at k0;rw [L,G,D]at k1;simp only [Nat.zero_add]at k0 k1;exact⟨u _ _ k0,u _ _ k1⟩
 ·refine⟨rfl,rfl,rfl,?_,fun k hk hne=>?_⟩
  ·show w.heap.size<=((Sort.putRowK pp 2 (Sort.ahead w n) g 0 b).heap++f).size
   rw [Array.size_append,i];omega
  ·show ((Sort.putRowK pp 2 (Sort.ahead w n) g 0 b).heap++f)[k]?=w.heap[k]?
   rw [Array.getElem?_append_left (by rw [i];exact hk)];show (w.heap.modify g _)[k]?=w.heap[k]?
   rw [Array.getElem?_modify,if_neg (fun e=>hne (by rw [e]))]
end
section
open Go.RowKit
attribute [local go_sem] Go.World.cell?_alloc_some
theorem qZ:((Tryz.prog.info? 3).map fun i=>(i.zero,i.size,i.bytes))=some (some (.int .i64 0),1,8):=by kernel_rfl
def oP(a:List Int):List Value:=a.map fun x=> .int .i64 x
theorem Ce(L:List Value)(x:Value)(i n:Nat)(b:L.length=i)(hi:i<n):(L++List.replicate (n - i) (Value.int .i64 0)).set i x=(L++[x])++List.replicate (n - (i+1)) (Value.int .i64 0):=by
 obtain⟨k,a⟩:∃ k,n - i=k+1/\n - (i+1)=k:=⟨n - (i+1),by omega,rfl⟩;rw [a.1,a.2,List.set_append,if_neg (by omega),b,Nat.sub_self,List.replicate_succ,List.set_cons_zero];simp
structure FD(fs:List Int)(W w':World)(gf i:Nat):Prop where
 row:w'.heap[gf]?=some (.cells (oP (fs.take i)++List.replicate (fs.length - i) (Value.int .i64 0)).toArray 3 (0,0))
 gr:W.grownBy w' (some gf)
theorem Aa{p:List (List Ins)}{o:Out}{xs:List Ev}(hp:iV p=true)(V:rx p o xs)(aq:xs.length<=500)(w:World)(pv:Value)(N:ProgAt w pv p)(base:Nat)(O:Option Addr)(I:Nat)
  (hs:w.ownsRow base 76 2 (.slice O xs.length I) xs.length (iS o.steps)) (v0 v1 v2 v3:Int) (ad:Option Addr) (gn P:Nat):
  Calls Tryz.prog 56 #[pv,.agg #[.int .i64 o.kind,.int .i64 o.thread,.int .i64 o.at_,.slice O xs.length I,.int .i64 v0,.int .i64 v1,.int .i64 v2,.int .i64 v3,.slice ad gn P]] w fun e w'=>∃ v,e= .returned v/\w'.ownsRow w.heap.size 3 1 v (lI p xs).length (oP (lI p xs))/\w.grownBy w' none:=by
 obtain⟨i0,aw,aO,aF,ay⟩:=info_parts qZ;obtain⟨ao,cap,rfl⟩:=N.form;have HP:=il N;have HV:=il hp;have aQ:=il V;have HR:=il hs;have t:=m9 p xs;have q0:(xs.length:Int)<=500:=by omega
 have q1:(0:Int)<=(xs.length:Int):=by omega
 clear N hp V hs;go_enter Tryz.func56,Tryz.ntmps56
 go_wp2_with fail
 have F:∀ a b,w.grownBy ((w.alloc a).alloc b) none:=fun a b=>ir (ir (iu _ _))
 refine(Dv HV.out aQ.out aq _ _ (HP.out.pres (iq (F _ _))) base O I (iK (iK HR.out)) v0 v1 v2 v3 ad gn P).mono ?_;rintro e M ⟨g,rfl,hg,K,Q⟩;have aJ:Hid (w.grownBy M none):=ip (F _ _) Q;have av:w.heap.size<=g:=by simp at hg;omega
 have J:(jy p xs).length=xs.length:=by unfold jy;rw [List.length_map,jB]
 have L:=il (Fy (jy p xs) g M K (by omega));rw [J]at L;have ae:g<M.heap.size:=(Array.getElem?_eq_some_iff.1 K).1;clear Q K hg F;go_wp2_with fail
 refine L.out.mono ?_;clear L;rintro e l ⟨rfl,W,y⟩;have hsl:(nu (jy p xs)).length=xs.length:=by rw [(mG _).length_eq,J]
 have X:Hid (lI p xs=(nu (jy p xs)).map fun x=>(x.2:Int)):=rfl;generalize nu (jy p xs)=qs at*;have A:=il W;have U:Hid (w.grownBy l none):=pB aJ.out y av;obtain⟨d,B⟩:∃ d,d=lI p xs:=⟨_,rfl⟩;rw [<-B]at X t;have az:=il B;clear B;have aC:g<l.heap.size:=Nat.lt_of_lt_of_le ae y.size;clear W y J;go_upto_region 4 with (at_make;refine wpList_make_full _ rfl _ _ _ rfl l.heap.size 3 i0 _ 1 Tryz.underlying39 aw aO aF .i64 .i64 _ _ xs.length rfl rfl rfl rfl (by rw [ay];omega) (by unfold maxLen;omega) (by simp) ?_;intro h Y s)
 have C:h.heap[l.heap.size]?=some (.cells (List.replicate xs.length (Value.int .i64 0)).toArray 3 (0,0)):=by
  rcases Y.2 with ⟨e,_⟩ | ⟨g',cap',cur,hv,_,hh,_,_,hcs,htk⟩
  ·cases e
  ·simp only [Value.slice.injEq,Option.some.injEq,Addr.mk.injEq,true_and,and_true]at hv;obtain⟨rfl,rfl⟩:=hv;rw [hh];have e1:cur.toList=List.replicate xs.length (Value.int .i64 0):=by
    have Z:(madeCells #[Value.int .i64 0] (xs.length*1)).toList=List.replicate (xs.length*1) (Value.int .i64 0):=by
     apply List.ext_getElem (by simp [madeCells]);intro i h1 h2;simp only [madeCells,Array.toList_map,List.getElem_map,List.getElem_replicate,Array.toList_range,List.getElem_range];simp [Nat.mod_one]
    rw [Nat.mul_one]at Z;rw [<-Z];simp only [Value.cells,Nat.mul_one]at htk hcs;rw [<-htk,List.take_of_length_le (by simp;omega)]
   rw [<-e1]
 have aD:Hid (∀ j (hj:j<qs.length),h.cell? ⟨g,j*2,none⟩=some (.int .i64 (qs[j].1:Int))/\h.cell? ⟨g,j*2+1,none⟩=some (.int .i64 (qs[j].2:Int))):=fun j hj=>⟨iq s _ _ (A.out j hj).1,iq s _ _ (A.out j hj).2⟩
 have aM:Hid (w.grownBy h none):=ip U.out s;have E:Hid (FD d h h l.heap.size 0):=⟨by simpa [oP,t]using C,iu _ _⟩;obtain⟨c,G⟩:∃ c,c=l.heap.size:=⟨_,rfl⟩;have hgf3:c<h.heap.size:=by rw [G];exact(Array.getElem?_eq_some_iff.1 C).1
 have aH:g≠c:=by omega
 have aa:w.heap.size<=c:=by have:=U.out.size;omega
 have au:g<h.heap.size:=by omega
 rw [<-G]at E ⊢;clear Y s C A G ae aC;go_wp2_with fail
 go_loopw [19] (fun iv w'=>∃ i:Nat,i<=xs.length/\iv= .int .i64 i/\Hid (FD d h w' c i)) (fun iv _=>xs.length - (intOf iv).toNat)
 case atStart=>exact⟨0,Nat.zero_le _,rfl,E⟩
 case round=>
  clear E;obtain⟨i,hi,rfl,k⟩:=hrel;obtain⟨f,am⟩:∃ f,f=wr:=⟨_,rfl⟩;rw [<-am]at k ⊢;clear am;by_cases hlt:i<xs.length
  ·have aE:i<qs.length:=by omega
   obtain⟨c0,c1⟩:=aD.out i aE;have H:=k.out.gr.block g au (by simpa using aH);have d0:f.cell? ⟨g,i*2,none⟩=some (.int .i64 (qs[i].1:Int)):=by rw [World.cell?_of_block H];exact c0
   have d1:f.cell? ⟨g,i*2+1,none⟩=some (.int .i64 (qs[i].2:Int)):=by rw [World.cell?_of_block H];exact c1
   have ag:i<d.length:=by omega
   have S:Hid (d.take (i+1)=d.take i++[(qs[i].2:Int)]):=by
    unfold Hid;rw [List.take_succ_eq_append_getElem ag];congr 2
    simp [X.out]
   have hs5:h.heap.size<=f.heap.size:=k.out.gr.size;obtain⟨R,r⟩:∃ R:List Value,R=oP (d.take i)++List.replicate (d.length - i) (Value.int .i64 0):=⟨_,rfl⟩;have ar:R.length=d.length:=by rw [r];simp [oP];omega
   have D:=k.out.row;rw [<-r]at D;clear c0 c1 H;generalize qs[i]=q at*;obtain⟨n,m⟩:=q;simp only at d0 d1 S;have u:(f.alloc (.cells #[.int .i64 (n:Int),.int .i64 (m:Int)] 165)).heap[c]?=some (.cells R.toArray 3 (0,0)):=by
    rw [Below.heap_alloc _ _ _ (by omega)];exact D
   have z0:∃ z,(f.alloc (.cells #[.int .i64 (n:Int),.int .i64 (m:Int)] 165)).cell? ⟨c,i,none⟩=some z:=⟨R[i]'(by omega),by simp only [World.cell?,u];simp⟩;obtain⟨z,z0⟩:=z0;have fz0:(f.alloc (.cells #[.int .i64 (n:Int),.int .i64 (m:Int)] 165)).frozen? ⟨c,i,none⟩=false:=by simp [World.frozen?,u]
   have aP:Hid (FD d h ((f.alloc (.cells #[.int .i64 (n:Int),.int .i64 (m:Int)] 165)).setCell ⟨c,i,none⟩ (.int .i64 (m:Int))) c (i+1)):=by
    refine⟨?_,ip k.out.gr (ip (ir (iu _ _)) pL)⟩;rw [heap_setCell_same _ c i _ _ _ u,S.out];simp only [List.setIfInBounds_toArray];rw [r,Ce _ _ i d.length (by simp [oP];omega) ag];simp [oP]
   have t0:(0:Int)<=(i:Int):=by omega
   have t1:(i:Int)<xs.length:=by omega
   have hne5:c≠f.heap.size:=by omega
   have hne6:f.heap.size≠c:=by omega
   clear D u r ar;go_wp2_with fail
   go_roundw
   case rel=>exact⟨i+1,by omega,by go_num,aP⟩
   case measure=>simp [intOf];omega
  ·have t1:(xs.length:Int)<=(i:Int):=by omega
   have ei:i=xs.length:=by omega
   have T:Hid (f.ownsRow w.heap.size 3 1 (.slice (some ⟨c,0,none⟩) xs.length xs.length) d.length (oP d)/\w.grownBy f none):=by
    have hr:=k.out.row;rw [List.take_of_length_le (by omega),show d.length - i=0 by omega]at hr;refine⟨⟨by simp [oP],Or.inr ⟨c,xs.length,_,by rw [t],aa,hr,by omega,by unfold maxLen;omega,by simp [oP,t],?_⟩⟩,pB aM.out k.out.gr aa⟩;simp [oP];rw [List.take_of_length_le (by simp)]
   go_wp2_with fail
   go_ret;refine⟨.slice (some ⟨c,0,none⟩) xs.length xs.length,rfl,?_,T.out.2⟩;rw [<-az.out];exact T.out.1
theorem oS{w w':World}(h:w.drew.grownBy w' none):w.grownBy w' none:=⟨h.os,h.tape,h.output,h.size,h.block⟩
theorem nT(p:List (List Ins))(l:List Int):(iJ p l).steps.length<=l.length:=by
 obtain⟨m,h1,h2,a,_⟩:=ow p l 0 St.zero [];unfold iJ;simp at a;omega
theorem yS{p:List (List Ins)}{s:List Int}(b:iD p s=0):iV p=true/\s.length<=500:=by
 unfold iD at b;by_cases a:iV p=true
 ·by_cases c:s.length<=500
  ·exact⟨a,c⟩
  ·simp [a,c]at b
 ·simp [a]at b
theorem oK{p:List (List Ins)}(f:iV p=true)(s:List Int)(h5:s.length<=500){base:Nat}{u:World}{rv:Value}(h:Cz base u (iJ p s) p.length rv)(w:World)(l:u.grownBy w none)(pv:Value)(j:ProgAt w pv p):
  Calls Tryz.prog 56 #[pv,rv] w fun e w'=>∃ v,e= .returned v/\w'.ownsRow w.heap.size 3 1 v (kx p (iJ p s)).length (iM (kx p (iJ p s)))/\w.grownBy w' none:=by
 obtain⟨xs,c⟩:=nS f s;obtain⟨sv,gv,rfl,b,q⟩:=h;obtain⟨x1,x2,x3,rfl⟩:=iy b;obtain⟨n,i,k,rfl⟩:=iy q;have m:(iJ p s).steps.length=xs.length:=by rw [c.st];simp
 have o:=iC b;subst o;have hle:=nT p s;have d:=iE b l (fun _ e=>by cases e);rw [m]at d ⊢;have:=Aa f c (by omega) w pv j base x1 x3 d ((iJ p s).st.vars 0) ((iJ p s).st.vars 1) ((iJ p s).st.vars 2) ((iJ p s).st.vars 3) n i k;unfold kx;rw [c.ev];exact this
def Formd(p:List (List Ins))(s:List Int)(w:World)(e:Ending)(w':World):Prop:=
 w.grownBy w' none/\
 ((iD p s=0/\∃ v,e= .returned (.tuple #[v,.int .i64 0])/\w'.ownsRow w.heap.size 3 1 v (kx p (iJ p s)).length (iM (kx p (iJ p s))))\/
  (iD p s≠0/\e= .returned (.tuple #[.slice none 0 0,.int .i64 (iD p s)])))
theorem FL(p:List (List Ins))(s:List Int)(pv sv:Value)(w:World)(R:ShpAt w)(C:ProgAt w pv p)(r:IntsAt w.heap.size w sv s):
  Calls Tryz.prog 28 #[pv,sv] w (Formd p s w):=by
 have ab:=il R;have o:=il C;have HI:=il r;obtain⟨f,d,rfl⟩:=C.form;obtain⟨so,sc,rfl⟩:=r.form;clear R C r;go_enter Tryz.func28,Tryz.ntmps28
 go_wp2_with fail
 have D:∀ a b,w.grownBy ((w.alloc a).alloc b) none:=fun a b=>ir (ir (iu _ _))
 refine(og p [s] _ _ _ (ab.out.pres (iq (D _ _))) (o.out.pres (iq (D _ _))) (rs (by simp)) (by simp)).mono ?_;rw [nI];rintro e j ⟨rfl,l⟩;have x:Hid (w.grownBy j none):=ip (D _ _) l;have U:j.heap[w.heap.size]?=some (.cells #[.slice f p.length d] 37 (0,0)):=by
  rw [l.block w.heap.size (by simp;omega) (by simp),Below.heap_alloc _ _ _ (by simp)];exact heap_alloc_new w _
 have c0:j.cell? ⟨w.heap.size,0,none⟩=some (.slice f p.length d):=by simp [World.cell?,U]
 clear U l;by_cases c:iD p s=0
 ·have B:=il c;obtain⟨X,O⟩:=yS c;have t:=il X;rw [c];clear c X;go_wp2_with fail
  refine iA (fun u=>u.cell? ⟨w.heap.size,0,none⟩=some (.slice f p.length d)) 7 (by kernel_rfl) (by kernel_rfl) c0 ?_;intro y;refine ij 0 ?va0 rfl (by kernel_rfl) (fun _ _ _ h=>h) (by rfl) ?ya0 y ?_
  case ya0=>(intro u z;go_simp;try rfl)
  simp only [Act.put,List.setIfInBounds_toArray];refine ij 1 ?va1 rfl (by kernel_rfl) (fun _ _ _ h=>h) (by rfl) ?ya1 y ?_
  case ya1=>(intro u z;go_simp;try rfl)
  simp only [Act.put];refine ij 3 ?va3 rfl (by kernel_rfl) (fun _ _ _ h=>h) (by rfl) ?ya3 y ?_
  case ya3=>(intro u z;go_simp;try rfl)
  simp only [Act.put];refine iw (i:=2) rfl (by kernel_rfl) (by kernel_rfl) (by rfl) ?_;intro K2 aa;have Y:=il aa;clear aa;go_simp;refine(zC t.out (o.out.pres (iq (iz x.out)))).mono ?_;rintro e n ⟨m,rfl,P,L⟩;have HM:=il P;have V:Hid (j.grownBy n none):=oS L;have G:Hid (w.grownBy n none):=ip x.out V.out;have T:n.cell? ⟨w.heap.size,0,none⟩=some (.slice f p.length d):=iq V.out _ _ c0;refine Y.out _ _ T ?_;clear Y P L;try simp only [Act.put,List.setIfInBounds_toArray]
  refine iw (i:=4) rfl (by kernel_rfl) (by kernel_rfl) (by rfl) ?_;intro K4 I;have N:=il I;clear I;go_simp;refine(ur t.out HM.out (Nat.le_refl _) ((HI.out.pres (iq G.out)).mono G.out.size) O).mono ?_;rintro e F ⟨rv,rfl,M,q⟩;have HR:=il M;have A:Hid (w.grownBy F none):=ip G.out q;have S:F.cell? ⟨w.heap.size,0,none⟩=some (.slice f p.length d):=iq q _ _ T;refine N.out _ _ S ?_;clear N M q;try simp only [Act.put,List.setIfInBounds_toArray]
  refine iw (i:=5) rfl (by kernel_rfl) (by kernel_rfl) (by rfl) ?_;intro K5 J;have W:=il J;clear J;go_simp;refine(oK t.out s O HR.out F (iu _ _) _ (o.out.pres (iq A.out))).mono ?_;rintro e Z ⟨fv,rfl,E,k⟩;obtain⟨f1,f2,f3,rfl⟩:=iy E;have HF:=il E;have ac:Hid (w.grownBy Z none):=ip A.out k;have Q:Z.cell? ⟨w.heap.size,0,none⟩=some (.slice f p.length d):=iq k _ _ S;refine W.out _ _ Q ?_;clear W E k;try simp only [Act.put,List.setIfInBounds_toArray]
  refine ij 6 ?vb6 rfl (by kernel_rfl) (fun _ _ _ h=>h) (by rfl) ?yb6 Q ?_
  case yb6=>(intro u z;go_simp;try rfl)
  simp only [Act.put,List.setIfInBounds_toArray];refine iI rfl (by kernel_rfl) (by kernel_rfl) (by rfl) ?_;go_simp;go_wp2_with fail
  exact bodyPost_ret (v:= .tuple #[.slice f1 f2 f3,.int .i64 0]) (by simp [results,Tryz.results28,go_sem]) rfl ⟨ac.out,Or.inl ⟨B.out,_,rfl,iR HF.out A.out.size⟩⟩
 ·have B:=il c;have hne:(iD p s !=0)=true:=by simpa using c
  clear c;generalize H:iD p s=e at*;have K:=il H;clear H;go_wp2_with fail
  exact bodyPost_ret (v:= .tuple #[.slice none 0 0,.int .i64 e]) (by simp [results,Tryz.results28,go_sem]) rfl ⟨x.out,Or.inr ⟨by rw [K.out];exact B.out,by rw [K.out]⟩⟩
theorem zA(w:World):ju w w:=⟨rfl,rfl,rfl,rfl⟩
theorem vp{w' w:World}(h:ju w' w)(n:Nat):ju (w'.drewN n) w:=by
 obtain⟨a,b,c,d⟩:=h;exact⟨a,b,c,d⟩
theorem BH(l m:List Int)(v u:Value)(w:World)(K:IntsAt w.heap.size w v l)(C:IntsAt w.heap.size w u m)(hln:l.length<=9223372036854775806):
  Calls Tryz.prog 60 #[v,u] w fun e w'=>e= .returned (.bool (l==m))/\ju w' w:=by
 obtain⟨ao,cap,rfl,hcap,hc⟩:=K;obtain⟨bo,dap,rfl,hdap,p⟩:=C;by_cases h:l.length=m.length
 ·have G:=il hc;have B:=il p;clear hc p;have D:(l.length:Int)=m.length:=by omega
  have I:((l.length:Int) !=(m.length:Int))=false:=by simp;omega
  have z:=il h;go_enter Tryz.func60,Tryz.ntmps60
  clear h D;go_wp2_with fail
  go_loopw [13] (fun i w'=>∃ k:Nat,k<=l.length/\i= .int .i64 k/\Hid (ju w' w)/\Hid (l.take k=m.take k)) (fun i _=>l.length - (intOf i).toNat)
  case atStart=>exact⟨0,Nat.zero_le _,rfl,il (zA _),by simp [Hid]⟩
  case round=>
   obtain⟨k,hk,rfl,f,A⟩:=hrel;obtain⟨d,F⟩:∃ d,d=wr:=⟨_,rfl⟩;subst F;by_cases t:k<l.length
   ·have s:k<m.length:=by have:=z.out;omega
    obtain⟨g,o,rfl,_,c0⟩:=G.out k t;obtain⟨g2,H,rfl,_,c1⟩:=B.out k s;have q:∀ a,d.cell? a=w.cell? a:=fun a=>by simp [World.cell?,f.out.1]
    have d0:d.cell? ⟨g,o+k,none⟩=some (.int .i64 l[k]):=by rw [q];exact c0
    have d1:d.cell? ⟨g2,H+k,none⟩=some (.int .i64 m[k]):=by rw [q];exact c1
    have hk0:(0:Int)<=(k:Int):=by omega
    have hk1:(k:Int)<l.length:=by omega
    have hk2:(k:Int)<m.length:=by omega
    have n:Hid (l.take (k+1)=l.take k++[l[k]]):=List.take_succ_eq_append_getElem t;have j:Hid (m.take (k+1)=m.take k++[m[k]]):=List.take_succ_eq_append_getElem s;clear q c0 c1;by_cases b:l[k]=m[k]
    ·have E:(l[k] !=m[k])=false:=by simpa using b
     have J:Hid (l.take (k+1)=m.take (k+1)):=by unfold Hid;rw [n.out,j.out,A.out,b]
     clear b n j;generalize l[k]=x at*;generalize m[k]=y at*;go_wp2_with fail
     go_quiet (fail)
     go_wp2_with fail
     go_roundw
     case rel=>exact⟨k+1,by omega,by go_num,il (vp f.out _),J⟩
     case measure=>simp [intOf];omega
    ·have E:(l[k] !=m[k])=true:=by simpa using b
     have c:Hid ((l==m)=false):=by
      unfold Hid;simp only [beq_eq_false_iff_ne];intro e;apply b;simp [e]
     clear b n j;generalize l[k]=x at*;generalize m[k]=y at*;go_wp2_with fail
     go_quiet (fail)
     go_wp2_with fail
     go_ret;exact⟨by rw [c.out];rfl,vp f.out _⟩
   ·have c:Hid ((l==m)=true):=by
     unfold Hid;have r:=A.out;rw [List.take_of_length_le (by omega),List.take_of_length_le (by have:=z.out;omega)]at r;simpa using r
    have q2:(l.length:Int)<=(k:Int):=by omega
    go_wp2_with fail
    go_ret;exact⟨by rw [c.out];rfl,f.out⟩
 ·have c:Hid ((l==m)=false):=by
   unfold Hid;simp only [beq_eq_false_iff_ne];intro e;exact h (by rw [e])
  have I:((l.length:Int) !=(m.length:Int))=true:=by simp;omega
  clear hc p;go_enter Tryz.func60,Tryz.ntmps60
  go_wp2_with fail
  go_ret;exact⟨by rw [c.out];rfl,zA _⟩
end
end Go.Proofs.YtklenjmfalljgabGreatDoor
