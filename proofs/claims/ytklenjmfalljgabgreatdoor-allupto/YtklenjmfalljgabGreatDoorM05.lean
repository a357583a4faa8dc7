/- The texts Fhd Frt Fhe Fhf Fhg Fhh. -/
import Derived.Test.YtklenjmfalljgabGreatDoorM02
import Derived.Test.YtklenjmfalljgabGreatDoorM04
import Derived.Sort.Grow
import Derived.Deep.Draws
import Derived.Test.YtklenjmfalljgabGreatDoorSrt
namespace Go.Proofs.YtklenjmfalljgabGreatDoor
set_option maxRecDepth 100000
set_option maxHeartbeats 8000000
section
open Go.RowKit Go.Maps
attribute [local go_sem] Go.World.cell?_alloc_some
theorem rL{i:Ins}{len:Int}(h:vIns i len=true):0<=i.a/\i.a<4/\0<=i.b/\i.b<4:=by
 obtain⟨h1,h2⟩:=rN h;obtain⟨c,d,f⟩:=pn h;have hc:i.op=1\/i.op=2\/i.op=3\/i.op=4\/i.op=5\/i.op=6\/i.op=7\/i.op=8\/i.op=9\/i.op=10\/i.op=11:=by omega
 rcases hc with e | e | e | e | e | e | e | e | e | e | e<;>rw [e]at c d f<;>simp [shp,fitsB,belowB]at c d f<;>omega
theorem uE{t:Nat}{i:Ins}(ht:t<4)(ha:i.a<4)(hb:i.b<4):(∀ u∈usesI t i,smallU u)/\(usesI t i).length<=10:=by
 unfold usesI smallU;by_cases e:i.op=9\/i.op=10
 ·simp [e];omega
 ·by_cases c:i.op=2
  ·simp [c];omega
  ·by_cases d:i.op=3
   ·simp [d];omega
   ·simp [e,c,d];omega
def pairI(q:Nat × Nat):Int × Int:=((q.1:Int),(q.2:Int))
def flatK(ks:List (Nat × Nat)):List Value:=flatS (ks.map pairI)
theorem vR(a:List (Nat × Nat)):(flatK a).length=a.length*2:=by
 induction a with
 | nil=>rfl
 | cons x r ih=>simp only [flatK,flatS,List.map_cons,List.flatMap_cons,List.length_append]at*;simp at*;omega
theorem tP(a:List (Nat × Nat))(q:Nat × Nat):flatK (a++[q])=flatK a++[.int .i64 (q.1:Int),.int .i64 (q.2:Int)]:=by
 unfold flatK;rw [List.map_append,List.map_cons,List.map_nil,kE];rfl
theorem yU(L:List Value)(x y:Value)(i n:Nat)(b:L.length=i*2)(hi:i<n):((L++List.replicate ((n - i)*2) (Value.int .i64 0)).set (i*2) x).set (i*2+1) y=(L++[x,y])++List.replicate ((n - (i+1))*2) (Value.int .i64 0):=by
 obtain⟨k,a⟩:∃ k,(n - i)*2=k+2/\(n - (i+1))*2=k:=⟨(n - (i+1))*2,by omega,rfl⟩;rw [a.1,a.2,List.set_append,if_neg (by omega),b,Nat.sub_self,List.replicate_succ,List.set_cons_zero,List.set_append,if_neg (by omega),b];have e:i*2+1 - i*2=1:=by omega
 rw [e,List.replicate_succ];simp
theorem sw:((Tryz.prog.info? 165).map fun i=>(i.zero,i.size,i.bytes))=some (some (.agg #[.int .i64 0,.int .i64 0]),2,16):=by kernel_rfl
theorem yE(n:Nat):(madeCells #[Value.int .i64 0,.int .i64 0] n).toList=List.replicate n (.int .i64 0):=by
 apply List.ext_getElem (by simp [madeCells]);intro i h1 a;simp only [madeCells,Array.toList_map,List.getElem_map,List.getElem_replicate];have:i<n:=by simpa using a
 simp only [Array.toList_range,List.getElem_range];rcases(by omega:i % 2=0\/i % 2=1)with h | h<;>simp [h]
theorem oE:∀ (l:List (Int × Int)) (j:Nat) (hj:j<l.length),(flatS l)[j*2]?=some (.int .i64 l[j].1)/\(flatS l)[j*2+1]?=some (.int .i64 l[j].2)
 | [],j,hj=>by simp at hj
 | x::l,0,hj=>by simp [flatS]
 | x::l,j+1,hj=>by
  have h:=oE l j (by simpa using hj);have e:flatS (x::l)=[.int .i64 x.1,.int .i64 x.2]++flatS l:=by simp [flatS]
  have e2:∀ q,(flatS (x::l))[(j+1)*2+q]?=(flatS l)[j*2+q]?:=fun q=>by
   rw [e,List.getElem?_append_right (by simp;omega)];congr 1
   simp;omega
  refine⟨?_,?_⟩
  ·have:=e2 0;simp only [Nat.add_zero]at this;rw [this];simpa using h.1
  ·rw [e2 1];simpa using h.2
theorem mV{w:World}{base:Nat}{a:Option Addr}{c:Nat}{xs:List Ev}{o:Out}(h:w.ownsRow base 76 2 (.slice a xs.length c) xs.length (flatS o.steps))(b:o.steps=xs.map Ev.pr){j:Nat}(f:j<xs.length):
  ∃ g,a=some ⟨g,0,none⟩/\w.cell? ⟨g,j*2,none⟩=some (.int .i64 (xs[j].t:Int))/\w.cell? ⟨g,j*2+1,none⟩=some (.int .i64 xs[j].k):=by
 rcases h.2 with ⟨_,e⟩ | ⟨g,cap,_,e,_⟩
 ·omega
 ·simp only [Value.slice.injEq,true_and]at e;obtain⟨rfl,rfl⟩:=e;have i:j<o.steps.length:=by rw [b];simpa using f
  have q:=oE o.steps j i;have d:o.steps[j]=xs[j].pr:=by simp [b]
  rw [d]at q;exact⟨g,rfl,by rw [h.cellAt _ (by omega)];exact q.1,by rw [h.cellAt _ (by omega)];exact q.2⟩
theorem tY{w:World}{c:Option Addr}{l:Nat}{p:List (List Ins)}(u:ProgAt w (.agg #[.slice c p.length l]) p){t:Nat}(j:t<p.length){k:Nat}(i:k<(codeOf p t).length):
  ∃ g o ca cc cg co,c=some ⟨g,o,none⟩/\ca=some ⟨cg,co,none⟩/\w.cell? ⟨g,o+t,none⟩=some (.slice ca (codeOf p t).length cc)/\w.cell? ⟨cg,co+k*4,none⟩=some (.int .i64 (insAt p t k).op)/\w.cell? ⟨cg,co+k*4+1,none⟩=some (.int .i64 (insAt p t k).a)/\w.cell? ⟨cg,co+k*4+2,none⟩=some (.int .i64 (insAt p t k).b)/\w.cell? ⟨cg,co+k*4+3,none⟩=some (.int .i64 (insAt p t k).n):=by
 obtain⟨ao',cap',e,h⟩:=u;simp at e;obtain⟨rfl,rfl⟩:=e;obtain⟨g,o,m,rv,c0,ca,cc,d,f⟩:=h t j;have r:=kC j;rw [<-r]at f d;obtain⟨cg,co,q,k0,k1,k2,v⟩:=f k i;have s:insAt p t (k:Int)=(codeOf p t)[k]:=by rw [j4 (by simpa using i)];simp
 rw [s];exact⟨g,o,ca,cc,cg,co,m,q,by rw [c0,d],k0,k1,k2,v⟩
theorem HistAt.keptRow{w w':World}{b n r:Nat}{F:Use->Nat}(h:HistAt w b n F)(d:w.grownBy w' (some r))(e:r≠b):HistAt w' b n F:=by
 obtain⟨D,a,c⟩:=h;exact⟨D,a.kept d (by simpa using Ne.symm e),c⟩
theorem HistAt.mono{w:World}{b n n':Nat}{F:Use->Nat}(h:HistAt w b n F)(d:n<=n'):HistAt w b n' F:=by
 obtain⟨D,a,c⟩:=h;exact⟨D,a.mono d,c⟩
theorem mo{w:World}{g o:Nat}{v:Value}:w.grownBy (w.setCell ⟨g,o,none⟩ v) (some g):=⟨rfl,rfl,rfl,by simp,fun k _ hk=>Below.heap_setCell _ _ _ _ (by simp at hk ⊢;omega)⟩
structure PlIn(p:List (List Ins))(xs:List Ev)(W w':World)(gl gm i h:Nat):Prop where
 row:w'.heap[gl]?=some (.cells (flatK ((tl (depE p) [] (xs.take i)).map keyE)++List.replicate ((xs.length - i)*2) (Value.int .i64 0)).toArray 165 (0,0))
 his:HistAt w' gm (i*10) (histOf p (tl (depE p) [] (xs.take i)))
 hgh:h=highOf (tl (depE p) [] (xs.take i))
 gr:∀ k,k<W.heap.size->w'.heap[k]?=W.heap[k]?
 sz:W.heap.size<=w'.heap.size
 os:w'.os=W.os/\w'.tape=W.tape/\w'.output=W.output
theorem AH{p:List (List Ins)}{o:Out}{xs:List Ev}(hp:vProg p=true)(bm:Stood p o xs)(h500:xs.length<=500)(w:World)(pv:Value)(hP:ProgAt w pv p)(base:Nat)(I:Option Addr)(y:Nat)
  (hs:w.ownsRow base 76 2 (.slice I xs.length y) xs.length (flatS o.steps)) (V W X Y:Int) (O:Option Addr) (S P:Nat):
  Calls Tryz.prog 85 #[pv,.agg #[.int .i64 o.kind,.int .i64 o.thread,.int .i64 o.at_,.slice I xs.length y,.int .i64 V,.int .i64 W,.int .i64 X,.int .i64 Y,.slice O S P]] w fun e w'=>∃ g,e= .returned (.slice (some ⟨g,0,none⟩) xs.length xs.length)/\w.heap.size<=g/\w'.heap[g]?=some (.cells (flatK (keysE p xs)).toArray 165 (0,0))/\w.grownBy w' none:=by
 obtain⟨i0,cv,cE,cF,cG⟩:=info_parts sw;obtain⟨ao,J,rfl⟩:=hP.form;have HP:=ij hP;have HV:=ij hp;have aG:=ij bm;have HR:=ij hs;have hlen:=iW hp;have q0:(xs.length:Int)<=500:=by omega
 have q1:(0:Int)<=(xs.length:Int):=by omega
 clear hP hp bm hs;go_enter Tryz.func85,Tryz.ntmps85
 go_upto_region 1 with fail
 have bg:w.grownBy ((w.alloc (.cells #[.slice ao p.length J] 37)).alloc (.cells #[.int .i64 o.kind,.int .i64 o.thread,.int .i64 o.at_,.slice I xs.length y,.int .i64 V,.int .i64 W,.int .i64 X,.int .i64 Y,.slice O S P] 31)) none:=iq (iq (ir _ _));have bk:((w.alloc (.cells #[.slice ao p.length J] 37)).alloc (.cells #[.int .i64 o.kind,.int .i64 o.thread,.int .i64 o.at_,.slice I xs.length y,.int .i64 V,.int .i64 W,.int .i64 X,.int .i64 Y,.slice O S P] 31)).heap[w.heap.size]?=some (.cells #[.slice ao p.length J] 37 (0,0)):=by
  rw [Below.heap_alloc _ _ _ (by simp)];exact heap_alloc_new _ _
 have aK:((w.alloc (.cells #[.slice ao p.length J] 37)).alloc (.cells #[.int .i64 o.kind,.int .i64 o.thread,.int .i64 o.at_,.slice I xs.length y,.int .i64 V,.int .i64 W,.int .i64 X,.int .i64 Y,.slice O S P] 31)).heap[w.heap.size+1]?=some (.cells #[.int .i64 o.kind,.int .i64 o.thread,.int .i64 o.at_,.slice I xs.length y,.int .i64 V,.int .i64 W,.int .i64 X,.int .i64 Y,.slice O S P] 31 (0,0)):=by
  have:=heap_alloc_new (w.alloc (.cells #[.slice ao p.length J] 37)) (.cells #[.int .i64 o.kind,.int .i64 o.thread,.int .i64 o.at_,.slice I xs.length y,.int .i64 V,.int .i64 W,.int .i64 X,.int .i64 Y,.slice O S P] 31);simpa using this
 have aU:((w.alloc (.cells #[.slice ao p.length J] 37)).alloc (.cells #[.int .i64 o.kind,.int .i64 o.thread,.int .i64 o.at_,.slice I xs.length y,.int .i64 V,.int .i64 W,.int .i64 X,.int .i64 Y,.slice O S P] 31)).heap.size=w.heap.size+2:=by simp
 generalize (w.alloc (.cells #[.slice ao p.length J] 37)).alloc (.cells #[.int .i64 o.kind,.int .i64 o.thread,.int .i64 o.at_,.slice I xs.length y,.int .i64 V,.int .i64 W,.int .i64 X,.int .i64 Y,.slice O S P] 31)=w1 at*;have ch:=ij bk;have ck:=ij aK;have aa:=ij bg;have r3:w1.cell? ⟨w.heap.size+1,3,none⟩=some (.slice I xs.length y):=by simp [World.cell?,aK]
 clear bk aK bg;go_upto_region 2 with (at_make;refine wpList_make_full _ rfl _ _ _ rfl w1.heap.size 165 i0 _ 2 Tryz.underlying161 cv cE cF .i64 .i64 _ _ xs.length rfl rfl rfl rfl (by rw [cG];omega) (by unfold maxLen;omega) (by simp) ?_;intro Z bE bv)
 have aR:Z.heap[w1.heap.size]?=some (.cells (List.replicate (xs.length*2) (Value.int .i64 0)).toArray 165 (0,0)):=by
  rcases bE.2 with ⟨e,_⟩ | ⟨g',cap',cur,hv,_,hh,_,_,hcs,htk⟩
  ·cases e
  ·simp only [Value.slice.injEq,Option.some.injEq,Addr.mk.injEq,true_and,and_true]at hv;obtain⟨rfl,rfl⟩:=hv;rw [hh];have e1:cur.toList=List.replicate (xs.length*2) (Value.int .i64 0):=by
    rw [<-yE];simp only [Value.cells]at htk;rw [<-htk,List.take_of_length_le (by simp;omega)]
   rw [<-e1]
 have aT:w1.heap.size<Z.heap.size:=(Array.getElem?_eq_some_iff.1 aR).1;have ab:Hid (w1.grownBy Z none):=bv;have aF:=ij aR;rw [aU]at aT aF;clear bE bv aR;have cA:= @run_makeMap Tryz.prog;have r4:Z.cell? ⟨w.heap.size+1,3,none⟩=some (.slice I xs.length y):=ip ab.out _ _ r3;go_upto_region 4 with fail
 have H0:Hid (PlIn p xs w1 (Z.alloc (.map #[] 0)) (w.heap.size+2) Z.heap.size 0 0):=by
  refine⟨?_,?_,rfl,fun k hk=>?_,?_,ab.out.os,ab.out.tape,ab.out.output⟩
  ·rw [Below.heap_alloc _ _ _ aT];simpa [tl,flatK,flatS]using aF.out
  ·have e:histOf p (tl (depE p) [] (xs.take 0))=fun _=>0:=by funext u;simp [tl,histOf]
   rw [e];have:=HistAt.made Z;simpa using this
  ·rw [Below.heap_alloc _ _ _ (by have:=ab.out.size;omega)];exact ab.out.block k hk (by simp)
  ·have:=ab.out.size;simp;omega
 obtain⟨Q,bx⟩:∃ Q,Q=Z.heap.size:=⟨_,rfl⟩;obtain⟨d,bw⟩:∃ d,d=w.heap.size+2:=⟨_,rfl⟩;have aw:Hid (d=w1.heap.size/\w1.heap.size=w.heap.size+2/\d<Q):=⟨by omega,aU,by omega⟩;rw [<-bx,<-bw]at H0 ⊢;clear bx bw cA aT aF aU;go_wp2_with fail
 go_loopw [7,20] (fun hv iv w'=>∃ (i h:Nat),i<=xs.length/\iv= .int .i64 i/\hv= .int .i64 h/\Hid (PlIn p xs w1 w' d Q i h)) (fun _ iv _=>xs.length - (intOf iv).toNat)
 case atStart=>exact⟨0,0,Nat.zero_le _,rfl,rfl,H0⟩
 case round=>
  clear H0 r3 r4;obtain⟨i,h,hi,rfl,rfl,l⟩:=hrel;obtain⟨c,bL⟩:∃ c,c=wr:=⟨_,rfl⟩;rw [<-bL]at l ⊢;clear bL;have ax:Hid (∀ a v,w1.cell? a=some v->c.cell? a=some v):=fun a v hc=>by
   rw [World.cell?_of_block (l.out.gr a.block (World.block_lt_of_cell? w1 _ hc))];exact hc
  by_cases ak:i<xs.length
  ·have bD:=List.getElem_mem ak;obtain⟨ht,bz,cx⟩:=aG.out.th _ bD;obtain⟨g,rfl,s0,s1⟩:=mV HR.out aG.out.st ak;obtain⟨f,bB⟩:=Int.eq_ofNat_of_zero_le bz;have bA:f<(codeOf p xs[i].t).length:=by omega
   obtain⟨pg,po,ca,cc,K,L,rfl,rfl,m0,m1,m2,m3,m4⟩:=tY HP.out ht bA;have bK:=jT HV.out ht (k:=(f:Int)) (by simpa using bA);obtain⟨bp,bq,br,bt⟩:=rL bK;obtain⟨bH,bI⟩:=uE (t:=xs[i].t) (i:=insAt p xs[i].t f) (by omega) bq bt;have a8:Hid (usesE p xs[i]=usesI xs[i].t (insAt p xs[i].t f)):=by unfold Hid usesE;rw [bB]
   have ai:=ij (yA aG.out ak);rw [a8.out]at ai;have cd:=ij (qg (p:=p) ak);have bF:=ch.out;have aQ:=ck.out;have U:∀ a v,w.cell? a=some v->c.cell? a=some v:=fun a v hc=>ax.out _ _ (ip aa.out _ _ hc)
   have cK:=U _ _ s0;have b6:=U _ _ s1;have bN:=U _ _ m0;have bP:=U _ _ m1;have bR:=U _ _ m2;have bT:=U _ _ m3;have bV:=U _ _ m4;rw [bB]at b6;have n0:c.cell? ⟨w.heap.size,0,none⟩=some (.slice (some ⟨pg,po,none⟩) p.length J):=ax.out _ _ (by simp [World.cell?,bF]);have n1:c.cell? ⟨w.heap.size+1,0,none⟩=some (.int .i64 o.kind):=ax.out _ _ (by simp [World.cell?,aQ]);have n3:c.cell? ⟨w.heap.size+1,3,none⟩=some (.slice (some ⟨g,0,none⟩) xs.length y):=ax.out _ _ (by simp [World.cell?,aQ]);have a9:=ij (fun u:World=>zA xs[i].t (insAt p xs[i].t f) u bp br);have HTB:Hid (xs[i].t<4):=by unfold Hid;omega
   have hcl:(codeOf p xs[i].t).length<=16:=jx (jf HV.out ht);clear s0 s1 m0 m1 m2 m3 m4 bK bF aQ U bz cx bD bp bq br bt;generalize cw:insAt p xs[i].t (f:Int)=ix at*;generalize cu:(codeOf p xs[i].t).length=cl at*;generalize cD:usesI xs[i].t ix=us at*;generalize hxi:xs[i]=x at*;obtain⟨m,xk,xb⟩:=x;simp only at*;clear cw cu cD;have t0:(0:Int)<=(i:Int):=by omega
   have t1:(i:Int)<xs.length:=by omega
   have t2:(0:Int)<=(m:Int):=by omega
   have t3:(m:Int)<p.length:=by omega
   have t4:(0:Int)<=(f:Int):=by omega
   have t5:(f:Int)<cl:=by omega
   go_upto_region 7 with fail
   have hX:=heap_alloc_new c (.cells #[.int .i64 (m:Int),.int .i64 (f:Int)] 76);have T:c.grownBy (c.alloc (.cells #[.int .i64 (m:Int),.int .i64 (f:Int)] 76)) none:=iq (ir _ _);have bG:(c.alloc (.cells #[.int .i64 (m:Int),.int .i64 (f:Int)] 76)).heap.size=c.heap.size+1:=by simp
   generalize c.alloc (.cells #[.int .i64 (m:Int),.int .i64 (f:Int)] 76)=w6 at*;have b0:w6.cell? ⟨c.heap.size,0,none⟩=some (.int .i64 (m:Int)):=by simp only [World.cell?,hX];rfl
   have b1:w6.cell? ⟨c.heap.size,1,none⟩=some (.int .i64 (f:Int)):=by simp only [World.cell?,hX];rfl
   have cp:=ij hX;have b9:=ij T;have cn:=ij bG;have bi:w6.drew.cell? ⟨c.heap.size,0,none⟩=some (.int .i64 (m:Int))/\w6.drew.cell? ⟨c.heap.size,1,none⟩=some (.int .i64 (f:Int))/\w6.drew.cell? ⟨w.heap.size,0,none⟩=some (.slice (some ⟨pg,po,none⟩) p.length J)/\w6.drew.cell? ⟨pg,po+m,none⟩=some (.slice (some ⟨K,L,none⟩) cl cc)/\w6.drew.cell? ⟨K,L+f*4,none⟩=some (.int .i64 ix.op)/\w6.drew.cell? ⟨K,L+f*4+1,none⟩=some (.int .i64 ix.a)/\w6.drew.cell? ⟨K,L+f*4+2,none⟩=some (.int .i64 ix.b)/\w6.drew.cell? ⟨K,L+f*4+3,none⟩=some (.int .i64 ix.n):=
    ⟨b0,b1,ip T _ _ n0,ip T _ _ bN,ip T _ _ bP,ip T _ _ bR,ip T _ _ bT,ip T _ _ bV⟩
   clear hX bG T b0 b1;refine iz (fun u=>u.cell? ⟨c.heap.size,0,none⟩=some (.int .i64 (m:Int))/\u.cell? ⟨c.heap.size,1,none⟩=some (.int .i64 (f:Int))/\u.cell? ⟨w.heap.size,0,none⟩=some (.slice (some ⟨pg,po,none⟩) p.length J)/\u.cell? ⟨pg,po+m,none⟩=some (.slice (some ⟨K,L,none⟩) cl cc)/\u.cell? ⟨K,L+f*4,none⟩=some (.int .i64 ix.op)/\u.cell? ⟨K,L+f*4+1,none⟩=some (.int .i64 ix.a)/\u.cell? ⟨K,L+f*4+2,none⟩=some (.int .i64 ix.b)/\u.cell? ⟨K,L+f*4+3,none⟩=some (.int .i64 ix.n)) 13 (by kernel_rfl) (by kernel_rfl) bi ?_;intro j;refine ie 0 ?va0 rfl (by kernel_rfl) (fun _ _ _ h=>h) (by rfl) ?ya0 j ?_
   case ya0=>(rintro u ⟨A,B,C,D,E,F,G,H⟩;go_simp;try rfl)
   simp only [Act.put,List.setIfInBounds_toArray];refine ie 1 ?va1 rfl (by kernel_rfl) (fun _ _ _ h=>h) (by rfl) ?ya1 j ?_
   case ya1=>(rintro u ⟨A,B,C,D,E,F,G,H⟩;go_simp;try rfl)
   simp only [Act.put];refine ie 2 ?va2 rfl (by kernel_rfl) (fun _ _ _ h=>h) (by rfl) ?ya2 j ?_
   case ya2=>(rintro u ⟨A,B,C,D,E,F,G,H⟩;go_simp;try rfl)
   simp only [Act.put];refine ie 3 ?va3 rfl (by kernel_rfl) (fun _ _ _ h=>h) (by rfl) ?ya3 j ?_
   case ya3=>(rintro u ⟨A,B,C,D,E,F,G,H⟩;go_simp;try rfl)
   simp only [Act.put];refine ie 4 ?va4 rfl (by kernel_rfl) (fun _ _ _ h=>h) (by rfl) ?ya4 j ?_
   case ya4=>(rintro u ⟨A,B,C,D,E,F,G,H⟩;go_simp;try rfl)
   simp only [Act.put];refine ie 5 ?va5 rfl (by kernel_rfl) (fun _ _ _ h=>h) (by rfl) ?ya5 j ?_
   case ya5=>(rintro u ⟨A,B,C,D,E,F,G,H⟩;go_simp;try rfl)
   simp only [Act.put];refine ie 6 ?va6 rfl (by kernel_rfl) (fun _ _ _ h=>h) (by rfl) ?ya6 j ?_
   case ya6=>(rintro u ⟨A,B,C,D,E,F,G,H⟩;go_simp;try rfl)
   simp only [Act.put];refine ie 7 ?va7 rfl (by kernel_rfl) (fun _ _ _ h=>h) (by rfl) ?ya7 j ?_
   case ya7=>(rintro u ⟨A,B,C,D,E,F,G,H⟩;go_simp;try rfl)
   simp only [Act.put];refine ie 8 ?va8 rfl (by kernel_rfl) (fun _ _ _ h=>h) (by rfl) ?ya8 j ?_
   case ya8=>(rintro u ⟨A,B,C,D,E,F,G,H⟩;go_simp;try rfl)
   simp only [Act.put];refine ie 9 ?va9 rfl (by kernel_rfl) (fun _ _ _ h=>h) (by rfl) ?ya9 j ?_
   case ya9=>(rintro u ⟨A,B,C,D,E,F,G,H⟩;go_simp;try rfl)
   simp only [Act.put];refine ie 10 ?va10 rfl (by kernel_rfl) (fun _ _ _ h=>h) (by rfl) ?ya10 j ?_
   case ya10=>(rintro u ⟨A,B,C,D,E,F,G,H⟩;go_simp;try rfl)
   simp only [Act.put];refine ie 11 ?va11 rfl (by kernel_rfl) (fun _ _ _ h=>h) (by rfl) ?ya11 j ?_
   case ya11=>(rintro u ⟨A,B,C,D,E,F,G,H⟩;go_simp;try rfl)
   simp only [Act.put];refine iu (i:=12) rfl (by kernel_rfl) (by kernel_rfl) (by rfl) ?_;intro K12 bj;have a5:=ij bj;clear bj;go_simp;refine(a9.out _).mono ?_;rintro e w7 ⟨uv,rfl,bn,r⟩;have a2:Hid (w6.grownBy w7 none):=⟨r.os,r.tape,r.output,r.size,r.block⟩;refine a5.out _ _ ⟨ip r _ _ j.1,ip r _ _ j.2.1,ip r _ _ j.2.2.1,ip r _ _ j.2.2.2.1,ip r _ _ j.2.2.2.2.1,ip r _ _ j.2.2.2.2.2.1,ip r _ _ j.2.2.2.2.2.2.1,ip r _ _ j.2.2.2.2.2.2.2⟩ ?_;clear a5 r j bi a9;try simp only [Act.put,List.setIfInBounds_toArray]
   refine iF rfl (by kernel_rfl) (by kernel_rfl) (by rfl) ?_;go_simp;have bJ:us.length<=10:=bI;have ay:=ij bn;have au:Hid (c.grownBy w7 none):=il b9.out a2.out;have aE:Hid (HistAt w7 Q (i*10) (histOf p (tl (depE p) [] (xs.take i)))):=l.out.his.kept au.out;have aH:∀ u,histOf p (tl (depE p) [] (xs.take i)) u<=1000:=fun u=>by have:=vZ p (xs.take i) u;simp at this;omega
   have a1:=ij aH;have a6:=ij bH;have hhi:h<=500:=by rw [l.out.hgh];have:=vY p (xs.take i);simp at this;omega
   have ce:Hid (layIn (depE p) (tl (depE p) [] (xs.take i)) ⟨m,xk,xb⟩<=500):=by
    unfold Hid;have:=BK p (xs.take i) ⟨m,xk,xb⟩;simp at this;omega
   have b7:Hid (aheadS (histOf p (tl (depE p) [] (xs.take i))) us 0<=1000):=my _ aH us 0 (by omega);have bY:=ip au.out _ _ n1;have b2:=ip au.out _ _ n3;clear bn bH bI aH n0 n1 n3 bN bP bR bT bV cK b6;obtain⟨ug,uc,cC⟩:∃ ug uc,uv= .slice (some ⟨ug,0,none⟩) us.length uc:=by
    obtain⟨ug,uc,e,_⟩:=ay.out;exact⟨ug,uc,e⟩
   subst cC;go_wp2_with fail
   refine(zK aE.out a1.out us a6.out _ ay.out bJ).mono ?_;rintro e w8 ⟨rfl,aC⟩;have av:=ij aC;have k1:=ip aC _ _ bY;have k3:=ip aC _ _ b2;clear aC bY b2;generalize bC:layIn (depE p) (tl (depE p) [] (xs.take i)) ⟨m,xk,xb⟩=lx at*;generalize ct:aheadS (histOf p (tl (depE p) [] (xs.take i))) us 0=ah at*;have HLX:=ij bC;have a4:=ij l.out.hgh;rw [<-a4.out]at ai;have hah0:(ah:Int)<=1000:=by have:=b7.out;omega
   clear bC ct;go_upto_region 9 with fail
   obtain⟨bl,bu⟩:∃ bl:Bool,bl=decide (o.kind=1/\i+1=xs.length):=⟨_,rfl⟩;have af:=ij bu;clear bu;go_cut [52] (fun q w'=>q= .bool bl/\w'=w8)
   case first=>
    by_cases e1:i+1=xs.length
    ·have e3:(xs.length:Int) - 1=(i:Int):=by omega
     by_cases e2:o.kind=1
     ·have hb:bl=true:=by rw [af.out];simp [e1,e2]
      rw [e2]at k1;go_wp2_with fail
      all_goals first | (go_meet;exact⟨by rw [hb],rfl⟩) | (exfalso;omega)
     ·have hb:bl=false:=by rw [af.out];simp [e2]
      have hb2:(o.kind==1)=false:=by simpa using e2
      go_wp2_with fail
      all_goals first | (go_meet;exact⟨by rw [hb],rfl⟩) | (exfalso;omega)
    ·have hb:bl=false:=by rw [af.out];simp [e1]
     have e3:(i:Int)<(xs.length:Int) - 1:=by omega
     have e4:((i:Int)==(xs.length:Int) - 1)=false:=by simp;omega
     go_wp2_with fail
     all_goals first | (go_meet;exact⟨by rw [hb],rfl⟩) | (exfalso;omega)
   case rest=>
   obtain⟨rfl,aW⟩:=hcut;have aX:=aW.symm;subst aX;go_upto_if 52 with fail
   go_cut [11] (fun q w'=>q= .int .i64 (lx:Int)/\w'=w8)
   case first=>
    cases bl with
    | true=>
     have hl:lx=h:=by rw [ai.out,if_pos (by have:=af.out.symm;simpa using this)]
     go_wp2_with fail
     go_meet
     exact⟨by rw [hl],rfl⟩
    | false=>
     have hl:lx=ah:=by rw [ai.out,if_neg (by have:=af.out.symm;simpa using this)]
     go_wp2_with fail
     go_meet
     exact⟨by rw [hl],rfl⟩
   case rest=>
   obtain⟨rfl,aW⟩:=hcut;have aX:=aW.symm;subst aX;clear ai af;have cz:lx<=900:=by have:=ce.out;omega
   have hlx':(lx:Int)<=900:=by omega
   have hlx0:(0:Int)<=(lx:Int):=by omega
   have hh':(h:Int)<=500:=by omega
   have hh0:(0:Int)<=(h:Int):=by omega
   have a3:Hid (HistAt w8 Q (i*10) (histOf p (tl (depE p) [] (xs.take i)))):=aE.out.kept av.out;have a7:Hid (UsesAt w8 (.slice (some ⟨ug,0,none⟩) us.length uc) us):=ay.out.grown av.out;have M:Hid (c.grownBy w8 none):=il au.out av.out;go_wp2_with fail
   refine(Aa a3.out a1.out (by omega) us a6.out _ a7.out bJ lx cz).mono ?_;rintro e s ⟨⟨rv9,rfl⟩,bh,N⟩;have hgm5:Q<c.heap.size:=l.out.his.lt;have bo:s.heap[c.heap.size]?=some (.cells #[.int .i64 (m:Int),.int .i64 (f:Int)] 76 (0,0)):=by
    have be:=il a2.out av.out;have hs:=cn.out;rw [N.block _ (by have:=be.size;omega) (by simp;omega),be.block _ (by omega) (by simp)];exact cp.out
   have ae:s.heap[d]?=some (.cells (flatK ((tl (depE p) [] (xs.take i)).map keyE)++List.replicate ((xs.length - i)*2) (Value.int .i64 0)).toArray 165 (0,0)):=by
    have cy:=(Array.getElem?_eq_some_iff.1 l.out.row).1;rw [N.block _ (by have:=M.out.size;omega) (by have:=aw.out;simp;omega),M.out.block _ cy (by simp)];exact l.out.row
   have cj:=ij ae;have y0:s.cell? ⟨c.heap.size,0,none⟩=some (.int .i64 (m:Int)):=by simp [World.cell?,bo]
   obtain⟨R,hR⟩:∃ R:List Value,R=flatK ((tl (depE p) [] (xs.take i)).map keyE)++List.replicate ((xs.length - i)*2) (Value.int .i64 0):=⟨_,rfl⟩;have aL:(flatK ((tl (depE p) [] (xs.take i)).map keyE)).length=i*2:=by
    rw [vR,List.length_map,iX];simp;omega
   have cs:R.length=xs.length*2:=by rw [hR,List.length_append,aL,List.length_replicate];omega
   rw [<-hR]at ae;obtain⟨z0,hz0'⟩:∃ z,s.cell? ⟨d,i*2,none⟩=some z:=⟨R[i*2]'(by omega),by simp only [World.cell?,ae];simp⟩;obtain⟨z1,hz1'⟩:∃ z,(s.setCell ⟨d,i*2,none⟩ (.int .i64 (lx:Int))).cell? ⟨d,i*2+1,none⟩=some z:=by
    have al:=heap_setCell_same s d (i*2) _ _ (.int .i64 (lx:Int)) ae;exact⟨_,by simp only [World.cell?,al];exact Array.getElem?_eq_getElem (by simp;omega)⟩
   have fz0:s.frozen? ⟨d,i*2,none⟩=false:=by simp [World.frozen?,ae]
   have fz1:(s.setCell ⟨d,i*2,none⟩ (.int .i64 (lx:Int))).frozen? ⟨d,i*2+1,none⟩=false:=by
    have al:=heap_setCell_same s d (i*2) _ _ (.int .i64 (lx:Int)) ae;simp [World.frozen?,al]
   have b8:Hid (PlIn p xs w1 ((s.setCell ⟨d,i*2,none⟩ (.int .i64 (lx:Int))).setCell ⟨d,i*2+1,none⟩ (.int .i64 (m:Int))) d Q (i+1) (max h (lx+1))):=by
    have aM:=cd.out;have ag:s.grownBy ((s.setCell ⟨d,i*2,none⟩ (.int .i64 (lx:Int))).setCell ⟨d,i*2+1,none⟩ (.int .i64 (m:Int))) (some d):=il mo mo;have aO:=aw.out;have hs5:=l.out.sz;refine⟨?_,?_,?_,fun k hk=>?_,?_,?_⟩
    ·have al:=heap_setCell_same s d (i*2) _ _ (.int .i64 (lx:Int)) cj.out;have cB:=heap_setCell_same _ d (i*2+1) _ _ (.int .i64 (m:Int)) al;rw [cB];simp only [List.setIfInBounds_toArray];rw [yU _ _ _ i xs.length aL ak,aM,List.map_append,List.map_cons,List.map_nil,tP];rfl
    ·have h9:=(bh.keptRow ag (by omega)).mono (n':=(i+1)*10) (by omega);have e:enterF (lx+1) us (histOf p (tl (depE p) [] (xs.take i)))=histOf p (tl (depE p) [] (xs.take (i+1))):=by
      funext u
      rw [nb,aM,nN,a8.out]
     rw [e]at h9;exact h9
    ·rw [aM,nM,<-a4.out]
    ·rw [ag.block k (by have:=N.size;have:=M.out.size;omega) (by simp;omega),N.block k (by have:=M.out.size;omega) (by simp;omega),M.out.block k (by omega) (by simp)];exact l.out.gr k hk
    ·have h1:=ag.size;have h2:=N.size;have h3:=M.out.size;omega
    ·exact⟨ag.os.trans (N.os.trans (M.out.os.trans l.out.os.1)),ag.tape.trans (N.tape.trans (M.out.tape.trans l.out.os.2.1)),ag.output.trans (N.output.trans (M.out.output.trans l.out.os.2.2))⟩
   have hne:d≠c.heap.size:=by have:=(Array.getElem?_eq_some_iff.1 l.out.row).1;omega
   clear ae bo hR cs aL bh N a3 a7 k1 k3 aE ay;go_wp2_with fail
   go_roundw
   case rel=>exact⟨i+1,max h (lx+1),by omega,by go_num,by congr 1;(repeat' split)<;>omega,b8⟩
   case measure=>simp [intOf];omega
  ·have t1:(xs.length:Int)<=(i:Int):=by omega
   have ei:i=xs.length:=by omega
   have cm:Hid (c.heap[d]?=some (.cells (flatK (keysE p xs)).toArray 165 (0,0))):=by
    have:=l.out.row;rw [ei,List.take_length,Nat.sub_self]at this;unfold Hid keysE;simpa using this
   have cb:Hid (w.grownBy c none):=by
    have aO:=aw.out;refine⟨l.out.os.1.trans aa.out.os,l.out.os.2.1.trans aa.out.tape,l.out.os.2.2.trans aa.out.output,Nat.le_trans aa.out.size l.out.sz,fun k hk _=>?_⟩;rw [l.out.gr k (Nat.lt_of_lt_of_le hk aa.out.size)];exact aa.out.block k hk (by simp)
   have aO:w.heap.size<=d:=by have:=aw.out;omega
   go_wp2_with fail
   go_ret;exact⟨d,rfl,aO,cm.out,cb.out⟩
end
section
def pickT(ks:List (Nat × Nat))(l t:Nat):List (Nat × Nat):=ks.filter fun k=>k.1==l && k.2==t
def goAt(ks:List (Nat × Nat))(l t i:Nat):List (Nat × Nat):=goThrough l ks++((List.range t).flatMap (pickT ks l)++pickT (ks.take i) l t)
theorem vV(ks:List (Nat × Nat)):goAt ks 0 0 0=[]:=by simp [goAt,goThrough,pickT]
theorem vU(a:List (Nat × Nat))(l t i:Nat)(b:i<a.length):goAt a l t (i+1)=goAt a l t i++(if a[i].1==l && a[i].2==t then [a[i]] else []):=by
 unfold goAt pickT;rw [List.take_succ_eq_append_getElem b,List.filter_append];simp only [List.append_assoc,List.filter_cons,List.filter_nil]
theorem si(a:List (Nat × Nat))(l t i:Nat)(b:a.length<=i):goAt a l t i=goAt a l (t+1) 0:=by
 unfold goAt;rw [List.take_of_length_le b,List.range_succ,List.flatMap_append];simp [pickT]
theorem tT(a:List (Nat × Nat))(l:Nat):goAt a l 4 0=goAt a (l+1) 0 0:=by
 have e:goThrough (l+1) a=goThrough l a++(List.range 4).flatMap (pickT a l):=by
  unfold goThrough;rw [List.range_succ (n:=l),List.flatMap_append];congr 1
  rw [List.flatMap_cons,List.flatMap_nil,List.append_nil];rfl
 unfold goAt;rw [e];simp [pickT]
theorem x8(ks:List (Nat × Nat))(n:Nat):goAt ks n 0 0=goThrough n ks:=by simp [goAt,pickT]
theorem sI(ks:List (Nat × Nat))(l t:Nat):(pickT ks l t).length<=ks.length:=List.length_filter_le ..
theorem mH{f:Nat->List (Nat × Nat)}{m:Nat}(h:∀ l,(f l).length<=m):∀ n,((List.range n).flatMap f).length<=n*m
 | 0=>by simp
 | n+1=>by
  rw [List.range_succ,List.flatMap_append,List.length_append];have h1:=mH h n;have h2:=h n;have h3:(n+1)*m=n*m+m:=by rw [Nat.add_mul];omega
  simp only [List.flatMap_cons,List.flatMap_nil,List.append_nil];omega
theorem Ad(a:List (Nat × Nat))(l t i:Nat)(c:l<=500)(d:t<=4)(b:a.length<=500):(goAt a l t i).length<=2000000:=by
 unfold goAt;rw [List.length_append,List.length_append];have h1:(goThrough l a).length<=l*(4*a.length):=by
  unfold goThrough;exact mH (fun _=>mH (fun _=>List.length_filter_le ..) 4) l
 have h2:((List.range t).flatMap (pickT a l)).length<=t*a.length:=mH (fun _=>sI ..) t;have h3:(pickT (a.take i) l t).length<=a.length:=Nat.le_trans (sI ..) (by simp;omega);have h4:l*(4*a.length)<=500*(4*500):=Nat.mul_le_mul c (by omega);have h5:t*a.length<=4*500:=Nat.mul_le_mul d b;omega
def thrL(L:List (Nat × Nat)):List Int:=L.map fun x=>(x.2:Int)
theorem zq(a:List (Nat × Nat))(l t i:Nat)(b:i<a.length):thrL (goAt a l t (i+1))=if a[i].1==l && a[i].2==t then thrL (goAt a l t i)++[(t:Int)] else thrL (goAt a l t i):=by
 rw [vU a l t i b];unfold thrL;by_cases h:(a[i].1==l && a[i].2==t)=true
 ·rw [if_pos h,if_pos h,List.map_append];simp at h;simp [h.2]
 ·rw [if_neg h,if_neg h];simp
def labsE(p:List (List Ins))(xs:List Ev)(i:Nat):List Nat:=(tl (depE p) [] (xs.take i)).map (·.2)
theorem lR(p:List (List Ins))(xs:List Ev)(i:Nat)(h:i<=xs.length):(labsE p xs i).length=i:=by unfold labsE;rw [List.length_map,iX];simp;omega
theorem ua(p:List (List Ins))(xs:List Ev)(i:Nat)(h:i<xs.length):labsE p xs (i+1)=labsE p xs i++[layIn (depE p) ((tl (depE p) [] (xs.take i)).take i) xs[i]]:=by
 unfold labsE;have e:(tl (depE p) [] (xs.take i)).take i=tl (depE p) [] (xs.take i):=List.take_of_length_le (by rw [iX];simp;omega);rw [qg h,List.map_append,e];rfl
theorem np(p:List (List Ins))(xs:List Ev):(keysE p xs).length=xs.length:=by unfold keysE;rw [List.length_map,iX]
theorem Au(p:List (List Ins))(xs:List Ev)(i:Nat)(h:i<xs.length):(keysE p xs)[i]'(by rw [np];exact h)=((labsE p xs xs.length)[i]'(by rw [lR _ _ _ (Nat.le_refl _)];exact h),xs[i].t):=by
 have d:i<(tl (depE p) [] xs).length:=by rw [iX];exact h
 have a:((tl (depE p) [] xs)[i]'d).1=xs[i]:=by
  have b:=pm (depE p) [] xs;have c:((tl (depE p) [] xs).map (·.1))[i]'(by rw [b];exact h)=xs[i]:=by congr 1
  simpa using c
 simp [keysE,labsE,keyE,a]
theorem Aw(p:List (List Ins))(xs:List Ev)(i:Nat)(h:i<xs.length):(labsE p xs xs.length)[i]'(by rw [lR _ _ _ (Nat.le_refl _)];exact h)<=xs.length:=by
 have a:i<(tl (depE p) [] xs).length:=by rw [iX];exact h
 have:=lC (depE p) xs [] 0 (by simp) i _ (List.getElem?_eq_getElem a);simp [labsE];omega
end
section
open Go.RowKit
attribute [local go_sem] Go.World.cell?_alloc_some
theorem uC(W:World)(a b c:Obj):((W.alloc a).alloc b).drew.alloc c=Sort.grow (W.drewN 1) #[a,b,c]:=by
 have d:∀ (w:World) os,(Sort.grow w os).drew=Sort.grow w.drew os:=fun _ _=>rfl
 rw [Sort.alloc_eq_grow W a,Sort.alloc_eq_grow _ b,Sort.grow_grow,d,Sort.alloc_eq_grow _ c,Sort.grow_grow];rfl
def cmpI(x y:Int):Int:=if x<y then -1 else if y<x then 1 else 0
def orI(x y:Int):Int:=if x=0 then y else x
def cmpP(x y:Int × Int):Int:=orI (cmpI x.1 y.1) (cmpI x.2 y.2)
theorem qS(x:Int)(w:World):Calls Tryz.prog 168 #[.int .i64 x] w fun e w'=>e= .returned (.bool false)/\w'=w:=by
 go_enter Tryz.func168,Tryz.ntmps168
 go_wp2
 go_ret;exact⟨rfl,rfl⟩
theorem mC(x y:Int)(w:World):Calls Tryz.prog 130 #[.int .i64 x,.int .i64 y] w fun e w'=>e= .returned (.int .i64 (cmpI x y))/\w'=w:=by
 by_cases b:x<y
 ·have a:Hid (cmpI x y= -1):=by unfold Hid cmpI;simp [b]
  go_enter Tryz.func130,Tryz.ntmps130
  go_wp2_with (go_at_call 168;refine(qS _ _).mono ?_;rintro e w' ⟨rfl,rfl⟩)
  go_ret;exact⟨by rw [a.out];rfl,rfl⟩
 ·by_cases c:y<x
  ·have a:Hid (cmpI x y=1):=by unfold Hid cmpI;simp [b,c]
   go_enter Tryz.func130,Tryz.ntmps130
   go_wp2_with (go_at_call 168;refine(qS _ _).mono ?_;rintro e w' ⟨rfl,rfl⟩)
   go_ret;exact⟨by rw [a.out];rfl,rfl⟩
  ·have a:Hid (cmpI x y=0):=by unfold Hid cmpI;simp [b,c]
   have h3:x<=y:=by omega
   have h4:y<=x:=by omega
   go_enter Tryz.func130,Tryz.ntmps130
   go_wp2_with (go_at_call 168;refine(qS _ _).mono ?_;rintro e w' ⟨rfl,rfl⟩)
   go_ret;exact⟨by rw [a.out];rfl,rfl⟩
theorem zQ(x y:Int)(g:Nat)(w:World)(h:w.cell? ⟨g,0,none⟩=some (.int .i64 x))(j:w.cell? ⟨g,1,none⟩=some (.int .i64 y)):
  Calls Tryz.prog 129 #[.slice (some ⟨g,0,none⟩) 2 2] w fun e w'=>e= .returned (.int .i64 (orI x y))/\w'=w:=by
 have HA:=ij h;have HB:=ij j;go_enter Tryz.func129,Tryz.ntmps129
 go_wp2_with fail
 go_loopw [8] (fun i w'=>∃ k:Nat,k<=2/\i= .int .i64 k/\Hid (w'=w)/\Hid ((0<k->x=0)/\(1<k->y=0))) (fun i _=>2 - (intOf i).toNat)
 case atStart=>exact⟨0,by omega,rfl,rfl,by omega,by omega⟩
 case round=>
  obtain⟨k,hk,rfl,f,b⟩:=hrel;obtain rfl:=f.out.symm;clear f;rcases(by omega:k=0\/k=1\/k=2)with rfl | rfl | rfl
  ·by_cases c:x=0
   ·subst c;go_wp2_with fail
    go_roundw
    case rel=>exact⟨1,by omega,by go_num,(by first | exact trivial | rfl),by unfold Hid;simp⟩
    case measure=>simp [intOf]
   ·have l:(x !=0)=true:=by simpa using c
    have a:Hid (orI x y=x):=by unfold Hid orI;rw [if_neg c]
    clear c;go_wp2_with fail
    go_ret;exact⟨by rw [a.out];rfl,rfl⟩
  ·have a:Hid (orI x y=y):=by unfold Hid orI;rw [if_pos (b.out.1 (by omega))]
   by_cases d:y=0
   ·subst d;have HX:=ij (b.out.1 (by omega));go_wp2_with fail
    go_roundw
    case rel=>exact⟨2,by omega,by go_num,(by first | exact trivial | rfl),by unfold Hid;simp [HX.out]⟩
    case measure=>simp [intOf]
   ·have l:(y !=0)=true:=by simpa using d
    clear d;go_wp2_with fail
    go_ret;exact⟨by rw [a.out];rfl,rfl⟩
  ·have a:Hid (orI x y=0):=by unfold Hid orI;rw [if_pos (b.out.1 (by omega))];exact b.out.2 (by omega)
   go_wp2_with fail
   go_ret;exact⟨by rw [a.out];rfl,rfl⟩
theorem vE(x y:Int × Int)(W:World):
  Calls Tryz.prog 87 #[.agg #[.int .i64 x.1,.int .i64 x.2],.agg #[.int .i64 y.1,.int .i64 y.2]] W fun e w'=>e= .returned (.int .i64 (cmpP x y))/\∃ q os',w'=Sort.grow (W.drewN q) os':=by
 go_enter Tryz.func87,Tryz.ntmps87
 go_upto_region 1 with fail
 have l:=ij (heap_alloc_new W (.cells #[.int .i64 x.1,.int .i64 x.2] 165));have HB:=ij (heap_alloc_new (W.alloc (.cells #[.int .i64 x.1,.int .i64 x.2] 165)) (.cells #[.int .i64 y.1,.int .i64 y.2] 165));have B:(W.alloc (.cells #[.int .i64 x.1,.int .i64 x.2] 165)).heap.size=W.heap.size+1:=by simp
 rw [B]at HB;have m:Hid (((W.alloc (.cells #[.int .i64 x.1,.int .i64 x.2] 165)).alloc (.cells #[.int .i64 y.1,.int .i64 y.2] 165)).heap[W.heap.size]?=some (.cells #[.int .i64 x.1,.int .i64 x.2] 165 (0,0))):=by
  unfold Hid;rw [Below.heap_alloc _ _ _ (by simp)];exact l.out
 have E:Hid (∀ c,∃ q os',((((W.alloc (.cells #[.int .i64 x.1,.int .i64 x.2] 165)).alloc (.cells #[.int .i64 y.1,.int .i64 y.2] 165)).drew).alloc c)=Sort.grow (W.drewN q) os'):=fun c=>by
  exact⟨1,_,uC _ _ _ _⟩
 have F:((W.alloc (.cells #[.int .i64 x.1,.int .i64 x.2] 165)).alloc (.cells #[.int .i64 y.1,.int .i64 y.2] 165)).drew.cell? ⟨W.heap.size,0,none⟩=some (.int .i64 x.1)/\((W.alloc (.cells #[.int .i64 x.1,.int .i64 x.2] 165)).alloc (.cells #[.int .i64 y.1,.int .i64 y.2] 165)).drew.cell? ⟨W.heap.size,1,none⟩=some (.int .i64 x.2)/\((W.alloc (.cells #[.int .i64 x.1,.int .i64 x.2] 165)).alloc (.cells #[.int .i64 y.1,.int .i64 y.2] 165)).drew.cell? ⟨W.heap.size+1,0,none⟩=some (.int .i64 y.1)/\((W.alloc (.cells #[.int .i64 x.1,.int .i64 x.2] 165)).alloc (.cells #[.int .i64 y.1,.int .i64 y.2] 165)).drew.cell? ⟨W.heap.size+1,1,none⟩=some (.int .i64 y.2):=by
  have z:((W.alloc (.cells #[.int .i64 x.1,.int .i64 x.2] 165)).alloc (.cells #[.int .i64 y.1,.int .i64 y.2] 165)).drew.heap[W.heap.size]?=some (.cells #[.int .i64 x.1,.int .i64 x.2] 165 (0,0)):=m.out;have A:((W.alloc (.cells #[.int .i64 x.1,.int .i64 x.2] 165)).alloc (.cells #[.int .i64 y.1,.int .i64 y.2] 165)).drew.heap[W.heap.size+1]?=some (.cells #[.int .i64 y.1,.int .i64 y.2] 165 (0,0)):=HB.out;refine⟨?_,?_,?_,?_⟩
  ·simp only [World.cell?,z];rfl
  ·simp only [World.cell?,z];rfl
  ·simp only [World.cell?,A];rfl
  ·simp only [World.cell?,A];rfl
 generalize ((W.alloc (.cells #[.int .i64 x.1,.int .i64 x.2] 165)).alloc (.cells #[.int .i64 y.1,.int .i64 y.2] 165))=w2 at*;have C:Hid ((w2.drew.alloc (.cells #[.int .i64 (cmpI x.1 y.1),.int .i64 (cmpI x.2 y.2)] 3)).cell? ⟨w2.heap.size,0,none⟩=some (.int .i64 (cmpI x.1 y.1))):=by
  have h:=heap_alloc_new w2.drew (.cells #[.int .i64 (cmpI x.1 y.1),.int .i64 (cmpI x.2 y.2)] 3);unfold Hid;have k:(w2.drew.alloc (.cells #[.int .i64 (cmpI x.1 y.1),.int .i64 (cmpI x.2 y.2)] 3)).heap[w2.heap.size]?=_:=h;simp only [World.cell?,k];rfl
 have D:Hid ((w2.drew.alloc (.cells #[.int .i64 (cmpI x.1 y.1),.int .i64 (cmpI x.2 y.2)] 3)).cell? ⟨w2.heap.size,1,none⟩=some (.int .i64 (cmpI x.2 y.2))):=by
  have h:=heap_alloc_new w2.drew (.cells #[.int .i64 (cmpI x.1 y.1),.int .i64 (cmpI x.2 y.2)] 3);unfold Hid;have k:(w2.drew.alloc (.cells #[.int .i64 (cmpI x.1 y.1),.int .i64 (cmpI x.2 y.2)] 3)).heap[w2.heap.size]?=_:=h;simp only [World.cell?,k];rfl
 clear l HB m B;refine iz (fun u=>u.cell? ⟨W.heap.size,0,none⟩=some (.int .i64 x.1)/\u.cell? ⟨W.heap.size,1,none⟩=some (.int .i64 x.2)/\u.cell? ⟨W.heap.size+1,0,none⟩=some (.int .i64 y.1)/\u.cell? ⟨W.heap.size+1,1,none⟩=some (.int .i64 y.2)) 12 (by kernel_rfl) (by kernel_rfl) F ?_;intro a;refine ie 0 ?va0 rfl (by kernel_rfl) (fun _ _ _ h=>h) (by rfl) ?ya0 a ?_
 case ya0=>(rintro u ⟨b,d,f,j⟩;go_simp;try rfl)
 simp only [Act.put,List.setIfInBounds_toArray];refine ie 1 ?va1 rfl (by kernel_rfl) (fun _ _ _ h=>h) (by rfl) ?ya1 a ?_
 case ya1=>(rintro u ⟨b,d,f,j⟩;go_simp;try rfl)
 simp only [Act.put];refine ie 2 ?va2 rfl (by kernel_rfl) (fun _ _ _ h=>h) (by rfl) ?ya2 a ?_
 case ya2=>(rintro u ⟨b,d,f,j⟩;go_simp;try rfl)
 simp only [Act.put];refine ie 3 ?va3 rfl (by kernel_rfl) (fun _ _ _ h=>h) (by rfl) ?ya3 a ?_
 case ya3=>(rintro u ⟨b,d,f,j⟩;go_simp;try rfl)
 simp only [Act.put];refine ie 5 ?va5 rfl (by kernel_rfl) (fun _ _ _ h=>h) (by rfl) ?ya5 a ?_
 case ya5=>(rintro u ⟨b,d,f,j⟩;go_simp;try rfl)
 simp only [Act.put];refine ie 6 ?va6 rfl (by kernel_rfl) (fun _ _ _ h=>h) (by rfl) ?ya6 a ?_
 case ya6=>(rintro u ⟨b,d,f,j⟩;go_simp;try rfl)
 simp only [Act.put];refine ie 7 ?va7 rfl (by kernel_rfl) (fun _ _ _ h=>h) (by rfl) ?ya7 a ?_
 case ya7=>(rintro u ⟨b,d,f,j⟩;go_simp;try rfl)
 simp only [Act.put];refine ie 8 ?va8 rfl (by kernel_rfl) (fun _ _ _ h=>h) (by rfl) ?ya8 a ?_
 case ya8=>(rintro u ⟨b,d,f,j⟩;go_simp;try rfl)
 simp only [Act.put];refine iu (i:=4) rfl (by kernel_rfl) (by kernel_rfl) (by rfl) ?_;intro K4 s;have n:=ij s;clear s;go_simp;refine(mC x.1 y.1 _).mono ?_;rintro e w4 ⟨rfl,G⟩;obtain rfl:=G.symm;refine n.out _ _ a ?_;clear n;try simp only [Act.put,List.setIfInBounds_toArray]
 refine iu (i:=9) rfl (by kernel_rfl) (by kernel_rfl) (by rfl) ?_;intro K9 t;have o:=ij t;clear t;go_simp;refine(mC x.2 y.2 _).mono ?_;rintro e w9 ⟨rfl,H⟩;obtain rfl:=H.symm;refine o.out _ _ a ?_;clear o;try simp only [Act.put,List.setIfInBounds_toArray]
 refine iu (i:=10) rfl (by kernel_rfl) (by kernel_rfl) (by rfl) ?_;intro Kpa v;have p:=ij v;clear v;go_simp;refine p.out _ _ ⟨ip (iq (ir _ _)) _ _ a.1,ip (iq (ir _ _)) _ _ a.2.1,ip (iq (ir _ _)) _ _ a.2.2.1,ip (iq (ir _ _)) _ _ a.2.2.2⟩ ?_;clear p;try simp only [Act.put,List.setIfInBounds_toArray]
 refine iu (i:=11) rfl (by kernel_rfl) (by kernel_rfl) (by rfl) ?_;intro Kpb w;have r:=ij w;clear w;go_simp;refine(zQ (cmpI x.1 y.1) (cmpI x.2 y.2) _ _ (C.out) (D.out)).mono ?_;rintro e wpb ⟨rfl,I⟩;obtain rfl:=I.symm;refine r.out _ _ ⟨ip (iq (ir _ _)) _ _ a.1,ip (iq (ir _ _)) _ _ a.2.1,ip (iq (ir _ _)) _ _ a.2.2.1,ip (iq (ir _ _)) _ _ a.2.2.2⟩ ?_;clear r;try simp only [Act.put,List.setIfInBounds_toArray]
 refine iF rfl (by kernel_rfl) (by kernel_rfl) (by rfl) ?_;go_simp;go_wp2_with fail
 go_ret;exact⟨rfl,E.out _⟩
end
section
open Go.RowKit
def encP(x:Int × Int):List Value:=[.int .i64 x.1,.int .i64 x.2]
theorem ltP(x y:Int × Int):ltOf cmpP x y=decide (x.1<y.1\/(x.1=y.1/\x.2<y.2)):=by
 unfold ltOf cmpP orI cmpI;rw [Bool.eq_iff_iff];simp only [decide_eq_true_eq];repeat' split
 all_goals omega
theorem Cn:Sort.SWO (ltOf cmpP) where
 irrefl x:=by rw [ltP];simp
 trans x y z h1 h2:=by rw [ltP]at*;simp only [decide_eq_true_eq]at*;omega
 ntrans x y z h1 h2:=by rw [ltP]at*;simp only [decide_eq_false_iff_not]at*;omega
theorem rK{b:List (Nat × Nat)}{a:Array (Int × Int)}(u:Sort.PermIn 0 (b.map pairI).toArray.size (b.map pairI).toArray a)(y:Sort.SortedIn (ltOf cmpP) 0 (b.map pairI).toArray.size a):a.toList=(sortK b).map pairI:=by
 obtain⟨n,_,d⟩:=u;have A:a.size=b.length:=by rw [n];simp
 have f:a.toList.Perm (b.map pairI):=by
  have l:(a.extract 0 (b.map pairI).toArray.size).toList=a.toList:=by rw [Array.toList_extract];simp [List.extract];rw [List.take_of_length_le (by simp [A])]
  have m:((b.map pairI).toArray.extract 0 (b.map pairI).toArray.size).toList=b.map pairI:=by rw [Array.toList_extract];simp [List.extract];rw [List.take_of_length_le (by simp)]
  rw [l,m]at d;exact d
 have c:∀ x∈a.toList,pairI (x.1.toNat,x.2.toNat)=x:=fun x hx=>by
  obtain⟨q,_,rfl⟩:=List.mem_map.1 (f.mem_iff.1 hx);simp [pairI]
 have w:(a.toList.map fun x=>(x.1.toNat,x.2.toNat)).map pairI=a.toList:=by
  rw [List.map_map];conv=>rhs;rw [<-List.map_id a.toList]
  exact List.map_congr_left (fun x hx=>c x hx)
 have v:(a.toList.map fun x=>(x.1.toNat,x.2.toNat)).Perm b:=by
  have:=f.map (fun x:Int × Int=>(x.1.toNat,x.2.toNat));have e:(b.map pairI).map (fun x:Int × Int=>(x.1.toNat,x.2.toNat))=b:=by
   rw [List.map_map];conv=>rhs;rw [<-List.map_id b]
   exact List.map_congr_left (fun x _=>by simp [pairI])
  rw [e]at this;exact this
 have z:(a.toList.map fun x=>(x.1.toNat,x.2.toNat)).Pairwise leP:=by
  rw [List.pairwise_map,List.pairwise_iff_getElem];intro i j o s r;have p:i<a.size:=by simpa using o
  have t:j<a.size:=by simpa using s
  have:=y i j (Nat.zero_le _) r (by simp;omega);rw [ltP,getElem!_pos a i p,getElem!_pos a j t]at this;have h:=c a[i] (by simp);have k:=c a[j] (by simp);simp only [decide_eq_false_iff_not]at this;simp only [pairI,Prod.ext_iff]at h k;unfold leP;simp only [Array.getElem_toList];omega
 rw [qu v.symm z,w]
theorem mp{w0 w w':World}{g:Nat}(h:w0.grownBy w none)(hg:w.grownBy w' (some g))(hl:w0.heap.size<=g):w0.grownBy w' none:=
 ⟨hg.os.trans h.os,hg.tape.trans h.tape,hg.output.trans h.output,Nat.le_trans h.size hg.size,fun k hk _=>by
  rw [hg.block k (Nat.lt_of_lt_of_le hk h.size) (by simp;omega)];exact h.block k hk (by simp)⟩
theorem BY(a:List (Nat × Nat))(g:Nat)(w:World)(m:w.heap[g]?=some (.cells (flatK a).toArray 165 (0,0)))(hn:a.length<=1000000):
  Calls Tryz.prog 86 #[.slice (some ⟨g,0,none⟩) a.length a.length,.func (.func 87) #[] #[]] w fun e w'=>e= .returned (.tuple #[])/\(∀ j (d:j<(sortK a).length),w'.cell? ⟨g,j*2,none⟩=some (.int .i64 ((sortK a)[j].1:Int))/\w'.cell? ⟨g,j*2+1,none⟩=some (.int .i64 ((sortK a)[j].2:Int)))/\w.grownBy w' (some g):=by
 have u:g<w.heap.size:=(Array.getElem?_eq_some_iff.1 m).1;have H:∀ args w,(callFunc 87 args).run Tryz.prog w= .ok (.enter 87 args) w:=enters_of Tryz.func87 (by kernel_rfl) rfl;have c:(a.map pairI).toArray.size=a.length:=by simp
 have r:Sort.HoldsK encP 2 w g 0 (a.map pairI).toArray:=by
  intro t C;rw [Sort.size_flatK,c]at C;rw [Sort.get_flatK _ _ _ _ (by rw [c];exact C)];refine⟨?_,by simp [World.frozen?,m]⟩;have d:t / 2<(a.map pairI).length:=by simp;omega
  have B:=oE (a.map pairI) (t / 2) d;have i:((a.map pairI).toArray)[t / 2]! =(a.map pairI)[t / 2]:=by rw [getElem!_pos _ _ (by simpa using d)];simp
  rw [i];simp only [World.cell?,m];unfold flatK;rcases(by omega:t % 2=0\/t % 2=1)with h | h
  ·have l:0+t=t / 2*2:=by omega
   rw [h,l];simpa [encP]using B.1
  ·have l:0+t=t / 2*2+1:=by omega
   rw [h,l];simpa [encP]using B.2
 have p:=AnyQ.slices_SortFunc Tryz.srt 2 Tryz.isAgg165 Tryz.sizeOf165 encP (fun _=>rfl) (fun x v hv=>by simp [encP]at hv;rcases hv with rfl | rfl<;>rfl) cmpP Cn 87 #[] g 0 a.length (a.map pairI).toArray w H (fun _ _ _ _ x y=>vE x y _) r u (by rw [c];omega);change Calls Tryz.prog 86 _ _ _ at p
 rw [c]at p;refine p.mono ?_;rintro e w' ⟨rfl,b,n,f,K,L,rfl⟩;have J:=rK (by rw [c];exact K) (by rw [c];exact L);have z:b.size=a.length:=by have:=congrArg List.length J;simpa [(ke a).length_eq]using this
 have I:Sort.HoldsK encP 2 (Sort.ahead w n) g 0 (a.map pairI).toArray:=r;have s:Sort.HoldsK encP 2 (Sort.putRowK encP 2 (Sort.ahead w n) g 0 b) g 0 b:=Sort.holdsK_putRowK encP 2 _ _ _ _ _ I (by rw [c,z]);have q:(Sort.putRowK encP 2 (Sort.ahead w n) g 0 b).heap.size=w.heap.size:=by unfold Sort.putRowK;rw [Sort.size_putRow];rfl
 refine⟨rfl,fun j d=>?_,?_⟩
 ·have A:j<b.size:=by rw [z,<-(ke a).length_eq];exact d
  have D:b[j]! =pairI (sortK a)[j]:=by
   rw [getElem!_pos b j A];have i:b.toList[j]'(by simpa using A)=((sortK a).map pairI)[j]'(by simpa using d):=by congr 1
   simpa using i
  have E:∀ o v,(Sort.putRowK encP 2 (Sort.ahead w n) g 0 b).cell? ⟨g,o,none⟩=some v->(sortWorldK encP 2 w g 0 n b f).cell? ⟨g,o,none⟩=some v:=fun o v hc=>by
   unfold sortWorldK;rw [World.cell?_of_block (w:=Sort.putRowK encP 2 (Sort.ahead w n) g 0 b) (by
    show ((Sort.putRowK encP 2 (Sort.ahead w n) g 0 b).heap++f)[g]?=_
    rw [Array.getElem?_append_left (by rw [q];exact u)])]
   exact hc
  have k0:=(s (j*2) (by rw [Sort.size_flatK];omega)).1;have k1:=(s (j*2+1) (by rw [Sort.size_flatK];omega)).1;rw [Sort.get_flatK _ _ _ _ (by omega)]at k0 k1;have F:j*2 / 2=j:=by omega
  have G:(j*2+1) / 2=j:=by omega
  have M:j*2 % 2=0:=by omega
  have N:(j*2+1) % 2=1:=by omega
  rw [F,M,D]at k0;rw [G,N,D]at k1;simp only [Nat.zero_add]at k0 k1;exact⟨E _ _ k0,E _ _ k1⟩
 ·refine⟨rfl,rfl,rfl,?_,fun k hk hne=>?_⟩
  ·show w.heap.size<=((Sort.putRowK encP 2 (Sort.ahead w n) g 0 b).heap++f).size
   rw [Array.size_append,q];omega
  ·show ((Sort.putRowK encP 2 (Sort.ahead w n) g 0 b).heap++f)[k]?=w.heap[k]?
   rw [Array.getElem?_append_left (by rw [q];exact hk)];show (w.heap.modify g _)[k]?=w.heap[k]?
   rw [Array.getElem?_modify,if_neg (fun e=>hne (by rw [e]))]
end
section
open Go.RowKit
attribute [local go_sem] Go.World.cell?_alloc_some
theorem nk:((Tryz.prog.info? 3).map fun i=>(i.zero,i.size,i.bytes))=some (some (.int .i64 0),1,8):=by kernel_rfl
def intsF(a:List Int):List Value:=a.map fun x=> .int .i64 x
theorem yT(L:List Value)(x:Value)(i n:Nat)(b:L.length=i)(hi:i<n):(L++List.replicate (n - i) (Value.int .i64 0)).set i x=(L++[x])++List.replicate (n - (i+1)) (Value.int .i64 0):=by
 obtain⟨k,a⟩:∃ k,n - i=k+1/\n - (i+1)=k:=⟨n - (i+1),by omega,rfl⟩;rw [a.1,a.2,List.set_append,if_neg (by omega),b,Nat.sub_self,List.replicate_succ,List.set_cons_zero];simp
structure FmIn(fs:List Int)(W w':World)(gf i:Nat):Prop where
 row:w'.heap[gf]?=some (.cells (intsF (fs.take i)++List.replicate (fs.length - i) (Value.int .i64 0)).toArray 3 (0,0))
 gr:W.grownBy w' (some gf)
theorem ws{p:List (List Ins)}{o:Out}{xs:List Ev}(hp:vProg p=true)(Y:Stood p o xs)(aE:xs.length<=500)(w:World)(pv:Value)(C:ProgAt w pv p)(base:Nat)(M:Option Addr)(N:Nat)
  (hs:w.ownsRow base 76 2 (.slice M xs.length N) xs.length (flatS o.steps)) (v0 v1 v2 v3:Int) (V:Option Addr) (X W:Nat):
  Calls Tryz.prog 56 #[pv,.agg #[.int .i64 o.kind,.int .i64 o.thread,.int .i64 o.at_,.slice M xs.length N,.int .i64 v0,.int .i64 v1,.int .i64 v2,.int .i64 v3,.slice V X W]] w fun e w'=>∃ v,e= .returned v/\w'.ownsRow w.heap.size 3 1 v (formE p xs).length (intsF (formE p xs))/\w.grownBy w' none:=by
 obtain⟨i0,aK,aM,aN,aO⟩:=info_parts nk;obtain⟨ao,cap,rfl⟩:=C.form;have HP:=ij C;have HV:=ij hp;have az:=ij Y;have HR:=ij hs;have r:=kt p xs;have q0:(xs.length:Int)<=500:=by omega
 have q1:(0:Int)<=(xs.length:Int):=by omega
 clear C hp Y hs;go_enter Tryz.func56,Tryz.ntmps56
 go_wp2_with fail
 have F:∀ a b,w.grownBy ((w.alloc a).alloc b) none:=fun a b=>iq (iq (ir _ _))
 refine(AH HV.out az.out aE _ _ (HP.out.pres (ip (F _ _))) base M N (iG (iG HR.out)) v0 v1 v2 v3 V X W).mono ?_;rintro e O ⟨g,rfl,hg,K,ac⟩;have au:Hid (w.grownBy O none):=il (F _ _) ac;have aJ:w.heap.size<=g:=by simp at hg;omega
 have I:(keysE p xs).length=xs.length:=by unfold keysE;rw [List.length_map,iX]
 have B:=ij (BY (keysE p xs) g O K (by omega));rw [I]at B;have ae:g<O.heap.size:=(Array.getElem?_eq_some_iff.1 K).1;clear ac K hg F;go_wp2_with fail
 refine B.out.mono ?_;clear B;rintro e l ⟨rfl,Z,G⟩;have hsl:(sortK (keysE p xs)).length=xs.length:=by rw [(ke _).length_eq,I]
 have Q:Hid (formE p xs=(sortK (keysE p xs)).map fun x=>(x.2:Int)):=rfl;generalize sortK (keysE p xs)=qs at*;have A:=ij Z;have T:Hid (w.grownBy l none):=mp au.out G aJ;obtain⟨d,E⟩:∃ d,d=formE p xs:=⟨_,rfl⟩;rw [<-E]at Q r;have ar:=ij E;clear E;have aI:g<l.heap.size:=Nat.lt_of_lt_of_le ae G.size;clear Z G I;go_upto_region 4 with (at_make;refine wpList_make_full _ rfl _ _ _ rfl l.heap.size 3 i0 _ 1 Tryz.underlying39 aK aM aN .i64 .i64 _ _ xs.length rfl rfl rfl rfl (by rw [aO];omega) (by unfold maxLen;omega) (by simp) ?_;intro h af s)
 have L:h.heap[l.heap.size]?=some (.cells (List.replicate xs.length (Value.int .i64 0)).toArray 3 (0,0)):=by
  rcases af.2 with ⟨e,_⟩ | ⟨g',cap',cur,hv,_,hh,_,_,hcs,htk⟩
  ·cases e
  ·simp only [Value.slice.injEq,Option.some.injEq,Addr.mk.injEq,true_and,and_true]at hv;obtain⟨rfl,rfl⟩:=hv;rw [hh];have e1:cur.toList=List.replicate xs.length (Value.int .i64 0):=by
    have U:(madeCells #[Value.int .i64 0] (xs.length*1)).toList=List.replicate (xs.length*1) (Value.int .i64 0):=by
     apply List.ext_getElem (by simp [madeCells]);intro i h1 h2;simp only [madeCells,Array.toList_map,List.getElem_map,List.getElem_replicate,Array.toList_range,List.getElem_range];simp [Nat.mod_one]
    rw [Nat.mul_one]at U;rw [<-U];simp only [Value.cells,Nat.mul_one]at htk hcs;rw [<-htk,List.take_of_length_le (by simp;omega)]
   rw [<-e1]
 have aq:Hid (∀ j (hj:j<qs.length),h.cell? ⟨g,j*2,none⟩=some (.int .i64 (qs[j].1:Int))/\h.cell? ⟨g,j*2+1,none⟩=some (.int .i64 (qs[j].2:Int))):=fun j hj=>⟨ip s _ _ (A.out j hj).1,ip s _ _ (A.out j hj).2⟩
 have av:Hid (w.grownBy h none):=il T.out s;have y:Hid (FmIn d h h l.heap.size 0):=⟨by simpa [intsF,r]using L,ir _ _⟩;obtain⟨c,H⟩:∃ c,c=l.heap.size:=⟨_,rfl⟩;have hgf3:c<h.heap.size:=by rw [H];exact(Array.getElem?_eq_some_iff.1 L).1
 have aH:g≠c:=by omega
 have ad:w.heap.size<=c:=by have:=T.out.size;omega
 have aG:g<h.heap.size:=by omega
 rw [<-H]at y ⊢;clear af s L A H ae aI;go_wp2_with fail
 go_loopw [19] (fun iv w'=>∃ i:Nat,i<=xs.length/\iv= .int .i64 i/\Hid (FmIn d h w' c i)) (fun iv _=>xs.length - (intOf iv).toNat)
 case atStart=>exact⟨0,Nat.zero_le _,rfl,y⟩
 case round=>
  clear y;obtain⟨i,hi,rfl,k⟩:=hrel;obtain⟨f,aj⟩:∃ f,f=wr:=⟨_,rfl⟩;rw [<-aj]at k ⊢;clear aj;by_cases hlt:i<xs.length
  ·have aL:i<qs.length:=by omega
   obtain⟨c0,c1⟩:=aq.out i aL;have D:=k.out.gr.block g aG (by simpa using aH);have d0:f.cell? ⟨g,i*2,none⟩=some (.int .i64 (qs[i].1:Int)):=by rw [World.cell?_of_block D];exact c0
   have d1:f.cell? ⟨g,i*2+1,none⟩=some (.int .i64 (qs[i].2:Int)):=by rw [World.cell?_of_block D];exact c1
   have aa:i<d.length:=by omega
   have S:Hid (d.take (i+1)=d.take i++[(qs[i].2:Int)]):=by
    unfold Hid;rw [List.take_succ_eq_append_getElem aa];congr 2
    simp [Q.out]
   have hs5:h.heap.size<=f.heap.size:=k.out.gr.size;obtain⟨R,n⟩:∃ R:List Value,R=intsF (d.take i)++List.replicate (d.length - i) (Value.int .i64 0):=⟨_,rfl⟩;have aF:R.length=d.length:=by rw [n];simp [intsF];omega
   have J:=k.out.row;rw [<-n]at J;clear c0 c1 D;generalize qs[i]=q at*;obtain⟨u,m⟩:=q;simp only at d0 d1 S;have t:(f.alloc (.cells #[.int .i64 (u:Int),.int .i64 (m:Int)] 165)).heap[c]?=some (.cells R.toArray 3 (0,0)):=by
    rw [Below.heap_alloc _ _ _ (by omega)];exact J
   have z0:∃ z,(f.alloc (.cells #[.int .i64 (u:Int),.int .i64 (m:Int)] 165)).cell? ⟨c,i,none⟩=some z:=⟨R[i]'(by omega),by simp only [World.cell?,t];simp⟩;obtain⟨z,z0⟩:=z0;have fz0:(f.alloc (.cells #[.int .i64 (u:Int),.int .i64 (m:Int)] 165)).frozen? ⟨c,i,none⟩=false:=by simp [World.frozen?,t]
   have aw:Hid (FmIn d h ((f.alloc (.cells #[.int .i64 (u:Int),.int .i64 (m:Int)] 165)).setCell ⟨c,i,none⟩ (.int .i64 (m:Int))) c (i+1)):=by
    refine⟨?_,il k.out.gr (il (iq (ir _ _)) mo)⟩;rw [heap_setCell_same _ c i _ _ _ t,S.out];simp only [List.setIfInBounds_toArray];rw [n,yT _ _ i d.length (by simp [intsF];omega) aa];simp [intsF]
   have t0:(0:Int)<=(i:Int):=by omega
   have t1:(i:Int)<xs.length:=by omega
   have hne5:c≠f.heap.size:=by omega
   have hne6:f.heap.size≠c:=by omega
   clear J t n aF;go_wp2_with fail
   go_roundw
   case rel=>exact⟨i+1,by omega,by go_num,aw⟩
   case measure=>simp [intOf];omega
  ·have t1:(xs.length:Int)<=(i:Int):=by omega
   have ei:i=xs.length:=by omega
   have P:Hid (f.ownsRow w.heap.size 3 1 (.slice (some ⟨c,0,none⟩) xs.length xs.length) d.length (intsF d)/\w.grownBy f none):=by
    have hr:=k.out.row;rw [List.take_of_length_le (by omega),show d.length - i=0 by omega]at hr;refine⟨⟨by simp [intsF],Or.inr ⟨c,xs.length,_,by rw [r],ad,hr,by omega,by unfold maxLen;omega,by simp [intsF,r],?_⟩⟩,mp av.out k.out.gr ad⟩;simp [intsF];rw [List.take_of_length_le (by simp)]
   go_wp2_with fail
   go_ret;refine⟨.slice (some ⟨c,0,none⟩) xs.length xs.length,rfl,?_,P.out.2⟩;rw [<-ar.out];exact P.out.1
theorem ly{w w':World}(h:w.drew.grownBy w' none):w.grownBy w' none:=⟨h.os,h.tape,h.output,h.size,h.block⟩
theorem kY(p:List (List Ins))(l:List Int):(runS p l).steps.length<=l.length:=by
 obtain⟨m,h1,h2,a,_⟩:=lf p l 0 St.zero [];unfold runS;simp at a;omega
theorem tC{p:List (List Ins)}{s:List Int}(a:checkRunN p s=0):vProg p=true/\s.length<=500:=by
 unfold checkRunN at a;by_cases b:vProg p=true
 ·by_cases c:s.length<=500
  ·exact⟨b,c⟩
  ·simp [b,c]at a
 ·simp [b]at a
theorem lB{p:List (List Ins)}(f:vProg p=true)(s:List Int)(h5:s.length<=500){base:Nat}{u:World}{rv:Value}(i:ResAt base u (runS p s) p.length rv)(w:World)(j:u.grownBy w none)(pv:Value)(h:ProgAt w pv p):
  Calls Tryz.prog 56 #[pv,rv] w fun e w'=>∃ v,e= .returned v/\w'.ownsRow w.heap.size 3 1 v (formS p (runS p s)).length (ints (formS p (runS p s)))/\w.grownBy w' none:=by
 obtain⟨xs,b⟩:=kZ f s;obtain⟨sv,gv,rfl,c,l⟩:=i;obtain⟨x1,x2,x3,rfl⟩:=iw c;obtain⟨n,o,q,rfl⟩:=iw l;have k:(runS p s).steps.length=xs.length:=by rw [b.st];simp
 have m:=iB c;subst m;have hle:=kY p s;have d:=iC c j (fun _ e=>by cases e);rw [k]at d ⊢;have:=ws f b (by omega) w pv h base x1 x3 d ((runS p s).st.vars 0) ((runS p s).st.vars 1) ((runS p s).st.vars 2) ((runS p s).st.vars 3) n o q;unfold formS;rw [b.ev];exact this
def Formd(p:List (List Ins))(s:List Int)(w:World)(e:Ending)(w':World):Prop:=
 w.grownBy w' none/\
 ((checkRunN p s=0/\∃ v,e= .returned (.tuple #[v,.int .i64 0])/\w'.ownsRow w.heap.size 3 1 v (formS p (runS p s)).length (ints (formS p (runS p s))))\/
  (checkRunN p s≠0/\e= .returned (.tuple #[.slice none 0 0,.int .i64 (checkRunN p s)])))
theorem BD(p:List (List Ins))(s:List Int)(pv sv:Value)(w:World)(W:ShpAt w)(z:ProgAt w pv p)(y:IntsAt w.heap.size w sv s):
  Calls Tryz.prog 28 #[pv,sv] w (Formd p s w):=by
 have ag:=ij W;have q:=ij z;have HI:=ij y;obtain⟨d,f,rfl⟩:=z.form;obtain⟨so,sc,rfl⟩:=y.form;clear W z y;go_enter Tryz.func28,Tryz.ntmps28
 go_wp2_with fail
 have A:∀ a b,w.grownBy ((w.alloc a).alloc b) none:=fun a b=>iq (iq (ir _ _))
 refine(la p [s] _ _ _ (ag.out.pres (ip (A _ _))) (q.out.pres (ip (A _ _))) (ns (by simp)) (by simp)).mono ?_;rw [kQ];rintro e j ⟨rfl,B⟩;have l:Hid (w.grownBy j none):=il (A _ _) B;have X:j.heap[w.heap.size]?=some (.cells #[.slice d p.length f] 37 (0,0)):=by
  rw [B.block w.heap.size (by simp;omega) (by simp),Below.heap_alloc _ _ _ (by simp)];exact heap_alloc_new w _
 have c0:j.cell? ⟨w.heap.size,0,none⟩=some (.slice d p.length f):=by simp [World.cell?,X]
 clear X B;by_cases c:checkRunN p s=0
 ·have k:=ij c;obtain⟨Z,M⟩:=tC c;have r:=ij Z;rw [c];clear c Z;go_wp2_with fail
  refine iz (fun u=>u.cell? ⟨w.heap.size,0,none⟩=some (.slice d p.length f)) 7 (by kernel_rfl) (by kernel_rfl) c0 ?_;intro x;refine ie 0 ?va0 rfl (by kernel_rfl) (fun _ _ _ h=>h) (by rfl) ?ya0 x ?_
  case ya0=>(intro u E;go_simp;try rfl)
  simp only [Act.put,List.setIfInBounds_toArray];refine ie 1 ?va1 rfl (by kernel_rfl) (fun _ _ _ h=>h) (by rfl) ?ya1 x ?_
  case ya1=>(intro u E;go_simp;try rfl)
  simp only [Act.put];refine ie 3 ?va3 rfl (by kernel_rfl) (fun _ _ _ h=>h) (by rfl) ?ya3 x ?_
  case ya3=>(intro u E;go_simp;try rfl)
  simp only [Act.put];refine iu (i:=2) rfl (by kernel_rfl) (by kernel_rfl) (by rfl) ?_;intro K2 R;have J:=ij R;clear R;go_simp;refine(uV r.out (q.out.pres (ip (iy l.out)))).mono ?_;rintro e F ⟨m,rfl,U,Y⟩;have HM:=ij U;have I:Hid (j.grownBy F none):=ly Y;have n:Hid (w.grownBy F none):=il l.out I.out;have O:F.cell? ⟨w.heap.size,0,none⟩=some (.slice d p.length f):=ip I.out _ _ c0;refine J.out _ _ O ?_;clear J U Y;try simp only [Act.put,List.setIfInBounds_toArray]
  refine iu (i:=4) rfl (by kernel_rfl) (by kernel_rfl) (by rfl) ?_;intro K4 S;have K:=ij S;clear S;go_simp;refine(qo r.out HM.out (Nat.le_refl _) ((HI.out.pres (ip n.out)).mono n.out.size) M).mono ?_;rintro e G ⟨rv,rfl,V,C⟩;have HR:=ij V;have o:Hid (w.grownBy G none):=il n.out C;have P:G.cell? ⟨w.heap.size,0,none⟩=some (.slice d p.length f):=ip C _ _ O;refine K.out _ _ P ?_;clear K V C;try simp only [Act.put,List.setIfInBounds_toArray]
  refine iu (i:=5) rfl (by kernel_rfl) (by kernel_rfl) (by rfl) ?_;intro K5 T;have L:=ij T;clear T;go_simp;refine(lB r.out s M HR.out G (ir _ _) _ (q.out.pres (ip o.out))).mono ?_;rintro e w4 ⟨fv,rfl,t,D⟩;obtain⟨f1,f2,f3,rfl⟩:=iw t;have HF:=ij t;have ac:Hid (w.grownBy w4 none):=il o.out D;have Q:w4.cell? ⟨w.heap.size,0,none⟩=some (.slice d p.length f):=ip D _ _ P;refine L.out _ _ Q ?_;clear L t D;try simp only [Act.put,List.setIfInBounds_toArray]
  refine ie 6 ?vb6 rfl (by kernel_rfl) (fun _ _ _ h=>h) (by rfl) ?yb6 Q ?_
  case yb6=>(intro u E;go_simp;try rfl)
  simp only [Act.put,List.setIfInBounds_toArray];refine iF rfl (by kernel_rfl) (by kernel_rfl) (by rfl) ?_;go_simp;go_wp2_with fail
  exact bodyPost_ret (v:= .tuple #[.slice f1 f2 f3,.int .i64 0]) (by simp [results,Tryz.results28,go_sem]) rfl ⟨ac.out,Or.inl ⟨k.out,_,rfl,iK HF.out o.out.size⟩⟩
 ·have k:=ij c;have hne:(checkRunN p s !=0)=true:=by simpa using c
  clear c;generalize N:checkRunN p s=e at*;have H:=ij N;clear N;go_wp2_with fail
  exact bodyPost_ret (v:= .tuple #[.slice none 0 0,.int .i64 e]) (by simp [results,Tryz.results28,go_sem]) rfl ⟨l.out,Or.inr ⟨by rw [H.out];exact k.out,by rw [H.out]⟩⟩
end
end Go.Proofs.YtklenjmfalljgabGreatDoor
