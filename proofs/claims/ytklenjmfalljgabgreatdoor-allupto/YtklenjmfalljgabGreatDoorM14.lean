/- The texts Fhc Fhd Rdp. -/
import Derived.Test.YtklenjmfalljgabGreatDoorM00
import Derived.Test.YtklenjmfalljgabGreatDoorM13
import Derived.Deep.DeepCutAuto
namespace Go.Proofs.YtklenjmfalljgabGreatDoor
set_option maxRecDepth 100000
set_option maxHeartbeats 8000000
section
open Go.RowKit Go.Maps
attribute [local go_sem] Go.World.cell?_alloc_some
theorem HistAt.nocell{w:World}{b n:Nat}{F:Use->Nat}(h:HistAt w b n F)(o:Nat):w.cell? ⟨b,o,none⟩=none:=by
 obtain⟨D,⟨es,cl,a,_⟩,_⟩:=h;simp [World.cell?,a]
def enterF(x:Nat):List Use->(Use->Nat)->Use->Nat
 | [],F=>F
 | u::r,F=>enterF x r (putF F u (max (F u) x))
theorem nb(x:Nat):∀ (us:List Use) (F:Use->Nat) (v:Use),enterF x us F v=if v∈us then max (F v) x else F v
 | [],F,v=>by simp [enterF]
 | u::r,F,v=>by
  unfold enterF;rw [nb x r];unfold putF;by_cases e:v=u
  ·subst e;simp
  ·simp [e]
theorem sf(x:Nat)(b:List Use)(u:Use)(F:Use->Nat):enterF x (b++[u]) F=putF (enterF x b F) u (max (enterF x b F u) x):=by
 induction b generalizing F with
 | nil=>rfl
 | cons a r ih=>simp only [List.cons_append,enterF];exact ih _
theorem Aa{w:World}{b n:Nat}{F:Use->Nat}(B:HistAt w b n F)(I:∀ u,F u<=1000)(hn:n<=100000)(a:List Use)(Q:∀ u∈a,smallU u)(v:Value)(hU:UsesAt w v a)(hl:a.length<=10)(c:Nat)(hla:c<=900):
  Calls Tryz.prog 126 #[.map (some b),v,.int .i64 (c:Int)] w fun e w'=>(∃ v,e= .returned v)/\HistAt w' b (n+a.length) (enterF (c+1) a F)/\w.grownBy w' (some b):=by
 obtain⟨g,cap,rfl,hg,hc⟩:=hU;have D:=ij B;have W:=ij I;have HS:=ij Q;have U:=ij hc;have hl':(a.length:Int)<=10:=by omega
 have hla':(c:Int)<=900:=by omega
 have hla0:(0:Int)<=(c:Int):=by omega
 have hbw:=B.lt;clear B I Q hc;go_enter Tryz.func126,Tryz.ntmps126
 go_wp2_with fail
 go_loopw [10] (fun i w'=>∃ k:Nat,k<=a.length/\i= .int .i64 k/\Hid (HistAt w' b (n+k) (enterF (c+1) (a.take k) F))/\Hid (w.grownBy w' (some b))) (fun i _=>a.length - (intOf i).toNat)
 case atStart=>exact⟨0,Nat.zero_le _,rfl,D,ir _ _⟩
 case round=>
  obtain⟨k,hk,rfl,t,s⟩:=hrel;obtain⟨d,R⟩:∃ d,d=wr:=⟨_,rfl⟩;rw [<-R]at t s ⊢;clear R;by_cases C:k<a.length
  ·obtain⟨c0,c1,H⟩:=U.out k C;have ah:g≠b:=fun e=>by
    have:=D.out.nocell (k*3);rw [<-e,c0]at this;cases this
   have z:=s.out.block g hg (by simpa using ah);have d0:d.cell? ⟨g,k*3,none⟩=some (.int .i64 (a[k].1:Int)):=by rw [World.cell?_of_block z];exact c0
   have d1:d.cell? ⟨g,k*3+1,none⟩=some (.int .i64 (a[k].2.1:Int)):=by rw [World.cell?_of_block z];exact c1
   have d2:d.cell? ⟨g,k*3+2,none⟩=some (.bool a[k].2.2):=by rw [World.cell?_of_block z];exact H
   have O:=HS.out _ (List.getElem_mem C);have E:Hid (enterF (c+1) (a.take (k+1)) F=putF (enterF (c+1) (a.take k) F) a[k] (max (enterF (c+1) (a.take k) F a[k]) (c+1))):=by
    unfold Hid;rw [List.take_succ_eq_append_getElem C,sf]
   have hfx:enterF (c+1) (a.take k) F a[k]<=1000:=by
    rw [nb];have:=W.out a[k];split<;>omega
   have hbw5:=t.out.lt;clear c0 c1 H z;generalize a[k]=u at*;obtain⟨p,q,r⟩:=u;simp only at d0 d1 d2;generalize enterF (c+1) (a.take k) F=G at*;generalize K:G (p,q,r)=fv at*;have X:=ij K;clear K;have k0:(0:Int)<=(k:Int):=by omega
   have k1:(k:Int)<a.length:=by omega
   have A:Hid (HistAt (d.alloc (.cells #[.int .i64 (p:Int),.int .i64 (q:Int),.bool r] 240)).drew b (n+k) G):=t.out.kept (iy (iq (ir _ _)));obtain⟨T,P,J,L⟩:=A.out.put (u:=(p,q,r)) O (x:=max fv (c+1)) (by omega) (by omega);have Z:Hid (HistAt T b (n+(k+1)) (enterF (c+1) (a.take (k+1)) F)):=by
    unfold Hid;rw [E.out];exact J
   have Y:Hid (w.grownBy T (some b)):=il s.out (il (iy (iq (ir _ _))) L);have M:(if (fv:Int)<(c:Int)+1 then ((c:Int)+1) else (fv:Int))=((max fv (c+1):Nat):Int):=by split<;>omega
   clear J L E;have y:(d.alloc (.cells #[.int .i64 (p:Int),.int .i64 (q:Int),.bool r] 240)).drew.heap[d.heap.size]?=some (.cells #[.int .i64 (p:Int),.int .i64 (q:Int),.bool r] 240):=heap_alloc_new d _;go_upto_region 3 with fail
   refine iz (fun u=>(u.cell? ⟨d.heap.size,0,none⟩=some (.int .i64 (p:Int))/\u.cell? ⟨d.heap.size,1,none⟩=some (.int .i64 (q:Int))/\u.cell? ⟨d.heap.size,2,none⟩=some (.bool r))/\HistAt u b (n+k) G) 8 (by kernel_rfl) (by kernel_rfl) ⟨⟨by simp only [World.cell?,y];rfl,by simp only [World.cell?,y];rfl,by simp only [World.cell?,y];rfl⟩,A.out⟩ ?_;intro j;have S:IntKind.i64.wrap ((c:Int)+1)=(c:Int)+1:=by rw [IntKind.wrap_i64];omega
   refine ie 0 ?va0 rfl (by kernel_rfl) (fun _ _ _ h=>h) (by rfl) ?ya0 j ?_
   case ya0=>(rintro u ⟨⟨l,m,o⟩,f⟩;go_simp;try rfl)
   simp only [Act.put,List.setIfInBounds_toArray];refine ie 1 ?va1 rfl (by kernel_rfl) (fun _ _ _ h=>h) (by rfl) ?ya1 j ?_
   case ya1=>(rintro u ⟨⟨l,m,o⟩,f⟩;go_simp;try rfl)
   simp only [Act.put];refine ie 2 ?va2 rfl (by kernel_rfl) (fun _ _ _ h=>h) (by rfl) ?ya2 j ?_
   case ya2=>(rintro u ⟨⟨l,m,o⟩,f⟩;go_simp;try rfl)
   simp only [Act.put];refine ie 3 ?va3 rfl (by kernel_rfl) (fun _ _ _ h=>h) (by rfl) ?ya3 j ?_
   case ya3=>(rintro u ⟨⟨l,m,o⟩,f⟩;go_simp;try rfl)
   simp only [Act.put];refine jr (i:=4) (v:= .int .i64 (fv:Int)) rfl (by kernel_rfl) (fun _ _ _ h=>h) (Or.inl ⟨by rfl,?ya4⟩) j ?resta4
   case ya4=>(rintro u ⟨⟨l,m,o⟩,f⟩;have N:=f.look (u:=(p,q,r)) O;rw [X.out]at N;unfold useV at N;clear f;go_simp)
   simp only [Act.put];refine ie 5 ?va5 rfl (by kernel_rfl) (fun _ _ _ h=>h) (by rfl) ?ya5 j ?_
   case ya5=>(rintro u ⟨⟨l,m,o⟩,f⟩;go_simp;try rfl)
   simp only [Act.put];refine jr (i:=6) (v:= .int .i64 ((c:Int)+1)) rfl (by kernel_rfl) (fun _ _ _ h=>h) (Or.inl ⟨by rfl,?ya6⟩) j ?resta6
   case ya6=>(rintro u ⟨⟨l,m,o⟩,f⟩;go_simp;try rw [S])
   simp only [Act.put];refine jr (i:=7) (v:= .int .i64 ((max fv (c+1):Nat):Int)) rfl (by kernel_rfl) (fun _ _ _ h=>h) (Or.inl ⟨by rfl,?ya7⟩) j ?resta7
   case ya7=>(rintro u ⟨⟨l,m,o⟩,f⟩;clear f;go_simp;try rw [M])
   simp only [Act.put];refine iF rfl (by kernel_rfl) (by kernel_rfl) (by rfl) ?_;unfold useV at P;go_simp;clear j P A S M y;go_wp2_with fail
   go_roundw
   case rel=>exact⟨k+1,by omega,by go_num,Z,Y⟩
   case measure=>simp [intOf];omega
  ·have k1:(a.length:Int)<=(k:Int):=by omega
   have ek:k=a.length:=by omega
   have V:Hid (HistAt d b (n+a.length) (enterF (c+1) a F)):=by
    have:=t.out;rwa [List.take_of_length_le (by omega),ek]at this
   go_wp2_with fail
   go_end0
   exact⟨⟨_,rfl⟩,V.out,s.out⟩
theorem rL{i:Ins}{len:Int}(h:vIns i len=true):0<=i.a/\i.a<4/\0<=i.b/\i.b<4:=by
 obtain⟨h1,h2⟩:=rN h;obtain⟨c,d,f⟩:=pn h;have hc:i.op=1\/i.op=2\/i.op=3\/i.op=4\/i.op=5\/i.op=6\/i.op=7\/i.op=8\/i.op=9\/i.op=10\/i.op=11:=by omega
 rcases hc with e | e | e | e | e | e | e | e | e | e | e<;>rw [e]at c d f<;>simp [shp,fitsB,belowB]at c d f<;>omega
theorem uE{t:Nat}{i:Ins}(ht:t<4)(ha:i.a<4)(hb:i.b<4):(∀ u∈usesI t i,smallU u)/\(usesI t i).length<=10:=by
 unfold usesI smallU;by_cases e:i.op=9\/i.op=10
 ·simp [e];omega
 ·by_cases c:i.op=2
  ·simp [c];omega
  ·by_cases d:i.op=3
   ·simp [d];omega
   ·simp [e,c,d];omega
def pairI(q:Nat × Nat):Int × Int:=((q.1:Int),(q.2:Int))
def flatK(ks:List (Nat × Nat)):List Value:=flatS (ks.map pairI)
theorem vR(a:List (Nat × Nat)):(flatK a).length=a.length*2:=by
 induction a with
 | nil=>rfl
 | cons x r ih=>simp only [flatK,flatS,List.map_cons,List.flatMap_cons,List.length_append]at*;simp at*;omega
theorem tP(a:List (Nat × Nat))(q:Nat × Nat):flatK (a++[q])=flatK a++[.int .i64 (q.1:Int),.int .i64 (q.2:Int)]:=by
 unfold flatK;rw [List.map_append,List.map_cons,List.map_nil,kE];rfl
theorem yU(L:List Value)(x y:Value)(i n:Nat)(b:L.length=i*2)(hi:i<n):((L++List.replicate ((n - i)*2) (Value.int .i64 0)).set (i*2) x).set (i*2+1) y=(L++[x,y])++List.replicate ((n - (i+1))*2) (Value.int .i64 0):=by
 obtain⟨k,a⟩:∃ k,(n - i)*2=k+2/\(n - (i+1))*2=k:=⟨(n - (i+1))*2,by omega,rfl⟩;rw [a.1,a.2,List.set_append,if_neg (by omega),b,Nat.sub_self,List.replicate_succ,List.set_cons_zero,List.set_append,if_neg (by omega),b];have e:i*2+1 - i*2=1:=by omega
 rw [e,List.replicate_succ];simp
theorem sw:((Tryz.prog.info? 165).map fun i=>(i.zero,i.size,i.bytes))=some (some (.agg #[.int .i64 0,.int .i64 0]),2,16):=by kernel_rfl
theorem yE(n:Nat):(madeCells #[Value.int .i64 0,.int .i64 0] n).toList=List.replicate n (.int .i64 0):=by
 apply List.ext_getElem (by simp [madeCells]);intro i h1 a;simp only [madeCells,Array.toList_map,List.getElem_map,List.getElem_replicate];have:i<n:=by simpa using a
 simp only [Array.toList_range,List.getElem_range];rcases(by omega:i % 2=0\/i % 2=1)with h | h<;>simp [h]
theorem oE:∀ (l:List (Int × Int)) (j:Nat) (hj:j<l.length),(flatS l)[j*2]?=some (.int .i64 l[j].1)/\(flatS l)[j*2+1]?=some (.int .i64 l[j].2)
 | [],j,hj=>by simp at hj
 | x::l,0,hj=>by simp [flatS]
 | x::l,j+1,hj=>by
  have h:=oE l j (by simpa using hj);have e:flatS (x::l)=[.int .i64 x.1,.int .i64 x.2]++flatS l:=by simp [flatS]
  have e2:∀ q,(flatS (x::l))[(j+1)*2+q]?=(flatS l)[j*2+q]?:=fun q=>by
   rw [e,List.getElem?_append_right (by simp;omega)];congr 1
   simp;omega
  refine⟨?_,?_⟩
  ·have:=e2 0;simp only [Nat.add_zero]at this;rw [this];simpa using h.1
  ·rw [e2 1];simpa using h.2
theorem mV{w:World}{base:Nat}{a:Option Addr}{c:Nat}{xs:List Ev}{o:Out}(h:w.ownsRow base 76 2 (.slice a xs.length c) xs.length (flatS o.steps))(b:o.steps=xs.map Ev.pr){j:Nat}(f:j<xs.length):
  ∃ g,a=some ⟨g,0,none⟩/\w.cell? ⟨g,j*2,none⟩=some (.int .i64 (xs[j].t:Int))/\w.cell? ⟨g,j*2+1,none⟩=some (.int .i64 xs[j].k):=by
 rcases h.2 with ⟨_,e⟩ | ⟨g,cap,_,e,_⟩
 ·omega
 ·simp only [Value.slice.injEq,true_and]at e;obtain⟨rfl,rfl⟩:=e;have i:j<o.steps.length:=by rw [b];simpa using f
  have q:=oE o.steps j i;have d:o.steps[j]=xs[j].pr:=by simp [b]
  rw [d]at q;exact⟨g,rfl,by rw [h.cellAt _ (by omega)];exact q.1,by rw [h.cellAt _ (by omega)];exact q.2⟩
theorem tY{w:World}{c:Option Addr}{l:Nat}{p:List (List Ins)}(u:ProgAt w (.agg #[.slice c p.length l]) p){t:Nat}(j:t<p.length){k:Nat}(i:k<(codeOf p t).length):
  ∃ g o ca cc cg co,c=some ⟨g,o,none⟩/\ca=some ⟨cg,co,none⟩/\w.cell? ⟨g,o+t,none⟩=some (.slice ca (codeOf p t).length cc)/\w.cell? ⟨cg,co+k*4,none⟩=some (.int .i64 (insAt p t k).op)/\w.cell? ⟨cg,co+k*4+1,none⟩=some (.int .i64 (insAt p t k).a)/\w.cell? ⟨cg,co+k*4+2,none⟩=some (.int .i64 (insAt p t k).b)/\w.cell? ⟨cg,co+k*4+3,none⟩=some (.int .i64 (insAt p t k).n):=by
 obtain⟨ao',cap',e,h⟩:=u;simp at e;obtain⟨rfl,rfl⟩:=e;obtain⟨g,o,m,rv,c0,ca,cc,d,f⟩:=h t j;have r:=kC j;rw [<-r]at f d;obtain⟨cg,co,q,k0,k1,k2,v⟩:=f k i;have s:insAt p t (k:Int)=(codeOf p t)[k]:=by rw [j4 (by simpa using i)];simp
 rw [s];exact⟨g,o,ca,cc,cg,co,m,q,by rw [c0,d],k0,k1,k2,v⟩
theorem HistAt.keptRow{w w':World}{b n r:Nat}{F:Use->Nat}(h:HistAt w b n F)(d:w.grownBy w' (some r))(e:r≠b):HistAt w' b n F:=by
 obtain⟨D,a,c⟩:=h;exact⟨D,a.kept d (by simpa using Ne.symm e),c⟩
theorem HistAt.mono{w:World}{b n n':Nat}{F:Use->Nat}(h:HistAt w b n F)(d:n<=n'):HistAt w b n' F:=by
 obtain⟨D,a,c⟩:=h;exact⟨D,a.mono d,c⟩
theorem mo{w:World}{g o:Nat}{v:Value}:w.grownBy (w.setCell ⟨g,o,none⟩ v) (some g):=⟨rfl,rfl,rfl,by simp,fun k _ hk=>Below.heap_setCell _ _ _ _ (by simp at hk ⊢;omega)⟩
structure PlIn(p:List (List Ins))(xs:List Ev)(W w':World)(gl gm i h:Nat):Prop where
 row:w'.heap[gl]?=some (.cells (flatK ((tl (depE p) [] (xs.take i)).map keyE)++List.replicate ((xs.length - i)*2) (Value.int .i64 0)).toArray 165 (0,0))
 his:HistAt w' gm (i*10) (histOf p (tl (depE p) [] (xs.take i)))
 hgh:h=highOf (tl (depE p) [] (xs.take i))
 gr:∀ k,k<W.heap.size->w'.heap[k]?=W.heap[k]?
 sz:W.heap.size<=w'.heap.size
 os:w'.os=W.os/\w'.tape=W.tape/\w'.output=W.output
theorem AH{p:List (List Ins)}{o:Out}{xs:List Ev}(hp:vProg p=true)(bm:Stood p o xs)(h500:xs.length<=500)(w:World)(pv:Value)(hP:ProgAt w pv p)(base:Nat)(I:Option Addr)(y:Nat)
  (hs:w.ownsRow base 76 2 (.slice I xs.length y) xs.length (flatS o.steps)) (V W X Y:Int) (O:Option Addr) (S P:Nat):
  Calls Tryz.prog 85 #[pv,.agg #[.int .i64 o.kind,.int .i64 o.thread,.int .i64 o.at_,.slice I xs.length y,.int .i64 V,.int .i64 W,.int .i64 X,.int .i64 Y,.slice O S P]] w fun e w'=>∃ g,e= .returned (.slice (some ⟨g,0,none⟩) xs.length xs.length)/\w.heap.size<=g/\w'.heap[g]?=some (.cells (flatK (keysE p xs)).toArray 165 (0,0))/\w.grownBy w' none:=by
 obtain⟨i0,cv,cE,cF,cG⟩:=info_parts sw;obtain⟨ao,J,rfl⟩:=hP.form;have HP:=ij hP;have HV:=ij hp;have aG:=ij bm;have HR:=ij hs;have hlen:=iW hp;have q0:(xs.length:Int)<=500:=by omega
 have q1:(0:Int)<=(xs.length:Int):=by omega
 clear hP hp bm hs;go_enter Tryz.func85,Tryz.ntmps85
 go_upto_region 1 with fail
 have bg:w.grownBy ((w.alloc (.cells #[.slice ao p.length J] 37)).alloc (.cells #[.int .i64 o.kind,.int .i64 o.thread,.int .i64 o.at_,.slice I xs.length y,.int .i64 V,.int .i64 W,.int .i64 X,.int .i64 Y,.slice O S P] 31)) none:=iq (iq (ir _ _));have bk:((w.alloc (.cells #[.slice ao p.length J] 37)).alloc (.cells #[.int .i64 o.kind,.int .i64 o.thread,.int .i64 o.at_,.slice I xs.length y,.int .i64 V,.int .i64 W,.int .i64 X,.int .i64 Y,.slice O S P] 31)).heap[w.heap.size]?=some (.cells #[.slice ao p.length J] 37 (0,0)):=by
  rw [Below.heap_alloc _ _ _ (by simp)];exact heap_alloc_new _ _
 have aK:((w.alloc (.cells #[.slice ao p.length J] 37)).alloc (.cells #[.int .i64 o.kind,.int .i64 o.thread,.int .i64 o.at_,.slice I xs.length y,.int .i64 V,.int .i64 W,.int .i64 X,.int .i64 Y,.slice O S P] 31)).heap[w.heap.size+1]?=some (.cells #[.int .i64 o.kind,.int .i64 o.thread,.int .i64 o.at_,.slice I xs.length y,.int .i64 V,.int .i64 W,.int .i64 X,.int .i64 Y,.slice O S P] 31 (0,0)):=by
  have:=heap_alloc_new (w.alloc (.cells #[.slice ao p.length J] 37)) (.cells #[.int .i64 o.kind,.int .i64 o.thread,.int .i64 o.at_,.slice I xs.length y,.int .i64 V,.int .i64 W,.int .i64 X,.int .i64 Y,.slice O S P] 31);simpa using this
 have aU:((w.alloc (.cells #[.slice ao p.length J] 37)).alloc (.cells #[.int .i64 o.kind,.int .i64 o.thread,.int .i64 o.at_,.slice I xs.length y,.int .i64 V,.int .i64 W,.int .i64 X,.int .i64 Y,.slice O S P] 31)).heap.size=w.heap.size+2:=by simp
 generalize (w.alloc (.cells #[.slice ao p.length J] 37)).alloc (.cells #[.int .i64 o.kind,.int .i64 o.thread,.int .i64 o.at_,.slice I xs.length y,.int .i64 V,.int .i64 W,.int .i64 X,.int .i64 Y,.slice O S P] 31)=w1 at*;have ch:=ij bk;have ck:=ij aK;have aa:=ij bg;have r3:w1.cell? ⟨w.heap.size+1,3,none⟩=some (.slice I xs.length y):=by simp [World.cell?,aK]
 clear bk aK bg;go_upto_region 2 with (at_make;refine wpList_make_full _ rfl _ _ _ rfl w1.heap.size 165 i0 _ 2 Tryz.underlying161 cv cE cF .i64 .i64 _ _ xs.length rfl rfl rfl rfl (by rw [cG];omega) (by unfold maxLen;omega) (by simp) ?_;intro Z bE bv)
 have aR:Z.heap[w1.heap.size]?=some (.cells (List.replicate (xs.length*2) (Value.int .i64 0)).toArray 165 (0,0)):=by
  rcases bE.2 with ⟨e,_⟩ | ⟨g',cap',cur,hv,_,hh,_,_,hcs,htk⟩
  ·cases e
  ·simp only [Value.slice.injEq,Option.some.injEq,Addr.mk.injEq,true_and,and_true]at hv;obtain⟨rfl,rfl⟩:=hv;rw [hh];have e1:cur.toList=List.replicate (xs.length*2) (Value.int .i64 0):=by
    rw [<-yE];simp only [Value.cells]at htk;rw [<-htk,List.take_of_length_le (by simp;omega)]
   rw [<-e1]
 have aT:w1.heap.size<Z.heap.size:=(Array.getElem?_eq_some_iff.1 aR).1;have ab:Hid (w1.grownBy Z none):=bv;have aF:=ij aR;rw [aU]at aT aF;clear bE bv aR;have cA:= @run_makeMap Tryz.prog;have r4:Z.cell? ⟨w.heap.size+1,3,none⟩=some (.slice I xs.length y):=ip ab.out _ _ r3;go_upto_region 4 with fail
 have H0:Hid (PlIn p xs w1 (Z.alloc (.map #[] 0)) (w.heap.size+2) Z.heap.size 0 0):=by
  refine⟨?_,?_,rfl,fun k hk=>?_,?_,ab.out.os,ab.out.tape,ab.out.output⟩
  ·rw [Below.heap_alloc _ _ _ aT];simpa [tl,flatK,flatS]using aF.out
  ·have e:histOf p (tl (depE p) [] (xs.take 0))=fun _=>0:=by funext u;simp [tl,histOf]
   rw [e];have:=HistAt.made Z;simpa using this
  ·rw [Below.heap_alloc _ _ _ (by have:=ab.out.size;omega)];exact ab.out.block k hk (by simp)
  ·have:=ab.out.size;simp;omega
 obtain⟨Q,bx⟩:∃ Q,Q=Z.heap.size:=⟨_,rfl⟩;obtain⟨d,bw⟩:∃ d,d=w.heap.size+2:=⟨_,rfl⟩;have aw:Hid (d=w1.heap.size/\w1.heap.size=w.heap.size+2/\d<Q):=⟨by omega,aU,by omega⟩;rw [<-bx,<-bw]at H0 ⊢;clear bx bw cA aT aF aU;go_wp2_with fail
 go_loopw [7,20] (fun hv iv w'=>∃ (i h:Nat),i<=xs.length/\iv= .int .i64 i/\hv= .int .i64 h/\Hid (PlIn p xs w1 w' d Q i h)) (fun _ iv _=>xs.length - (intOf iv).toNat)
 case atStart=>exact⟨0,0,Nat.zero_le _,rfl,rfl,H0⟩
 case round=>
  clear H0 r3 r4;obtain⟨i,h,hi,rfl,rfl,l⟩:=hrel;obtain⟨c,bL⟩:∃ c,c=wr:=⟨_,rfl⟩;rw [<-bL]at l ⊢;clear bL;have ax:Hid (∀ a v,w1.cell? a=some v->c.cell? a=some v):=fun a v hc=>by
   rw [World.cell?_of_block (l.out.gr a.block (World.block_lt_of_cell? w1 _ hc))];exact hc
  by_cases ak:i<xs.length
  ·have bD:=List.getElem_mem ak;obtain⟨ht,bz,cx⟩:=aG.out.th _ bD;obtain⟨g,rfl,s0,s1⟩:=mV HR.out aG.out.st ak;obtain⟨f,bB⟩:=Int.eq_ofNat_of_zero_le bz;have bA:f<(codeOf p xs[i].t).length:=by omega
   obtain⟨pg,po,ca,cc,K,L,rfl,rfl,m0,m1,m2,m3,m4⟩:=tY HP.out ht bA;have bK:=jT HV.out ht (k:=(f:Int)) (by simpa using bA);obtain⟨bp,bq,br,bt⟩:=rL bK;obtain⟨bH,bI⟩:=uE (t:=xs[i].t) (i:=insAt p xs[i].t f) (by omega) bq bt;have a8:Hid (usesE p xs[i]=usesI xs[i].t (insAt p xs[i].t f)):=by unfold Hid usesE;rw [bB]
   have ai:=ij (yA aG.out ak);rw [a8.out]at ai;have cd:=ij (qg (p:=p) ak);have bF:=ch.out;have aQ:=ck.out;have U:∀ a v,w.cell? a=some v->c.cell? a=some v:=fun a v hc=>ax.out _ _ (ip aa.out _ _ hc)
   have cK:=U _ _ s0;have b6:=U _ _ s1;have bN:=U _ _ m0;have bP:=U _ _ m1;have bR:=U _ _ m2;have bT:=U _ _ m3;have bV:=U _ _ m4;rw [bB]at b6;have n0:c.cell? ⟨w.heap.size,0,none⟩=some (.slice (some ⟨pg,po,none⟩) p.length J):=ax.out _ _ (by simp [World.cell?,bF]);have n1:c.cell? ⟨w.heap.size+1,0,none⟩=some (.int .i64 o.kind):=ax.out _ _ (by simp [World.cell?,aQ]);have n3:c.cell? ⟨w.heap.size+1,3,none⟩=some (.slice (some ⟨g,0,none⟩) xs.length y):=ax.out _ _ (by simp [World.cell?,aQ]);have a9:=ij (fun u:World=>zA xs[i].t (insAt p xs[i].t f) u bp br);have HTB:Hid (xs[i].t<4):=by unfold Hid;omega
   have hcl:(codeOf p xs[i].t).length<=16:=jx (jf HV.out ht);clear s0 s1 m0 m1 m2 m3 m4 bK bF aQ U bz cx bD bp bq br bt;generalize cw:insAt p xs[i].t (f:Int)=ix at*;generalize cu:(codeOf p xs[i].t).length=cl at*;generalize cD:usesI xs[i].t ix=us at*;generalize hxi:xs[i]=x at*;obtain⟨m,xk,xb⟩:=x;simp only at*;clear cw cu cD;have t0:(0:Int)<=(i:Int):=by omega
   have t1:(i:Int)<xs.length:=by omega
   have t2:(0:Int)<=(m:Int):=by omega
   have t3:(m:Int)<p.length:=by omega
   have t4:(0:Int)<=(f:Int):=by omega
   have t5:(f:Int)<cl:=by omega
   go_upto_region 7 with fail
   have hX:=heap_alloc_new c (.cells #[.int .i64 (m:Int),.int .i64 (f:Int)] 76);have T:c.grownBy (c.alloc (.cells #[.int .i64 (m:Int),.int .i64 (f:Int)] 76)) none:=iq (ir _ _);have bG:(c.alloc (.cells #[.int .i64 (m:Int),.int .i64 (f:Int)] 76)).heap.size=c.heap.size+1:=by simp
   generalize c.alloc (.cells #[.int .i64 (m:Int),.int .i64 (f:Int)] 76)=w6 at*;have b0:w6.cell? ⟨c.heap.size,0,none⟩=some (.int .i64 (m:Int)):=by simp only [World.cell?,hX];rfl
   have b1:w6.cell? ⟨c.heap.size,1,none⟩=some (.int .i64 (f:Int)):=by simp only [World.cell?,hX];rfl
   have cp:=ij hX;have b9:=ij T;have cn:=ij bG;have bi:w6.drew.cell? ⟨c.heap.size,0,none⟩=some (.int .i64 (m:Int))/\w6.drew.cell? ⟨c.heap.size,1,none⟩=some (.int .i64 (f:Int))/\w6.drew.cell? ⟨w.heap.size,0,none⟩=some (.slice (some ⟨pg,po,none⟩) p.length J)/\w6.drew.cell? ⟨pg,po+m,none⟩=some (.slice (some ⟨K,L,none⟩) cl cc)/\w6.drew.cell? ⟨K,L+f*4,none⟩=some (.int .i64 ix.op)/\w6.drew.cell? ⟨K,L+f*4+1,none⟩=some (.int .i64 ix.a)/\w6.drew.cell? ⟨K,L+f*4+2,none⟩=some (.int .i64 ix.b)/\w6.drew.cell? ⟨K,L+f*4+3,none⟩=some (.int .i64 ix.n):=
    ⟨b0,b1,ip T _ _ n0,ip T _ _ bN,ip T _ _ bP,ip T _ _ bR,ip T _ _ bT,ip T _ _ bV⟩
   clear hX bG T b0 b1;refine iz (fun u=>u.cell? ⟨c.heap.size,0,none⟩=some (.int .i64 (m:Int))/\u.cell? ⟨c.heap.size,1,none⟩=some (.int .i64 (f:Int))/\u.cell? ⟨w.heap.size,0,none⟩=some (.slice (some ⟨pg,po,none⟩) p.length J)/\u.cell? ⟨pg,po+m,none⟩=some (.slice (some ⟨K,L,none⟩) cl cc)/\u.cell? ⟨K,L+f*4,none⟩=some (.int .i64 ix.op)/\u.cell? ⟨K,L+f*4+1,none⟩=some (.int .i64 ix.a)/\u.cell? ⟨K,L+f*4+2,none⟩=some (.int .i64 ix.b)/\u.cell? ⟨K,L+f*4+3,none⟩=some (.int .i64 ix.n)) 13 (by kernel_rfl) (by kernel_rfl) bi ?_;intro j;refine ie 0 ?va0 rfl (by kernel_rfl) (fun _ _ _ h=>h) (by rfl) ?ya0 j ?_
   case ya0=>(rintro u ⟨A,B,C,D,E,F,G,H⟩;go_simp;try rfl)
   simp only [Act.put,List.setIfInBounds_toArray];refine ie 1 ?va1 rfl (by kernel_rfl) (fun _ _ _ h=>h) (by rfl) ?ya1 j ?_
   case ya1=>(rintro u ⟨A,B,C,D,E,F,G,H⟩;go_simp;try rfl)
   simp only [Act.put];refine ie 2 ?va2 rfl (by kernel_rfl) (fun _ _ _ h=>h) (by rfl) ?ya2 j ?_
   case ya2=>(rintro u ⟨A,B,C,D,E,F,G,H⟩;go_simp;try rfl)
   simp only [Act.put];refine ie 3 ?va3 rfl (by kernel_rfl) (fun _ _ _ h=>h) (by rfl) ?ya3 j ?_
   case ya3=>(rintro u ⟨A,B,C,D,E,F,G,H⟩;go_simp;try rfl)
   simp only [Act.put];refine ie 4 ?va4 rfl (by kernel_rfl) (fun _ _ _ h=>h) (by rfl) ?ya4 j ?_
   case ya4=>(rintro u ⟨A,B,C,D,E,F,G,H⟩;go_simp;try rfl)
   simp only [Act.put];refine ie 5 ?va5 rfl (by kernel_rfl) (fun _ _ _ h=>h) (by rfl) ?ya5 j ?_
   case ya5=>(rintro u ⟨A,B,C,D,E,F,G,H⟩;go_simp;try rfl)
   simp only [Act.put];refine ie 6 ?va6 rfl (by kernel_rfl) (fun _ _ _ h=>h) (by rfl) ?ya6 j ?_
   case ya6=>(rintro u ⟨A,B,C,D,E,F,G,H⟩;go_simp;try rfl)
   simp only [Act.put];refine ie 7 ?va7 rfl (by kernel_rfl) (fun _ _ _ h=>h) (by rfl) ?ya7 j ?_
   case ya7=>(rintro u ⟨A,B,C,D,E,F,G,H⟩;go_simp;try rfl)
   simp only [Act.put];refine ie 8 ?va8 rfl (by kernel_rfl) (fun _ _ _ h=>h) (by rfl) ?ya8 j ?_
   case ya8=>(rintro u ⟨A,B,C,D,E,F,G,H⟩;go_simp;try rfl)
   simp only [Act.put];refine ie 9 ?va9 rfl (by kernel_rfl) (fun _ _ _ h=>h) (by rfl) ?ya9 j ?_
   case ya9=>(rintro u ⟨A,B,C,D,E,F,G,H⟩;go_simp;try rfl)
   simp only [Act.put];refine ie 10 ?va10 rfl (by kernel_rfl) (fun _ _ _ h=>h) (by rfl) ?ya10 j ?_
   case ya10=>(rintro u ⟨A,B,C,D,E,F,G,H⟩;go_simp;try rfl)
   simp only [Act.put];refine ie 11 ?va11 rfl (by kernel_rfl) (fun _ _ _ h=>h) (by rfl) ?ya11 j ?_
   case ya11=>(rintro u ⟨A,B,C,D,E,F,G,H⟩;go_simp;try rfl)
   simp only [Act.put];refine iu (i:=12) rfl (by kernel_rfl) (by kernel_rfl) (by rfl) ?_;intro K12 bj;have a5:=ij bj;clear bj;go_simp;refine(a9.out _).mono ?_;rintro e w7 ⟨uv,rfl,bn,r⟩;have a2:Hid (w6.grownBy w7 none):=⟨r.os,r.tape,r.output,r.size,r.block⟩;refine a5.out _ _ ⟨ip r _ _ j.1,ip r _ _ j.2.1,ip r _ _ j.2.2.1,ip r _ _ j.2.2.2.1,ip r _ _ j.2.2.2.2.1,ip r _ _ j.2.2.2.2.2.1,ip r _ _ j.2.2.2.2.2.2.1,ip r _ _ j.2.2.2.2.2.2.2⟩ ?_;clear a5 r j bi a9;try simp only [Act.put,List.setIfInBounds_toArray]
   refine iF rfl (by kernel_rfl) (by kernel_rfl) (by rfl) ?_;go_simp;have bJ:us.length<=10:=bI;have ay:=ij bn;have au:Hid (c.grownBy w7 none):=il b9.out a2.out;have aE:Hid (HistAt w7 Q (i*10) (histOf p (tl (depE p) [] (xs.take i)))):=l.out.his.kept au.out;have aH:∀ u,histOf p (tl (depE p) [] (xs.take i)) u<=1000:=fun u=>by have:=vZ p (xs.take i) u;simp at this;omega
   have a1:=ij aH;have a6:=ij bH;have hhi:h<=500:=by rw [l.out.hgh];have:=vY p (xs.take i);simp at this;omega
   have ce:Hid (layIn (depE p) (tl (depE p) [] (xs.take i)) ⟨m,xk,xb⟩<=500):=by
    unfold Hid;have:=BK p (xs.take i) ⟨m,xk,xb⟩;simp at this;omega
   have b7:Hid (aheadS (histOf p (tl (depE p) [] (xs.take i))) us 0<=1000):=my _ aH us 0 (by omega);have bY:=ip au.out _ _ n1;have b2:=ip au.out _ _ n3;clear bn bH bI aH n0 n1 n3 bN bP bR bT bV cK b6;obtain⟨ug,uc,cC⟩:∃ ug uc,uv= .slice (some ⟨ug,0,none⟩) us.length uc:=by
    obtain⟨ug,uc,e,_⟩:=ay.out;exact⟨ug,uc,e⟩
   subst cC;go_wp2_with fail
   refine(zK aE.out a1.out us a6.out _ ay.out bJ).mono ?_;rintro e w8 ⟨rfl,aC⟩;have av:=ij aC;have k1:=ip aC _ _ bY;have k3:=ip aC _ _ b2;clear aC bY b2;generalize bC:layIn (depE p) (tl (depE p) [] (xs.take i)) ⟨m,xk,xb⟩=lx at*;generalize ct:aheadS (histOf p (tl (depE p) [] (xs.take i))) us 0=ah at*;have HLX:=ij bC;have a4:=ij l.out.hgh;rw [<-a4.out]at ai;have hah0:(ah:Int)<=1000:=by have:=b7.out;omega
   clear bC ct;go_upto_region 9 with fail
   obtain⟨bl,bu⟩:∃ bl:Bool,bl=decide (o.kind=1/\i+1=xs.length):=⟨_,rfl⟩;have af:=ij bu;clear bu;go_cut [52] (fun q w'=>q= .bool bl/\w'=w8)
   case first=>
    by_cases e1:i+1=xs.length
    ·have e3:(xs.length:Int) - 1=(i:Int):=by omega
     by_cases e2:o.kind=1
     ·have hb:bl=true:=by rw [af.out];simp [e1,e2]
      rw [e2]at k1;go_wp2_with fail
      all_goals first | (go_meet;exact⟨by rw [hb],rfl⟩) | (exfalso;omega)
     ·have hb:bl=false:=by rw [af.out];simp [e2]
      have hb2:(o.kind==1)=false:=by simpa using e2
      go_wp2_with fail
      all_goals first | (go_meet;exact⟨by rw [hb],rfl⟩) | (exfalso;omega)
    ·have hb:bl=false:=by rw [af.out];simp [e1]
     have e3:(i:Int)<(xs.length:Int) - 1:=by omega
     have e4:((i:Int)==(xs.length:Int) - 1)=false:=by simp;omega
     go_wp2_with fail
     all_goals first | (go_meet;exact⟨by rw [hb],rfl⟩) | (exfalso;omega)
   case rest=>
   obtain⟨rfl,aW⟩:=hcut;have aX:=aW.symm;subst aX;go_upto_if 52 with fail
   go_cut [11] (fun q w'=>q= .int .i64 (lx:Int)/\w'=w8)
   case first=>
    cases bl with
    | true=>
     have hl:lx=h:=by rw [ai.out,if_pos (by have:=af.out.symm;simpa using this)]
     go_wp2_with fail
     go_meet
     exact⟨by rw [hl],rfl⟩
    | false=>
     have hl:lx=ah:=by rw [ai.out,if_neg (by have:=af.out.symm;simpa using this)]
     go_wp2_with fail
     go_meet
     exact⟨by rw [hl],rfl⟩
   case rest=>
   obtain⟨rfl,aW⟩:=hcut;have aX:=aW.symm;subst aX;clear ai af;have cz:lx<=900:=by have:=ce.out;omega
   have hlx':(lx:Int)<=900:=by omega
   have hlx0:(0:Int)<=(lx:Int):=by omega
   have hh':(h:Int)<=500:=by omega
   have hh0:(0:Int)<=(h:Int):=by omega
   have a3:Hid (HistAt w8 Q (i*10) (histOf p (tl (depE p) [] (xs.take i)))):=aE.out.kept av.out;have a7:Hid (UsesAt w8 (.slice (some ⟨ug,0,none⟩) us.length uc) us):=ay.out.grown av.out;have M:Hid (c.grownBy w8 none):=il au.out av.out;go_wp2_with fail
   refine(Aa a3.out a1.out (by omega) us a6.out _ a7.out bJ lx cz).mono ?_;rintro e s ⟨⟨rv9,rfl⟩,bh,N⟩;have hgm5:Q<c.heap.size:=l.out.his.lt;have bo:s.heap[c.heap.size]?=some (.cells #[.int .i64 (m:Int),.int .i64 (f:Int)] 76 (0,0)):=by
    have be:=il a2.out av.out;have hs:=cn.out;rw [N.block _ (by have:=be.size;omega) (by simp;omega),be.block _ (by omega) (by simp)];exact cp.out
   have ae:s.heap[d]?=some (.cells (flatK ((tl (depE p) [] (xs.take i)).map keyE)++List.replicate ((xs.length - i)*2) (Value.int .i64 0)).toArray 165 (0,0)):=by
    have cy:=(Array.getElem?_eq_some_iff.1 l.out.row).1;rw [N.block _ (by have:=M.out.size;omega) (by have:=aw.out;simp;omega),M.out.block _ cy (by simp)];exact l.out.row
   have cj:=ij ae;have y0:s.cell? ⟨c.heap.size,0,none⟩=some (.int .i64 (m:Int)):=by simp [World.cell?,bo]
   obtain⟨R,hR⟩:∃ R:List Value,R=flatK ((tl (depE p) [] (xs.take i)).map keyE)++List.replicate ((xs.length - i)*2) (Value.int .i64 0):=⟨_,rfl⟩;have aL:(flatK ((tl (depE p) [] (xs.take i)).map keyE)).length=i*2:=by
    rw [vR,List.length_map,iX];simp;omega
   have cs:R.length=xs.length*2:=by rw [hR,List.length_append,aL,List.length_replicate];omega
   rw [<-hR]at ae;obtain⟨z0,hz0'⟩:∃ z,s.cell? ⟨d,i*2,none⟩=some z:=⟨R[i*2]'(by omega),by simp only [World.cell?,ae];simp⟩;obtain⟨z1,hz1'⟩:∃ z,(s.setCell ⟨d,i*2,none⟩ (.int .i64 (lx:Int))).cell? ⟨d,i*2+1,none⟩=some z:=by
    have al:=heap_setCell_same s d (i*2) _ _ (.int .i64 (lx:Int)) ae;exact⟨_,by simp only [World.cell?,al];exact Array.getElem?_eq_getElem (by simp;omega)⟩
   have fz0:s.frozen? ⟨d,i*2,none⟩=false:=by simp [World.frozen?,ae]
   have fz1:(s.setCell ⟨d,i*2,none⟩ (.int .i64 (lx:Int))).frozen? ⟨d,i*2+1,none⟩=false:=by
    have al:=heap_setCell_same s d (i*2) _ _ (.int .i64 (lx:Int)) ae;simp [World.frozen?,al]
   have b8:Hid (PlIn p xs w1 ((s.setCell ⟨d,i*2,none⟩ (.int .i64 (lx:Int))).setCell ⟨d,i*2+1,none⟩ (.int .i64 (m:Int))) d Q (i+1) (max h (lx+1))):=by
    have aM:=cd.out;have ag:s.grownBy ((s.setCell ⟨d,i*2,none⟩ (.int .i64 (lx:Int))).setCell ⟨d,i*2+1,none⟩ (.int .i64 (m:Int))) (some d):=il mo mo;have aO:=aw.out;have hs5:=l.out.sz;refine⟨?_,?_,?_,fun k hk=>?_,?_,?_⟩
    ·have al:=heap_setCell_same s d (i*2) _ _ (.int .i64 (lx:Int)) cj.out;have cB:=heap_setCell_same _ d (i*2+1) _ _ (.int .i64 (m:Int)) al;rw [cB];simp only [List.setIfInBounds_toArray];rw [yU _ _ _ i xs.length aL ak,aM,List.map_append,List.map_cons,List.map_nil,tP];rfl
    ·have h9:=(bh.keptRow ag (by omega)).mono (n':=(i+1)*10) (by omega);have e:enterF (lx+1) us (histOf p (tl (depE p) [] (xs.take i)))=histOf p (tl (depE p) [] (xs.take (i+1))):=by
      funext u
      rw [nb,aM,nN,a8.out]
     rw [e]at h9;exact h9
    ·rw [aM,nM,<-a4.out]
    ·rw [ag.block k (by have:=N.size;have:=M.out.size;omega) (by simp;omega),N.block k (by have:=M.out.size;omega) (by simp;omega),M.out.block k (by omega) (by simp)];exact l.out.gr k hk
    ·have h1:=ag.size;have h2:=N.size;have h3:=M.out.size;omega
    ·exact⟨ag.os.trans (N.os.trans (M.out.os.trans l.out.os.1)),ag.tape.trans (N.tape.trans (M.out.tape.trans l.out.os.2.1)),ag.output.trans (N.output.trans (M.out.output.trans l.out.os.2.2))⟩
   have hne:d≠c.heap.size:=by have:=(Array.getElem?_eq_some_iff.1 l.out.row).1;omega
   clear ae bo hR cs aL bh N a3 a7 k1 k3 aE ay;go_wp2_with fail
   go_roundw
   case rel=>exact⟨i+1,max h (lx+1),by omega,by go_num,by congr 1;(repeat' split)<;>omega,b8⟩
   case measure=>simp [intOf];omega
  ·have t1:(xs.length:Int)<=(i:Int):=by omega
   have ei:i=xs.length:=by omega
   have cm:Hid (c.heap[d]?=some (.cells (flatK (keysE p xs)).toArray 165 (0,0))):=by
    have:=l.out.row;rw [ei,List.take_length,Nat.sub_self]at this;unfold Hid keysE;simpa using this
   have cb:Hid (w.grownBy c none):=by
    have aO:=aw.out;refine⟨l.out.os.1.trans aa.out.os,l.out.os.2.1.trans aa.out.tape,l.out.os.2.2.trans aa.out.output,Nat.le_trans aa.out.size l.out.sz,fun k hk _=>?_⟩;rw [l.out.gr k (Nat.lt_of_lt_of_le hk aa.out.size)];exact aa.out.block k hk (by simp)
   have aO:w.heap.size<=d:=by have:=aw.out;omega
   go_wp2_with fail
   go_ret;exact⟨d,rfl,aO,cm.out,cb.out⟩
end
section
open Go.RowKit
attribute [local go_sem] Go.World.cell?_alloc_some
def depR(i j:Ins):Bool:=
 if (i.op=9\/i.op=10)/\(j.op=9\/j.op=10) then i.a==j.a
 else if i.op=3/\j.op=3 then i.a==j.a
 else if i.op=3/\j.op=2 then i.a==j.b
 else if i.op=2/\j.op=3 then i.b==j.a
 else false
theorem tH{i j:Ins}(h1:0<=i.a)(h2:0<=i.b)(h3:0<=j.a)(h4:0<=j.b):depR i j=clash (tou i) (tou j):=by
 unfold depR clash tou;rw [Bool.eq_iff_iff];by_cases k:i.op=9\/i.op=10
 ·by_cases e:j.op=9\/j.op=10
  ·simp [k,e];omega
  ·have n:¬i.op=3:=by omega
   have m:¬i.op=2:=by omega
   by_cases c:j.op=2
   ·simp [k,n,m,c]
   ·by_cases d:j.op=3
    ·simp [k,n,m,d]
    ·simp [k,n,m,e,c,d]
 ·by_cases f:i.op=2
  ·by_cases e:j.op=9\/j.op=10
   ·have l:¬j.op=3:=by omega
    simp [f,e,l]
   ·by_cases c:j.op=2
    ·simp [f,c]
    ·by_cases d:j.op=3
     ·simp [f,d];omega
     ·simp [f,e,c,d]
  ·by_cases h:i.op=3
   ·by_cases e:j.op=9\/j.op=10
    ·have l:¬j.op=3:=by omega
     have o:¬j.op=2:=by omega
     simp [h,e,l,o]
    ·by_cases c:j.op=2
     ·simp [h,c];omega
     ·by_cases d:j.op=3
      ·simp [h,d];omega
      ·simp [h,e,c,d]
   ·simp [k,f,h]
theorem nJ{w:World}{g:Nat}{x0 x1 x2 x3:Value}{t:TypeId}(h:w.heap[g]?=some (.cells #[x0,x1,x2,x3] t (0,0))):
  w.cell? ⟨g,0,none⟩=some x0/\w.cell? ⟨g,1,none⟩=some x1/\w.cell? ⟨g,2,none⟩=some x2/\w.cell? ⟨g,3,none⟩=some x3/\w.frozen? ⟨g,0,none⟩=false/\w.frozen? ⟨g,1,none⟩=false/\w.frozen? ⟨g,2,none⟩=false/\w.frozen? ⟨g,3,none⟩=false:=by
 simp [World.cell?,World.frozen?,h]
theorem xM{p:List (List Ins)}(w:World)(pv:Value)(hP:ProgAt w pv p)(_hp:p.length<=4)(m k1 o k2:Nat)(h1:m<p.length)(h2:k1<(codeOf p m).length)(h3:o<p.length)(h4:k2<(codeOf p o).length)(_hl1:(codeOf p m).length<=16)(_hl2:(codeOf p o).length<=16):
  Calls Tryz.prog 88 #[pv,.agg #[.int .i64 (m:Int),.int .i64 (k1:Int)],.agg #[.int .i64 (o:Int),.int .i64 (k2:Int)]] w fun e w'=>e= .returned (.bool (m==o || depR (insAt p m k1) (insAt p o k2)))/\w.grownBy w' none:=by
 obtain⟨ao,T,rfl⟩:=hP.form;obtain⟨G,H,ca,cc,L,M,rfl,rfl,m0,m1,m2,m3,m4⟩:=tY hP h1 h2;obtain⟨pg',po',da,dc,N,O,l,rfl,n0,n1,n2,n3,n4⟩:=tY hP h3 h4;simp only [Option.some.injEq,Addr.mk.injEq,and_true]at l;obtain⟨rfl,rfl⟩:=l;have X:=ij (And.intro m0 (And.intro m1 (And.intro m2 (And.intro m3 m4))));have Y:=ij (And.intro n0 (And.intro n1 (And.intro n2 (And.intro n3 n4))));clear m0 m1 m2 m3 m4 n0 n1 n2 n3 n4 hP;generalize hcl:(codeOf p m).length=cl at*;generalize aW:(codeOf p o).length=dl at*;generalize aY:insAt p m (k1:Int)=i at*;generalize aZ:insAt p o (k2:Int)=j at*;clear hcl aW aY aZ;have q1:(m:Int)<p.length:=by omega
 have q2:(k1:Int)<cl:=by omega
 have q3:(o:Int)<p.length:=by omega
 have q4:(k2:Int)<dl:=by omega
 have q5:(0:Int)<=(m:Int):=by omega
 have q6:(0:Int)<=(k1:Int):=by omega
 have q7:(0:Int)<=(o:Int):=by omega
 have q8:(0:Int)<=(k2:Int):=by omega
 have HA:Hid (∀ a b c,w.grownBy (((w.alloc a).alloc b).alloc c) none):=fun a b c=>iq (iq (iq (ir _ _)))
 by_cases ht:m=o
 ·subst ht;go_enter Tryz.func88,Tryz.ntmps88
  go_wp2_with fail
  go_ret;exact⟨by simp,HA.out _ _ _⟩
 ·have hti:((m:Int)==(o:Int))=false:=by simp;omega
  have HT:Hid ((m==o)=false):=by unfold Hid;simpa using ht
  clear ht;go_enter Tryz.func88,Tryz.ntmps88
  go_upto_region 3 with fail
  obtain⟨d,U⟩:∃ d,d=((w.alloc (.cells #[.slice (some ⟨G,H,none⟩) p.length T] 37)).alloc (.cells #[.int .i64 (m:Int),.int .i64 (k1:Int)] 76)).alloc (.cells #[.int .i64 (o:Int),.int .i64 (k2:Int)] 76):=⟨_,rfl⟩;have aj:Hid (w.grownBy d none):=by unfold Hid;rw [U];exact HA.out _ _ _
  have a3:d.heap.size=w.heap.size+3:=by rw [U];simp
  have b0:d.heap[w.heap.size]?=some (.cells #[.slice (some ⟨G,H,none⟩) p.length T] 37 (0,0)):=by
   rw [U,Below.heap_alloc _ _ _ (by simp;omega),Below.heap_alloc _ _ _ (by simp)];exact heap_alloc_new _ _
  have b1:d.heap[w.heap.size+1]?=some (.cells #[.int .i64 (m:Int),.int .i64 (k1:Int)] 76 (0,0)):=by
   rw [U,Below.heap_alloc _ _ _ (by simp)];have:=heap_alloc_new (w.alloc (.cells #[.slice (some ⟨G,H,none⟩) p.length T] 37)) (.cells #[.int .i64 (m:Int),.int .i64 (k1:Int)] 76);simpa using this
  have b2:d.heap[w.heap.size+2]?=some (.cells #[.int .i64 (o:Int),.int .i64 (k2:Int)] 76 (0,0)):=by
   have:=heap_alloc_new ((w.alloc (.cells #[.slice (some ⟨G,H,none⟩) p.length T] 37)).alloc (.cells #[.int .i64 (m:Int),.int .i64 (k1:Int)] 76)) (.cells #[.int .i64 (o:Int),.int .i64 (k2:Int)] 76);rw [U];simpa using this
  rw [<-U];clear U;have ah:Hid (∀ u,d.grownBy u none->u.cell? ⟨w.heap.size+1,0,none⟩=some (.int .i64 (m:Int))/\u.cell? ⟨w.heap.size+1,1,none⟩=some (.int .i64 (k1:Int))/\u.cell? ⟨w.heap.size,0,none⟩=some (.slice (some ⟨G,H,none⟩) p.length T)/\u.cell? ⟨G,H+m,none⟩=some (.slice (some ⟨L,M,none⟩) cl cc)/\u.cell? ⟨L,M+k1*4,none⟩=some (.int .i64 i.op)/\u.cell? ⟨L,M+k1*4+1,none⟩=some (.int .i64 i.a)/\u.cell? ⟨L,M+k1*4+2,none⟩=some (.int .i64 i.b)/\u.cell? ⟨L,M+k1*4+3,none⟩=some (.int .i64 i.n)):=fun u hu=>by
   have K:∀ x v,w.cell? x=some v->u.cell? x=some v:=fun x v h=>ip (il aj.out hu) _ _ h
   have F:∀ k,k<d.heap.size->u.heap[k]?=d.heap[k]?:=fun k hk=>hu.block k hk (by simp)
   refine⟨?_,?_,?_,K _ _ X.out.1,K _ _ X.out.2.1,K _ _ X.out.2.2.1,K _ _ X.out.2.2.2.1,K _ _ X.out.2.2.2.2⟩
   ·simp only [World.cell?,F _ (by omega:w.heap.size+1<d.heap.size),b1];rfl
   ·simp only [World.cell?,F _ (by omega:w.heap.size+1<d.heap.size),b1];rfl
   ·simp only [World.cell?,F _ (by omega:w.heap.size<d.heap.size),b0];rfl
  have ai:Hid (∀ u,d.grownBy u none->u.cell? ⟨w.heap.size+2,0,none⟩=some (.int .i64 (o:Int))/\u.cell? ⟨w.heap.size+2,1,none⟩=some (.int .i64 (k2:Int))/\u.cell? ⟨w.heap.size,0,none⟩=some (.slice (some ⟨G,H,none⟩) p.length T)/\u.cell? ⟨G,H+o,none⟩=some (.slice (some ⟨N,O,none⟩) dl dc)/\u.cell? ⟨N,O+k2*4,none⟩=some (.int .i64 j.op)/\u.cell? ⟨N,O+k2*4+1,none⟩=some (.int .i64 j.a)/\u.cell? ⟨N,O+k2*4+2,none⟩=some (.int .i64 j.b)/\u.cell? ⟨N,O+k2*4+3,none⟩=some (.int .i64 j.n)):=fun u hu=>by
   have K:∀ x v,w.cell? x=some v->u.cell? x=some v:=fun x v h=>ip (il aj.out hu) _ _ h
   have F:∀ k,k<d.heap.size->u.heap[k]?=d.heap[k]?:=fun k hk=>hu.block k hk (by simp)
   refine⟨?_,?_,?_,K _ _ Y.out.1,K _ _ Y.out.2.1,K _ _ Y.out.2.2.1,K _ _ Y.out.2.2.2.1,K _ _ Y.out.2.2.2.2⟩
   ·simp only [World.cell?,F _ (by omega:w.heap.size+2<d.heap.size),b2];rfl
   ·simp only [World.cell?,F _ (by omega:w.heap.size+2<d.heap.size),b2];rfl
   ·simp only [World.cell?,F _ (by omega:w.heap.size<d.heap.size),b0];rfl
  clear b0 b1 b2 a3 X Y HA;refine iz (fun u=>u.cell? ⟨w.heap.size+1,0,none⟩=some (.int .i64 (m:Int))/\u.cell? ⟨w.heap.size+1,1,none⟩=some (.int .i64 (k1:Int))/\u.cell? ⟨w.heap.size,0,none⟩=some (.slice (some ⟨G,H,none⟩) p.length T)/\u.cell? ⟨G,H+m,none⟩=some (.slice (some ⟨L,M,none⟩) cl cc)/\u.cell? ⟨L,M+k1*4,none⟩=some (.int .i64 i.op)/\u.cell? ⟨L,M+k1*4+1,none⟩=some (.int .i64 i.a)/\u.cell? ⟨L,M+k1*4+2,none⟩=some (.int .i64 i.b)/\u.cell? ⟨L,M+k1*4+3,none⟩=some (.int .i64 i.n)) 11 (by kernel_rfl) (by kernel_rfl) (ah.out d.drew (iy (ir _ _))) ?_;intro f;refine ie 0 ?va0 rfl (by kernel_rfl) (fun _ _ _ h=>h) (by rfl) ?ya0 f ?_
  case ya0=>(rintro u ⟨r,s,t,y,z,A,B,C⟩;go_simp;try rfl)
  simp only [Act.put,List.setIfInBounds_toArray];refine ie 1 ?va1 rfl (by kernel_rfl) (fun _ _ _ h=>h) (by rfl) ?ya1 f ?_
  case ya1=>(rintro u ⟨r,s,t,y,z,A,B,C⟩;go_simp;try rfl)
  simp only [Act.put];refine ie 2 ?va2 rfl (by kernel_rfl) (fun _ _ _ h=>h) (by rfl) ?ya2 f ?_
  case ya2=>(rintro u ⟨r,s,t,y,z,A,B,C⟩;go_simp;try rfl)
  simp only [Act.put];refine ie 3 ?va3 rfl (by kernel_rfl) (fun _ _ _ h=>h) (by rfl) ?ya3 f ?_
  case ya3=>(rintro u ⟨r,s,t,y,z,A,B,C⟩;go_simp;try rfl)
  simp only [Act.put];refine ie 4 ?va4 rfl (by kernel_rfl) (fun _ _ _ h=>h) (by rfl) ?ya4 f ?_
  case ya4=>(rintro u ⟨r,s,t,y,z,A,B,C⟩;go_simp;try rfl)
  simp only [Act.put];refine ie 5 ?va5 rfl (by kernel_rfl) (fun _ _ _ h=>h) (by rfl) ?ya5 f ?_
  case ya5=>(rintro u ⟨r,s,t,y,z,A,B,C⟩;go_simp;try rfl)
  simp only [Act.put];refine ie 6 ?va6 rfl (by kernel_rfl) (fun _ _ _ h=>h) (by rfl) ?ya6 f ?_
  case ya6=>(rintro u ⟨r,s,t,y,z,A,B,C⟩;go_simp;try rfl)
  simp only [Act.put];refine ie 7 ?va7 rfl (by kernel_rfl) (fun _ _ _ h=>h) (by rfl) ?ya7 f ?_
  case ya7=>(rintro u ⟨r,s,t,y,z,A,B,C⟩;go_simp;try rfl)
  simp only [Act.put];refine ie 8 ?va8 rfl (by kernel_rfl) (fun _ _ _ h=>h) (by rfl) ?ya8 f ?_
  case ya8=>(rintro u ⟨r,s,t,y,z,A,B,C⟩;go_simp;try rfl)
  simp only [Act.put];refine ie 9 ?va9 rfl (by kernel_rfl) (fun _ _ _ h=>h) (by rfl) ?ya9 f ?_
  case ya9=>(rintro u ⟨r,s,t,y,z,A,B,C⟩;go_simp;try rfl)
  simp only [Act.put];refine iu (i:=10) rfl (by kernel_rfl) (by kernel_rfl) (by rfl) ?_;intro Ka az;have aq:=ij az;clear az;go_simp;refine aq.out _ _ (ah.out (d.drew.alloc (.cells #[.int .i64 0,.int .i64 0,.int .i64 0,.int .i64 0] 65)) (il (ir _ _) (il (iy (ir _ _)) (iq (ir _ _))))) ?_;clear aq;try simp only [Act.put,List.setIfInBounds_toArray]
  refine iF rfl (by kernel_rfl) (by kernel_rfl) (by rfl) ?_;go_simp;clear f;have au:Hid ((d.alloc (.cells #[.int .i64 i.op,.int .i64 i.a,.int .i64 i.b,.int .i64 i.n] 65)).drew.heap[d.heap.size]?=some (.cells #[.int .i64 i.op,.int .i64 i.a,.int .i64 i.b,.int .i64 i.n] 65 (0,0))):=heap_alloc_new d (.cells #[.int .i64 i.op,.int .i64 i.a,.int .i64 i.b,.int .i64 i.n] 65);have ag:Hid (d.grownBy (d.alloc (.cells #[.int .i64 i.op,.int .i64 i.a,.int .i64 i.b,.int .i64 i.n] 65)).drew none):=iy (iq (ir _ _));generalize (d.alloc (.cells #[.int .i64 i.op,.int .i64 i.a,.int .i64 i.b,.int .i64 i.n] 65)).drew=w4 at*;go_wp2_with fail
  refine iz (fun u=>u.cell? ⟨w.heap.size+2,0,none⟩=some (.int .i64 (o:Int))/\u.cell? ⟨w.heap.size+2,1,none⟩=some (.int .i64 (k2:Int))/\u.cell? ⟨w.heap.size,0,none⟩=some (.slice (some ⟨G,H,none⟩) p.length T)/\u.cell? ⟨G,H+o,none⟩=some (.slice (some ⟨N,O,none⟩) dl dc)/\u.cell? ⟨N,O+k2*4,none⟩=some (.int .i64 j.op)/\u.cell? ⟨N,O+k2*4+1,none⟩=some (.int .i64 j.a)/\u.cell? ⟨N,O+k2*4+2,none⟩=some (.int .i64 j.b)/\u.cell? ⟨N,O+k2*4+3,none⟩=some (.int .i64 j.n)) 11 (by kernel_rfl) (by kernel_rfl) (ai.out w4.drew (iy ag.out)) ?_;intro f;refine ie 0 ?vb0 rfl (by kernel_rfl) (fun _ _ _ h=>h) (by rfl) ?yb0 f ?_
  case yb0=>(rintro u ⟨r,s,t,y,z,A,B,C⟩;go_simp;try rfl)
  simp only [Act.put,List.setIfInBounds_toArray];refine ie 1 ?vb1 rfl (by kernel_rfl) (fun _ _ _ h=>h) (by rfl) ?yb1 f ?_
  case yb1=>(rintro u ⟨r,s,t,y,z,A,B,C⟩;go_simp;try rfl)
  simp only [Act.put];refine ie 2 ?vb2 rfl (by kernel_rfl) (fun _ _ _ h=>h) (by rfl) ?yb2 f ?_
  case yb2=>(rintro u ⟨r,s,t,y,z,A,B,C⟩;go_simp;try rfl)
  simp only [Act.put];refine ie 3 ?vb3 rfl (by kernel_rfl) (fun _ _ _ h=>h) (by rfl) ?yb3 f ?_
  case yb3=>(rintro u ⟨r,s,t,y,z,A,B,C⟩;go_simp;try rfl)
  simp only [Act.put];refine ie 4 ?vb4 rfl (by kernel_rfl) (fun _ _ _ h=>h) (by rfl) ?yb4 f ?_
  case yb4=>(rintro u ⟨r,s,t,y,z,A,B,C⟩;go_simp;try rfl)
  simp only [Act.put];refine ie 5 ?vb5 rfl (by kernel_rfl) (fun _ _ _ h=>h) (by rfl) ?yb5 f ?_
  case yb5=>(rintro u ⟨r,s,t,y,z,A,B,C⟩;go_simp;try rfl)
  simp only [Act.put];refine ie 6 ?vb6 rfl (by kernel_rfl) (fun _ _ _ h=>h) (by rfl) ?yb6 f ?_
  case yb6=>(rintro u ⟨r,s,t,y,z,A,B,C⟩;go_simp;try rfl)
  simp only [Act.put];refine ie 7 ?vb7 rfl (by kernel_rfl) (fun _ _ _ h=>h) (by rfl) ?yb7 f ?_
  case yb7=>(rintro u ⟨r,s,t,y,z,A,B,C⟩;go_simp;try rfl)
  simp only [Act.put];refine ie 8 ?vb8 rfl (by kernel_rfl) (fun _ _ _ h=>h) (by rfl) ?yb8 f ?_
  case yb8=>(rintro u ⟨r,s,t,y,z,A,B,C⟩;go_simp;try rfl)
  simp only [Act.put];refine ie 9 ?vb9 rfl (by kernel_rfl) (fun _ _ _ h=>h) (by rfl) ?yb9 f ?_
  case yb9=>(rintro u ⟨r,s,t,y,z,A,B,C⟩;go_simp;try rfl)
  simp only [Act.put];refine iu (i:=10) rfl (by kernel_rfl) (by kernel_rfl) (by rfl) ?_;intro Kb aA;have ar:=ij aA;clear aA;go_simp;refine ar.out _ _ (ai.out (w4.drew.alloc (.cells #[.int .i64 0,.int .i64 0,.int .i64 0,.int .i64 0] 65)) (il ag.out (il (iy (ir _ _)) (iq (ir _ _))))) ?_;clear ar;try simp only [Act.put,List.setIfInBounds_toArray]
  refine iF rfl (by kernel_rfl) (by kernel_rfl) (by rfl) ?_;go_simp;clear f;have aO:Hid ((w4.alloc (.cells #[.int .i64 j.op,.int .i64 j.a,.int .i64 j.b,.int .i64 j.n] 65)).drew.heap[w4.heap.size]?=some (.cells #[.int .i64 j.op,.int .i64 j.a,.int .i64 j.b,.int .i64 j.n] 65 (0,0))):=heap_alloc_new w4 (.cells #[.int .i64 j.op,.int .i64 j.a,.int .i64 j.b,.int .i64 j.n] 65);have ap:Hid (w4.grownBy (w4.alloc (.cells #[.int .i64 j.op,.int .i64 j.a,.int .i64 j.b,.int .i64 j.n] 65)).drew none):=iy (iq (ir _ _));generalize (w4.alloc (.cells #[.int .i64 j.op,.int .i64 j.a,.int .i64 j.b,.int .i64 j.n] 65)).drew=w5 at*;have aM:Hid (w5.heap[d.heap.size]?=some (.cells #[.int .i64 i.op,.int .i64 i.a,.int .i64 i.b,.int .i64 i.n] 65 (0,0))):=by
   unfold Hid;rw [ap.out.block _ (Array.getElem?_eq_some_iff.1 au.out).1 (by simp)];exact au.out
  have I:Hid (w.grownBy w5 none):=il aj.out (il ag.out ap.out);obtain⟨i0,i1,i2,V, -⟩:=nJ aM.out;obtain⟨W,j1,j2,P, -⟩:=nJ aO.out;clear ah ai;have J:Hid ((m==o || depR i j)=depR i j):=by unfold Hid;rw [HT.out];rfl
  go_upto_region 5 with fail
  obtain⟨F,aB⟩:∃ F:Bool,F=decide ((i.op=9\/i.op=10)/\(j.op=9\/j.op=10)):=⟨_,rfl⟩;have Q:=ij aB;clear aB;go_cut [51] (fun q w'=>q= .bool F/\w'=w5)
  case first=>
   by_cases i9:i.op=9
   ·rw [i9]at i0;by_cases S:j.op=9
    ·rw [S]at W;go_wp2_with fail
     go_meet
     exact⟨by rw [Q.out];simp [i9,S],rfl⟩
    ·have e9:(j.op==9)=false:=by simpa using S
     by_cases R:j.op=10
     ·rw [R]at W;go_wp2_with fail
      go_meet
      exact⟨by rw [Q.out];simp [i9,R],rfl⟩
     ·have aR:(j.op==10)=false:=by simpa using R
      go_wp2_with fail
      go_meet
      exact⟨by rw [Q.out];simp [S,R],rfl⟩
   ·have d9:(i.op==9)=false:=by simpa using i9
    by_cases Z:i.op=10
    ·rw [Z]at i0;clear d9;by_cases S:j.op=9
     ·rw [S]at W;go_wp2_with fail
      go_meet
      exact⟨by rw [Q.out];simp [Z,S],rfl⟩
     ·have e9:(j.op==9)=false:=by simpa using S
      by_cases R:j.op=10
      ·rw [R]at W;clear e9;go_wp2_with fail
       go_meet
       exact⟨by rw [Q.out];simp [Z,R],rfl⟩
      ·have aR:(j.op==10)=false:=by simpa using R
       go_wp2_with fail
       go_meet
       exact⟨by rw [Q.out];simp [S,R],rfl⟩
    ·have d10:(i.op==10)=false:=by simpa using Z
     go_wp2_with fail
     go_meet
     exact⟨by rw [Q.out];simp [i9,Z],rfl⟩
  case rest=>
  obtain⟨rfl,a1⟩:=hcut;have a2:=a1.symm;subst a2;cases F with
  | true=>
   have hh:(i.op=9\/i.op=10)/\(j.op=9\/j.op=10):=by have:=Q.out.symm;simpa using this
   have D:Hid (depR i j=(i.a==j.a)):=by unfold Hid depR;simp [hh]
   by_cases l:i.a=j.a
   ·have E:(i.a==j.a)=true:=by simpa using l
    clear l;go_wp2_with fail
    all_goals (go_ret;exact⟨by rw [J.out,D.out,E];first | rfl | simp [*],I.out⟩)
   ·have E:(i.a==j.a)=false:=by simpa using l
    clear l;go_wp2_with fail
    all_goals (go_ret;exact⟨by rw [J.out,D.out,E];first | rfl | simp [*],I.out⟩)
  | false=>
   have hn:¬((i.op=9\/i.op=10)/\(j.op=9\/j.op=10)):=by have:=Q.out.symm;simpa using this
   by_cases V:i.op=3
   ·rw [V]at i0;by_cases P:j.op=3
    ·rw [P]at W;have D:Hid (depR i j=(i.a==j.a)):=by unfold Hid depR;simp [V,P]
     by_cases l:i.a=j.a
     ·have E:(i.a==j.a)=true:=by simpa using l
      clear l;go_wp2_with fail
      all_goals (go_ret;exact⟨by rw [J.out,D.out,E];first | rfl | simp [*],I.out⟩)
     ·have E:(i.a==j.a)=false:=by simpa using l
      clear l;go_wp2_with fail
      all_goals (go_ret;exact⟨by rw [J.out,D.out,E];first | rfl | simp [*],I.out⟩)
    ·have e3:(j.op==3)=false:=by simpa using P
     by_cases j2:j.op=2
     ·rw [j2]at W;clear e3;have D:Hid (depR i j=(i.a==j.b)):=by unfold Hid depR;simp [V,j2]
      by_cases l:i.a=j.b
      ·have E:(i.a==j.b)=true:=by simpa using l
       clear l;go_wp2_with fail
       all_goals (go_ret;exact⟨by rw [J.out,D.out,E];first | rfl | simp [*],I.out⟩)
      ·have E:(i.a==j.b)=false:=by simpa using l
       clear l;go_wp2_with fail
       all_goals (go_ret;exact⟨by rw [J.out,D.out,E];first | rfl | simp [*],I.out⟩)
     ·have e2:(j.op==2)=false:=by simpa using j2
      have D:Hid (depR i j=false):=by unfold Hid depR;simp [V,P,j2]
      go_wp2_with fail
      go_ret;exact⟨by rw [J.out,D.out];rfl,I.out⟩
   ·have d3:(i.op==3)=false:=by simpa using V
    by_cases aa:i.op=2
    ·rw [aa]at i0;clear d3;by_cases P:j.op=3
     ·rw [P]at W;have D:Hid (depR i j=(i.b==j.a)):=by unfold Hid depR;simp [aa,P]
      by_cases l:i.b=j.a
      ·have E:(i.b==j.a)=true:=by simpa using l
       clear l;go_wp2_with fail
       all_goals (go_ret;exact⟨by rw [J.out,D.out,E];first | rfl | simp [*],I.out⟩)
      ·have E:(i.b==j.a)=false:=by simpa using l
       clear l;go_wp2_with fail
       all_goals (go_ret;exact⟨by rw [J.out,D.out,E];first | rfl | simp [*],I.out⟩)
     ·have e3:(j.op==3)=false:=by simpa using P
      have D:Hid (depR i j=false):=by unfold Hid depR;simp [aa,P]
      go_wp2_with fail
      go_ret;exact⟨by rw [J.out,D.out];rfl,I.out⟩
    ·have d2:(i.op==2)=false:=by simpa using aa
     have D:Hid (depR i j=false):=by unfold Hid depR;rw [if_neg hn];simp [V,aa]
     go_wp2_with fail
     go_ret;exact⟨by rw [J.out,D.out];rfl,I.out⟩
end
end Go.Proofs.YtklenjmfalljgabGreatDoor
