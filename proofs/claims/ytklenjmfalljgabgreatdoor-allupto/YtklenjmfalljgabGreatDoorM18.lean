/- The texts Cct Sho Shp Sht Rfs. -/
import Derived.Test.YtklenjmfalljgabGreatDoorM05
import Derived.Test.YtklenjmfalljgabGreatDoorM06
import Derived.Test.YtklenjmfalljgabGreatDoorM07
import Derived.Test.YtklenjmfalljgabGreatDoorM08
import Derived.Lib.AppendZeros
namespace Go.Proofs.YtklenjmfalljgabGreatDoor
set_option maxRecDepth 100000
set_option maxHeartbeats 8000000
section
open Go.RowKit
attribute [local go_sem] Go.World.cell?_alloc_some
theorem pZ:((Tryz.prog.info? 3).map fun i=>(i.zero,i.size,i.bytes))=some (some (.int .i64 0),1,8):=by kernel_rfl
theorem BE(n:Nat)(w:World)(hn:n<=1000000):
  Calls Tryz.prog 131 #[.slice none 0 0,.int .i64 n] w fun e w'=>∃ v,e= .returned v/\w'.ownsRow w.heap.size 3 1 v 0 []/\w.grownBy w' none:=by
 obtain⟨j,d,h,hz1,i⟩:=info_parts pZ;rcases Nat.eq_zero_or_pos n with e | h0
 ·subst e;go_enter Tryz.func131,Tryz.ntmps131
  go_wp2
  go_ret;exact⟨_,rfl,⟨rfl,Or.inl ⟨rfl,rfl⟩⟩,ir _ _⟩
 ·have f:∀ ty,(Builtin.append_ #[39,3] ty #[.slice none 0 0,.int .i64 (n:Int)]).run Tryz.prog w=_:=fun ty=>Lib.run_append_nil_zeros w 39 3 ty 3 j _ .i64 .i64 Tryz.underlying39 Tryz.underlying3 d h n h0 (by omega) (by omega) (by rw [i];omega)
  have hGn:n<=grownCap w n 0 3:=grownCap_ge w _ _ _;have a:grownCap w n 0 3<=maxLen:=grownCap_le_maxLen w n 0 3 (by unfold maxLen;omega);generalize grownCap w n 0 3=G at*;have b:Hid ((w.drew.alloc (.cells (Builtin.zeroCells (Value.int .i64 0).cells n++Builtin.zeroCells (Value.int .i64 0).cells (G - n)) 3)).ownsRow w.heap.size 3 1 (.slice (some ⟨w.heap.size,0,none⟩) 0 G) 0 []):=by
   refine⟨rfl,Or.inr ⟨w.heap.size,G,_,rfl,Nat.le_refl _,heap_alloc_new w.drew _,Nat.zero_le _,a,?_,by simp⟩⟩;simp [Builtin.zeroCells,Value.cells];omega
  have c:Hid (w.grownBy (w.drew.alloc (.cells (Builtin.zeroCells (Value.int .i64 0).cells n++Builtin.zeroCells (Value.int .i64 0).cells (G - n)) 3)) none):=⟨rfl,rfl,rfl,by simp,fun k hk _=>heap_alloc_old w.drew _ hk⟩;have h1:(0:Int)<(n:Int):=by omega
  have h2:(n:Int)<=1000000:=by omega
  have h3:(0:Int)<=(n:Int):=by omega
  generalize w.drew.alloc (.cells (Builtin.zeroCells (Value.int .i64 0).cells n++Builtin.zeroCells (Value.int .i64 0).cells (G - n)) 3)=w' at*;have h5:G<=9223372036854775807:=by unfold maxLen at a;omega
  clear a;go_enter Tryz.func131,Tryz.ntmps131
  go_wp2_with (at_builtin;refine Lib.wpList_append_run _ rfl _ _ _ _ rfl _ _ rfl rfl _ _ (f _) ?_)
  go_ret;exact⟨_,rfl,b.out,c.out⟩
def nilOk(x:Value):Prop:=∀ n c,x= .slice none n c->n=0/\c=0
def RowsAt(w:World)(v:Value)(ss:List (List Int)):Prop:=
 ∃ g o cap,v= .slice (some ⟨g,o,none⟩) ss.length cap/\g<w.heap.size/\∀ k (hk:k<ss.length),∃ x,w.cell? ⟨g,o+k,none⟩=some x/\IntsAt w.heap.size w x ss[k]/\nilOk x
theorem lL(a:List (List Int))(k:Nat)(b:k<a.length):(a.take (k+1)).flatten=(a.take k).flatten++a[k]:=by
 rw [List.take_succ_eq_append_getElem b,List.flatten_append];simp
theorem qM(a:List (List Int))(k:Nat):(a.take k).flatten.length<=a.flatten.length:=by
 conv=>rhs;rw [<-List.take_append_drop k a,List.flatten_append,List.length_append]
 omega
theorem wo{w:World}{g o c:Nat}{l:List Int}(h:IntsAt w.heap.size w (.slice (some ⟨g,o,none⟩) l.length c) l):∀ j u,(ints l)[j]?=some u->w.cell? ((⟨g,o,none⟩:Addr).add j)=some u:=by
 intro j u a;obtain⟨ao,cap,e,_,i⟩:=h;have b:=(List.getElem?_eq_some_iff.1 a).1;rw [jc]at b;obtain⟨g',o',d,e2,f⟩:=i j b;simp only [Value.slice.injEq]at e;rw [d]at e;simp only [Option.some.injEq,Addr.mk.injEq,and_true]at e;obtain⟨⟨rfl,rfl⟩,_⟩:=e;have k:(⟨g,o,none⟩:Addr).add j=⟨g,o+j,none⟩:=by unfold Addr.add;split<;>simp_all
 rw [k,f];have:(ints l)[j]?=some (.int .i64 l[j]):=by simp [ints,b]
 rw [this]at a;exact a
theorem ox(a:List (List Int))(sv:Value)(w:World)(Z:RowsAt w sv a)(hn:a.length<=1000)(ht:a.flatten.length<=1000000):
  Calls Tryz.prog 89 #[sv] w fun e w'=>∃ v,e= .returned v/\w'.ownsRow w.heap.size 3 1 v a.flatten.length (ints a.flatten)/\w.grownBy w' none:=by
 obtain⟨i0,ab,aj,ak,al⟩:=info_parts pZ;obtain⟨g,o,cap,rfl,hg,hc⟩:=Z;have D:=ij hc;have hn':(a.length:Int)<=1000:=by omega
 clear hc;go_enter Tryz.func89,Tryz.ntmps89
 go_wp2_with fail
 go_loopw [3,11] (fun z i w'=>∃ k n:Nat,k<=a.length/\i= .int .i64 k/\z= .int .i64 n/\Hid (n=(a.take k).flatten.length)/\Hid (w'=w)) (fun _ i _=>a.length - (intOf i).toNat)
 case atStart=>exact⟨0,0,Nat.zero_le _,rfl,rfl,rfl,rfl⟩
 case round=>
  obtain⟨k,n,M,rfl,rfl,l,I⟩:=hrel;obtain rfl:=I.out.symm;clear I;have N:n<=1000000:=by have:=l.out;have:=qM a k;omega
  have ai:(n:Int)<=1000000:=by omega
  have ah:(0:Int)<=(n:Int):=by omega
  by_cases c:k<a.length
  ·obtain⟨x,c0,h,r⟩:=D.out k c;obtain⟨m,t,rfl⟩:=h.form;have ag:n+a[k].length<=1000000:=by
    have B:=qM a (k+1);rw [lL a k c,List.length_append]at B;have:=l.out;omega
   have p:Hid (n+a[k].length=(a.take (k+1)).flatten.length):=by
    unfold Hid;rw [lL a k c,List.length_append,l.out]
   clear h r;generalize a[k]=s at*;have hs0:(0:Int)<=(s.length:Int):=by omega
   have hs1:(n:Int)+(s.length:Int)<=1000000:=by omega
   have hs2:(0:Int)<=(n:Int)+(s.length:Int):=by omega
   have ae:(0:Int)<=(k:Int):=by omega
   have q:(k:Int)<a.length:=by omega
   go_wp2_with fail
   go_roundw
   case rel=>exact⟨k+1,n+s.length,by omega,by go_num,by go_num,p,(by first | exact trivial | rfl)⟩
   case measure=>simp [intOf];omega
  ·have q:(a.length:Int)<=(k:Int):=by omega
   have S:Hid (n=a.flatten.length):=by unfold Hid;rw [l.out,List.take_of_length_le (by omega)]
   go_wp2_with (go_at_call 131;refine(BE n _ N).mono ?_;rintro e w1 ⟨v1,rfl,C,J⟩)
   obtain⟨a1,a2,a3,rfl⟩:=iw C;have G:=ij C;have E:=ij J;clear C J l S N ai ah M c q;go_wp2_with fail
   go_loopw [6,27] (fun v i w'=>∃ k:Nat,k<=a.length/\i= .int .i64 k/\Hid (w'.ownsRow w.heap.size 3 1 v (a.take k).flatten.length (ints (a.take k).flatten))/\Hid (w.grownBy w' none)) (fun _ i _=>a.length - (intOf i).toNat)
   case atStart=>exact⟨0,Nat.zero_le _,rfl,G,E⟩
   case round=>
    clear G E;obtain⟨k,M,rfl,f,b⟩:=hrel;obtain⟨d,P⟩:∃ d,d=wr:=⟨_,rfl⟩;rw [<-P]at f b ⊢;clear P;by_cases c:k<a.length
    ·obtain⟨x,c0,h,r⟩:=D.out k c;obtain⟨m,t,rfl⟩:=h.form;have d0:=ip b.out _ _ c0;have ag:(a.take k).flatten.length+a[k].length<=1000000:=by
      have B:=qM a (k+1);rw [lL a k c,List.length_append]at B;omega
     have p:Hid ((a.take (k+1)).flatten=(a.take k).flatten++a[k]):=lL a k c;have y:Hid (IntsAt d.heap.size d (.slice m a[k].length t) a[k]):=(h.pres (ip b.out)).mono b.out.size;have H:Hid (m=none->a[k].length=0/\t=0):=fun e=>r _ _ (by rw [e])
     have F:Hid (∀ A,m=some A->∀ j u,(ints a[k])[j]?=some u->d.cell? (A.add j)=some u):=by
      rintro A rfl j u L;have hl:=(List.getElem?_eq_some_iff.1 L).1;rw [jc]at hl;obtain⟨ao,cp,e,_,X⟩:=y.out;obtain⟨g',o',W,_⟩:=X 0 (by omega);simp only [Value.slice.injEq]at e;rw [W]at e;simp only [Option.some.injEq]at e;obtain⟨rfl,_⟩:=e;exact wo y.out j u L
     clear c0 h r;generalize a[k]=s at*;obtain⟨b1,b2,b3,hv⟩:=iw f.out;have ae:(0:Int)<=(k:Int):=by omega
     have q:(k:Int)<a.length:=by omega
     have ac:(ints s).length=s.length*1:=by rw [jc];omega
     have Y:(a.take k).flatten.length+s.length<=maxLen:=by unfold maxLen;omega
     have aa:w.heap.size<=d.heap.size:=b.out.size;have U:=ij (iA f.out);go_wp2_with (at_builtin;refine jk rfl _ _ _ rfl w.heap.size 3 i0 _ 1 8 Tryz.underlying39 ab aj ak al rfl (by omega) u6 (a.take k).flatten.length (ints (a.take k).flatten) rfl f.out m s.length t (ints s) rfl ac H.out F.out (lz _) Y (by omega) aa ?_;intro ta tn tc Q O K)
     have T:Hid (Q.ownsRow w.heap.size 3 1 (.slice ta tn tc) (a.take (k+1)).flatten.length (ints (a.take (k+1)).flatten)):=by
      unfold Hid;rw [p.out,List.length_append]
      have:ints ((a.take k).flatten++s)=ints (a.take k).flatten++ints s:=by simp [ints]
      rw [this];exact O
     have R:Hid (w.grownBy Q none):=iZ b.out K U.out;clear O K f b p y H F;go_wp2_with fail
     go_roundw
     case rel=>exact⟨k+1,by omega,by go_num,T,R⟩
     case measure=>simp [intOf];omega
    ·have q:(a.length:Int)<=(k:Int):=by omega
     have V:Hid (d.ownsRow w.heap.size 3 1 u6 a.flatten.length (ints a.flatten)):=by
      have:=f.out;rwa [List.take_of_length_le (by omega)]at this
     go_wp2_with fail
     go_ret;exact⟨_,rfl,V.out,b.out⟩
theorem yV{W:World}{x:Value}{l:List Int}{t:TypeId}{g:Nat}(b:W.heap.size=g)(h:IntsAt W.heap.size W x l)(c:nilOk x):RowsAt (W.alloc (.cells #[x] t)) (.slice (some ⟨g,0,none⟩) 1 1) [l]:=by
 subst b;refine⟨W.heap.size,0,1,rfl,by simp,fun k hk=>⟨x,?_,?_,c⟩⟩
 ·have a:k=0:=by simp at hk;omega
  subst a;have h:=heap_alloc_new W (.cells #[x] t);simp only [World.cell?,h];rfl
 ·have a:k=0:=by simp at hk;omega
  subst a;exact(h.pres (ip (iq (ir _ _)))).mono (by simp)
theorem sY{W:World}{x y:Value}{l m:List Int}{t:TypeId}{g:Nat}(d:W.heap.size=g)(h:IntsAt W.heap.size W x l)(f:nilOk x)(c:IntsAt W.heap.size W y m)(i:nilOk y):RowsAt (W.alloc (.cells #[x,y] t)) (.slice (some ⟨g,0,none⟩) 2 2) [l,m]:=by
 subst d;have a:=heap_alloc_new W (.cells #[x,y] t);have b:∀ {v:Value} {l:List Int},IntsAt W.heap.size W v l->IntsAt (W.alloc (.cells #[x,y] t)).heap.size (W.alloc (.cells #[x,y] t)) v l:=fun h=>(h.pres (ip (iq (ir _ _)))).mono (by simp)
 refine⟨W.heap.size,0,2,rfl,by simp,fun k hk=>?_⟩;have e:k=0\/k=1:=by simp at hk;omega
 rcases e with rfl | rfl
 ·exact⟨x,by simp only [World.cell?,a];rfl,b h,f⟩
 ·exact⟨y,by simp only [World.cell?,a];rfl,b c,i⟩
theorem MachAt.mono{B a:Nat}{w:World}{m:Nat}{p:List (List Ins)}(H:MachAt B w m p)(e:B<=a):MachAt a w m p:=by
 obtain⟨g,b,h1,h2,c,d⟩:=H;refine⟨g,b,by omega,by omega,c,fun t ht=>?_⟩;obtain⟨v,k1,k2⟩:=d t ht;exact⟨v,k1,k2.mono e⟩
theorem IntsAt.front{B:Nat}{w:World}{b:Option Addr}{d n:Nat}{l:List Int}(h:IntsAt B w (.slice b l.length d) l)(q:n<=l.length):IntsAt B w (.slice b n d) (l.take n):=by
 obtain⟨a,c,e,h1,m⟩:=h;simp only [Value.slice.injEq,true_and]at e;obtain⟨rfl,rfl⟩:=e;refine⟨b,d,by simp [Nat.min_eq_left q],by simp;omega,fun k hk=>?_⟩;have p:k<l.length:=by simp at hk;omega
 obtain⟨g,o,f,i,j⟩:=m k p;exact⟨g,o,f,i,by rw [List.getElem_take];exact j⟩
theorem ud(o:Out)(w:World)(h c:Option Addr)(i f d:Nat)(j k l m:Int)(hl:o.steps.length<=1000):
  Calls Tryz.prog 90 #[.agg #[.int .i64 o.kind,.int .i64 o.thread,.int .i64 o.at_,.slice h o.steps.length i,.int .i64 j,.int .i64 k,.int .i64 l,.int .i64 m,.slice c f d]] w fun e w'=>e= .returned (.int .i64 (cameTo o))/\w.grownBy w' none:=by
 have hl':(o.steps.length:Int)<=1000:=by omega
 by_cases a:o.kind=2
 ·have b:Hid (((cameTo o:Nat):Int)=o.steps.length+1):=by unfold Hid cameTo;rw [if_pos a];simp
  rw [a];go_enter Tryz.func90,Tryz.ntmps90
  go_wp2_with fail
  go_ret;exact⟨by rw [b.out];first | rfl | go_num,iq (ir _ _)⟩
 ·have b:Hid (((cameTo o:Nat):Int)=o.steps.length):=by unfold Hid cameTo;rw [if_neg a]
  have hb:(o.kind==2)=false:=by simpa using a
  clear a;go_enter Tryz.func90,Tryz.ntmps90
  go_wp2_with fail
  go_ret;exact⟨by rw [b.out];first | rfl | go_num,iq (ir _ _)⟩
end
section
open Go.RowKit
attribute [local go_sem] Go.World.cell?_alloc_some mS
theorem oG(p:List (List Ins))(l:List Int):(runS p l).steps.length<=l.length:=by
 obtain⟨m,h1,h2,a,_⟩:=lf p l 0 St.zero [];unfold runS;simp at a;omega
def resCl(o:Out)(sv gv:Value):Array Value:= #[.int .i64 o.kind,.int .i64 o.thread,.int .i64 o.at_,sv,.int .i64 (o.st.vars 0),.int .i64 (o.st.vars 1),.int .i64 (o.st.vars 2),.int .i64 (o.st.vars 3),gv]
theorem uP{B:Nat}{w:World}{g b i:Nat}{l:List Int}(h:IntsAt B w (.slice (some ⟨g,0,none⟩) l.length b) l)(hi:i<l.length):
  IntsAt B w (.slice (some ⟨g,i+1,none⟩) (l.length - (i+1)) (b - (i+1))) (l.drop (i+1)):=by
 obtain⟨a,c,e,h1,m⟩:=h;simp only [Value.slice.injEq,true_and]at e;obtain⟨rfl,rfl⟩:=e;refine⟨some ⟨g,i+1,none⟩,b - (i+1),by simp,by simp;omega,fun k hk=>?_⟩;have n:i+1+k<l.length:=by simp at hk;omega
 obtain⟨g',o',d,f,j⟩:=m (i+1+k) n;simp only [Option.some.injEq,Addr.mk.injEq,and_true]at d;obtain⟨rfl,rfl⟩:=d;refine⟨g,i+1,rfl,f,?_⟩;rw [List.getElem_drop];simpa using j
theorem lp{w:World}{o:Obj}:w.grownBy (w.drew.alloc o) none:=⟨rfl,rfl,rfl,by simp,fun k hk _=>heap_alloc_old w.drew _ hk⟩
theorem qQ{w w':World}(h:w.drew.grownBy w' none):w.grownBy w' none:=⟨h.os,h.tape,h.output,h.size,h.block⟩
theorem BN{B:Nat}{w:World}{a:Option Addr}{c:Nat}:IntsAt B w (.slice a 0 c) []:=⟨a,c,rfl,Nat.zero_le _,fun k hk=>by simp at hk⟩
theorem ll{a:Addr}{n c:Nat}:nilOk (.slice (some a) n c):=fun n' c' e=>by simp at e
theorem A6{m:Nat}{w:World}{p:List (List Ins)}{v:Value}{b:List Int}{fuel:Int}(hp:vProg p=true)(hM:MachAt w.heap.size w m p)(U:IntsAt w.heap.size w v b)(aE:nilOk v)(a8:b.length<=500)
  (hf0:0<=fuel) (hf1:fuel<=9223372036854775807):
  Calls Tryz.prog 58 #[.pointer (some ⟨m,0,none⟩),v,.int .i64 fuel] w fun e w'=>∃ sv,e= .returned (.tuple #[sv,.int .i64 ((shortS p b fuel.toNat).2:Nat)])/\w'.ownsRow w.heap.size 3 1 sv (shortS p b fuel.toNat).1.length (ints (shortS p b fuel.toNat).1)/\w.grownBy w' none:=by
 have HP:=ij hp;have HM:=ij hM;have HV:=ij U;have HN:=ij aE;obtain⟨so,K,rfl⟩:=U.form;have hcap:b.length<=K:=by
  obtain⟨a,c,e,h1,_⟩:=U;simp only [Value.slice.injEq]at e;omega
 clear hp hM U aE;have HC:=ij (vb p b);go_enter Tryz.func58,Tryz.ntmps58
 go_wp2_with fail
 refine(qo HP.out HM.out (Nat.le_refl _) HV.out a8).mono ?_;rintro e q ⟨rv,rfl,⟨sv,gv,rfl,ae,aG⟩,az⟩;obtain⟨x1,x2,x3,rfl⟩:=iw ae;obtain⟨y1,y2,y3,rfl⟩:=iw aG;have bi:=iB ae;subst bi;have ag:=ij az;have hln:=oG p b;have hcl:=HC.out.2;have ap:Hid (∀ n,shortS p b n=shr p (runS p b) n (b.take (cameTo (runS p b))) 0 0):=fun n=>rfl
 clear ae aG az;generalize hO:runS p b=o at*;clear hO;have bd:o.steps.length<=1000:=by omega
 have ec:∃ f:Nat,f=cameTo o:=⟨_,rfl⟩;obtain⟨f,ad⟩:=ec;rw [<-ad]at hcl ap;have aV:=ij ad;clear ad;have c0:(f:Int)<=K:=by omega
 have c1:(0:Int)<=(f:Int):=by omega
 go_wp2_with (go_at_call 90;refine(ud o _ _ _ _ _ _ _ _ _ _ bd).mono ?_;rintro e z ⟨rfl,O⟩;rw [<-aV.out])
 have x:Hid (w.grownBy z none):=il (il ag.out (iq (ir _ _))) O;have bf:q.heap.size<z.heap.size:=by have:=O.size;simp at this;omega
 have aT:Hid (z.heap[q.heap.size]?=some (.cells (resCl o (.slice x1 o.steps.length x3) (.slice y1 y2 y3)) 31 (0,0))):=by
  unfold Hid;rw [O.block _ (by simp) (by simp)];exact heap_alloc_new q _
 have aZ:Hid (MachAt w.heap.size z m p):=HM.out.grown' (Nat.le_refl _) x.out;have ai:Hid (IntsAt z.heap.size z (.slice so f K) (b.take f)):=((HV.out.pres (ip x.out)).mono x.out.size).front hcl;have al:Hid (nilOk (.slice so f K)):=fun n c e=>by
  simp only [Value.slice.injEq]at e;have:=HN.out b.length K (by rw [e.1]);omega
 clear O ag;have C:([b.take f]:List (List Int)).flatten=b.take f:=by simp
 refine(ox [b.take f] _ _ (yV rfl ai.out al.out) (by simp) (by rw [C];simp;omega)).mono ?_;rintro e w3 ⟨sv3,rfl,Q,aA⟩;rw [C]at Q;obtain⟨z1,z2,z3,rfl⟩:=iw Q;have am:Hid (w3.ownsRow w.heap.size 3 1 (.slice z1 z2 z3) (b.take f).length (ints (b.take f))):=iK Q (by have:=x.out.size;simp;omega);have ah:Hid (z.grownBy w3 none):=il (iq (ir _ _)) aA;have bc:(b.take f).length<=500:=by simp;omega
 clear Q aA ai al C;go_wp2_with fail
 go_loopw [9,10,11] (fun sv r iv w'=>∃ (l:List Int) (i u:Nat),r= .int .i64 u/\iv= .int .i64 i/\l.length<=500/\i<=l.length/\(u:Int)<=fuel/\Hid (w'.ownsRow w.heap.size 3 1 sv l.length (ints l))/\Hid (z.grownBy w' none)/\Hid (shr p o (fuel.toNat - u) l i u=shr p o fuel.toNat (b.take f) 0 0)) (fun _ r _ _=>fuel.toNat - (intOf r).toNat)
 case atStart=>exact⟨b.take f,0,0,rfl,rfl,bc,Nat.zero_le _,by omega,am,ah,rfl⟩
 case round=>
  clear am ah;obtain⟨l,i,u,rfl,rfl,be,hil,j,A,D,HS⟩:=hrel;obtain⟨t,aK⟩:∃ t,t=wr:=⟨_,rfl⟩;rw [<-aK]at A D ⊢;clear aK;have q0:(0:Int)<=(i:Int):=by omega
  have q1:(0:Int)<=(u:Int):=by omega
  have q2:(l.length:Int)<=500:=by omega
  by_cases aD:i<l.length/\(u:Int)<fuel
  ·obtain⟨P,huf⟩:=aD;obtain⟨y,k,bh⟩:∃ y k,u9= .slice (some ⟨y,0,none⟩) l.length k:=by
    rcases A.out.2 with ⟨_,e⟩ | ⟨y,k,_,e,_⟩
    ·omega
    ·exact⟨y,k,e⟩
   subst bh;have Z:=ij (iV A.out);have hcp:l.length<=k:=by
    obtain⟨a,c,e,h1,_⟩:=Z.out;simp only [Value.slice.injEq]at e;omega
   have q3:(i:Int)<l.length:=by omega
   have q4:(i:Int)<=k:=by omega
   have q5:(i:Int)+1<=l.length:=by omega
   have q6:(l.length:Int)<=k:=by omega
   have aF:fuel.toNat - u=(fuel.toNat - (u+1))+1:=by omega
   have aq:Hid (shr p o fuel.toNat (b.take f) 0 0=if likeV (runS p (leftOut l i)) o=true then shr p o (fuel.toNat - (u+1)) (leftOut l i) 0 (u+1) else shr p o (fuel.toNat - (u+1)) l (i+1) (u+1)):=by
    unfold Hid;rw [<-HS.out,aF,shr,if_pos P]
   have hll:=lD P;clear HS aF;go_upto_region 7 with fail
   have V:Hid (IntsAt t.drew.heap.size t.drew (.slice (some ⟨y,0,none⟩) i k) (l.take i)):=Z.out.front (by omega);go_cut [12] (fun tv w'=>Hid (w'.ownsRow w.heap.size 3 1 tv (leftOut l i).length (ints (leftOut l i))/\t.grownBy w' none))
   case first=>
    have aM:IntKind.i64.wrap ((i:Int)+1)=(i:Int)+1:=by rw [IntKind.wrap_i64];omega
    have htn:((i:Int)+1).toNat=i+1:=by omega
    by_cases hsk:k - (i+1)=0
    ·have X:Hid (IntsAt t.drew.heap.size t.drew (.slice (some ⟨y,0,none⟩) (l.length - (i+1)) 0) (l.drop (i+1))):=by
      have e1:l.drop (i+1)=[]:=List.drop_of_length_le (by omega);have e2:l.length - (i+1)=0:=by omega
      unfold Hid;rw [e1,e2];exact BN
     have Y:Hid (k=i+1):=by unfold Hid;omega
     refine iz (fun _=>True) 9 (by kernel_rfl) (by kernel_rfl) trivial ?_;intro d;refine ie 0 ?va0 rfl (by kernel_rfl) (fun _ _ _ h=>h) (by rfl) ?ya0 d ?_
     case ya0=>(intro u j;go_simp;try rfl)
     simp only [Act.put,List.setIfInBounds_toArray];refine ie 1 ?va1 rfl (by kernel_rfl) (fun _ _ _ h=>h) (by rfl) ?ya1 d ?_
     case ya1=>(intro u j;go_simp;try rfl)
     simp only [Act.put];refine ie 2 ?va2 rfl (by kernel_rfl) (fun _ _ _ h=>h) (by rfl) ?ya2 d ?_
     case ya2=>(intro u j;go_simp;try rfl)
     simp only [Act.put];refine ie 3 ?va3 rfl (by kernel_rfl) (fun _ _ _ h=>h) (by rfl) ?ya3 d ?_
     case ya3=>(intro u j;go_simp;try rfl)
     simp only [Act.put];refine ie 4 ?va4 rfl (by kernel_rfl) (fun _ _ _ h=>h) (by rfl) ?ya4 d ?_
     case ya4=>(intro u j;go_simp;try rfl)
     simp only [Act.put];refine jr (i:=5) (v:= .int .i64 ((i:Int)+1)) rfl (by kernel_rfl) (fun _ _ _ h=>h) (Or.inl ⟨by rfl,?ya5⟩) d ?resta5
     case ya5=>(intro u j;go_simp;try rw [aM])
     simp only [Act.put];refine jr (i:=6) (v:= .slice (some ⟨y,0,none⟩) (l.length - (i+1)) 0) rfl (by kernel_rfl) (fun _ _ _ h=>h) (Or.inl ⟨by rfl,?ya6⟩) d ?resta6
     case ya6=>(intro u j;have bb:=Y.out;go_simp;first | done | (intro h;exfalso;omega))
     simp only [Act.put];refine iu (i:=7) rfl (by kernel_rfl) (by kernel_rfl) (by rfl) ?_;intro K7 I;have G:=ij I;clear I;go_simp;refine G.out _ _ trivial ?_;clear G;try simp only [Act.put,List.setIfInBounds_toArray]
     refine iu (i:=8) rfl (by kernel_rfl) (by kernel_rfl) (by rfl) ?_;intro K8 J;have H:=ij J;clear J;go_simp;refine(ox [l.take i,l.drop (i+1)] _ _ (sY (W:=t.drew) rfl V.out ll X.out ll) (by simp) (by simp;omega)).mono ?_;rintro e w6 ⟨tv,rfl,s,B⟩;have C:([l.take i,l.drop (i+1)]:List (List Int)).flatten=leftOut l i:=by simp [leftOut]
     rw [C]at s;refine H.out _ _ trivial ?_;clear H;try simp only [Act.put,List.setIfInBounds_toArray]
     refine iF rfl (by kernel_rfl) (by kernel_rfl) (by rfl) ?_;go_simp;go_wp2
     go_meet
     exact⟨iK s (by have:=x.out.size;have:=D.out.size;simp;omega),il lp B⟩
    ·have X:Hid (IntsAt t.drew.heap.size t.drew (.slice (some ⟨y,i+1,none⟩) (l.length - (i+1)) (k - (i+1))) (l.drop (i+1))):=uP Z.out P;have Y:Hid (¬k=i+1):=by unfold Hid;omega
     refine iz (fun _=>True) 9 (by kernel_rfl) (by kernel_rfl) trivial ?_;intro d;refine ie 0 ?vb0 rfl (by kernel_rfl) (fun _ _ _ h=>h) (by rfl) ?yb0 d ?_
     case yb0=>(intro u j;go_simp;try rfl)
     simp only [Act.put,List.setIfInBounds_toArray];refine ie 1 ?vb1 rfl (by kernel_rfl) (fun _ _ _ h=>h) (by rfl) ?yb1 d ?_
     case yb1=>(intro u j;go_simp;try rfl)
     simp only [Act.put];refine ie 2 ?vb2 rfl (by kernel_rfl) (fun _ _ _ h=>h) (by rfl) ?yb2 d ?_
     case yb2=>(intro u j;go_simp;try rfl)
     simp only [Act.put];refine ie 3 ?vb3 rfl (by kernel_rfl) (fun _ _ _ h=>h) (by rfl) ?yb3 d ?_
     case yb3=>(intro u j;go_simp;try rfl)
     simp only [Act.put];refine ie 4 ?vb4 rfl (by kernel_rfl) (fun _ _ _ h=>h) (by rfl) ?yb4 d ?_
     case yb4=>(intro u j;go_simp;try rfl)
     simp only [Act.put];refine jr (i:=5) (v:= .int .i64 ((i:Int)+1)) rfl (by kernel_rfl) (fun _ _ _ h=>h) (Or.inl ⟨by rfl,?yb5⟩) d ?restb5
     case yb5=>(intro u j;go_simp;try rw [aM])
     simp only [Act.put];refine jr (i:=6) (v:= .slice (some ⟨y,i+1,none⟩) (l.length - (i+1)) (k - (i+1))) rfl (by kernel_rfl) (fun _ _ _ h=>h) (Or.inl ⟨by rfl,?yb6⟩) d ?restb6
     case yb6=>(intro u j;have bb:=Y.out;go_simp;first | done | (intro h;exfalso;omega))
     simp only [Act.put];refine iu (i:=7) rfl (by kernel_rfl) (by kernel_rfl) (by rfl) ?_;intro K7 I;have G:=ij I;clear I;go_simp;refine G.out _ _ trivial ?_;clear G;try simp only [Act.put,List.setIfInBounds_toArray]
     refine iu (i:=8) rfl (by kernel_rfl) (by kernel_rfl) (by rfl) ?_;intro K8 J;have H:=ij J;clear J;go_simp;refine(ox [l.take i,l.drop (i+1)] _ _ (sY (W:=t.drew) rfl V.out ll X.out ll) (by simp) (by simp;omega)).mono ?_;rintro e w6 ⟨tv,rfl,s,B⟩;have C:([l.take i,l.drop (i+1)]:List (List Int)).flatten=leftOut l i:=by simp [leftOut]
     rw [C]at s;refine H.out _ _ trivial ?_;clear H;try simp only [Act.put,List.setIfInBounds_toArray]
     refine iF rfl (by kernel_rfl) (by kernel_rfl) (by rfl) ?_;go_simp;go_wp2
     go_meet
     exact⟨iK s (by have:=x.out.size;have:=D.out.size;simp;omega),il lp B⟩
   case rest=>
   obtain⟨s,B⟩:=hcut;obtain⟨w6,aL⟩:∃ w6,w6=wc:=⟨_,rfl⟩;rw [<-aL]at s B ⊢;clear aL V;obtain⟨t1,t2,t3,rfl⟩:=iw s;have bg:=iB s;subst bg;have an:=ij s;have aX:=ij B;have E:Hid (z.grownBy w6 none):=il D.out B;have N:w6.heap[q.heap.size]?=some (.cells (resCl o (.slice x1 o.steps.length x3) (.slice y1 y2 y3)) 31 (0,0)):=by
    rw [E.out.block _ bf (by simp)];exact aT.out
   have k0:w6.cell? ⟨q.heap.size,0,none⟩=some (.int .i64 o.kind):=by simp only [World.cell?,N];rfl
   have k1:w6.cell? ⟨q.heap.size,1,none⟩=some (.int .i64 o.thread):=by simp only [World.cell?,N];rfl
   have k2:w6.cell? ⟨q.heap.size,2,none⟩=some (.int .i64 o.at_):=by simp only [World.cell?,N];rfl
   have a0:Hid (MachAt w6.drew.heap.size w6.drew m p):=(aZ.out.grown' x.out.size E.out).mono (Nat.le_trans x.out.size E.out.size);have aY:Hid (IntsAt w6.drew.heap.size w6.drew (.slice t1 (leftOut l i).length t3) (leftOut l i)):=iV an.out;have aw:(leftOut l i).length<=500:=by omega
   clear s B N;go_upto_region 8 with fail
   refine iz (fun u=>u.cell? ⟨q.heap.size,0,none⟩=some (.int .i64 o.kind)/\u.cell? ⟨q.heap.size,1,none⟩=some (.int .i64 o.thread)/\u.cell? ⟨q.heap.size,2,none⟩=some (.int .i64 o.at_)) 6 (by kernel_rfl) (by kernel_rfl) ⟨k0,k1,k2⟩ ?_;intro d;refine ie 0 ?vc0 rfl (by kernel_rfl) (fun _ _ _ h=>h) (by rfl) ?yc0 d ?_
   case yc0=>(rintro u ⟨R,S,T⟩;go_simp;try rfl)
   simp only [Act.put,List.setIfInBounds_toArray];refine ie 1 ?vc1 rfl (by kernel_rfl) (fun _ _ _ h=>h) (by rfl) ?yc1 d ?_
   case yc1=>(rintro u ⟨R,S,T⟩;go_simp;try rfl)
   simp only [Act.put];refine ie 4 ?vc4 rfl (by kernel_rfl) (fun _ _ _ h=>h) (by rfl) ?yc4 d ?_
   case yc4=>(rintro u ⟨R,S,T⟩;go_simp;try rfl)
   simp only [Act.put];refine ie 5 ?vc5 rfl (by kernel_rfl) (fun _ _ _ h=>h) (by rfl) ?yc5 d ?_
   case yc5=>(rintro u ⟨R,S,T⟩;go_simp;try rfl)
   simp only [Act.put];refine iu (i:=2) rfl (by kernel_rfl) (by kernel_rfl) (by rfl) ?_;intro K2 ax;have aj:=ij ax;clear ax;go_simp;refine(qo HP.out a0.out (Nat.le_refl _) aY.out aw).mono ?_;rintro e L ⟨rv7,rfl,⟨sv7,gv7,rfl,aJ,aI⟩,aB⟩;obtain⟨sa7,sb7,sc7,rfl⟩:=iw aJ;obtain⟨ra7,rb7,rc7,rfl⟩:=iw aI;clear aJ aI;have F:Hid (w6.grownBy L none):=qQ aB;have ac:L.cell? ⟨q.heap.size,0,none⟩=some (.int .i64 o.kind)/\L.cell? ⟨q.heap.size,1,none⟩=some (.int .i64 o.thread)/\L.cell? ⟨q.heap.size,2,none⟩=some (.int .i64 o.at_):=⟨ip F.out _ _ k0,ip F.out _ _ k1,ip F.out _ _ k2⟩;refine aj.out _ _ ac ?_;clear aj aB;try simp only [Act.put,List.setIfInBounds_toArray]
   refine ie 3 ?vd3 rfl (by kernel_rfl) (fun _ _ _ h=>h) (by rfl) ?yd3 ac ?_
   case yd3=>(rintro u ⟨R,S,T⟩;go_simp;try rfl)
   simp only [Act.put,List.setIfInBounds_toArray];refine iF rfl (by kernel_rfl) (by kernel_rfl) (by rfl) ?_;go_simp;refine(md (runS p (leftOut l i)) o L).mono ?_;rintro e w8 ⟨rfl,aC⟩;have M:Hid (w6.grownBy w8 none):=il F.out aC;clear aC d ac F k0 k1 k2;have q7:(u:Int)+1<=9223372036854775807:=by omega
   cases hlk:likeV (runS p (leftOut l i)) o
   ·have ab:Hid (shr p o (fuel.toNat - (u+1)) l (i+1) (u+1)=shr p o fuel.toNat (b.take f) 0 0):=by
     unfold Hid;rw [aq.out,hlk];simp
    clear hlk;go_wp2_with fail
    go_roundw
    case rel=>exact⟨l,i+1,u+1,by go_num,by go_num,be,by omega,by omega,iC (iC A.out aX.out (fun _ e=>by cases e)) M.out (fun _ e=>by cases e),il E.out M.out,ab⟩
    case measure=>simp [intOf];omega
   ·have ab:Hid (shr p o (fuel.toNat - (u+1)) (leftOut l i) 0 (u+1)=shr p o fuel.toNat (b.take f) 0 0):=by
     unfold Hid;rw [aq.out,hlk];simp
    clear hlk;go_wp2_with fail
    go_roundw
    case rel=>exact⟨leftOut l i,0,u+1,by go_num,rfl,aw,by omega,by omega,iC an.out M.out (fun _ e=>by cases e),il E.out M.out,ab⟩
    case measure=>simp [intOf];omega
  ·have HE:Hid (shr p o fuel.toNat (b.take f) 0 0=(l,u)):=by
    unfold Hid;rw [<-HS.out];cases hn:fuel.toNat - u with
    | zero=>rfl
    | succ n=>rw [shr,if_neg (fun h=>aD ⟨h,by omega⟩)]
   have af:Hid (shortS p b fuel.toNat=(l,u)):=by unfold Hid;rw [ap.out,HE.out]
   obtain⟨b1,b2,b3,rfl⟩:=iw A.out;have ba:=iB A.out;subst ba;by_cases P:i<l.length
   ·have q3:(i:Int)<l.length:=by omega
    have q4:fuel<=(u:Int):=by omega
    go_wp2_with fail
    rw [af.out];exact bodyPost_ret (v:= .tuple #[.slice b1 l.length b3,.int .i64 u]) (by simp [results,Tryz.results58,go_sem]) rfl ⟨_,rfl,A.out,il x.out D.out⟩
   ·have q3:(l.length:Int)<=(i:Int):=by omega
    go_wp2_with fail
    rw [af.out];exact bodyPost_ret (v:= .tuple #[.slice b1 l.length b3,.int .i64 u]) (by simp [results,Tryz.results58,go_sem]) rfl ⟨_,rfl,A.out,il x.out D.out⟩
end
section
open Go.RowKit
attribute [local go_sem] Go.World.cell?_alloc_some
def Shortened(p:List (List Ins))(s:List Int)(fuel:Int)(w:World)(e:Ending)(w':World):Prop:=
 w.grownBy w' none/\
 ((checkRunN p s=0/\0<=fuel/\∃ sv,e= .returned (.tuple #[sv,.int .i64 ((shortS p s fuel.toNat).2:Nat),.int .i64 0])/\w'.ownsRow w.heap.size 3 1 sv (shortS p s fuel.toNat).1.length (ints (shortS p s fuel.toNat).1))\/
  (checkRunN p s=0/\fuel<0/\e= .returned (.tuple #[.slice none 0 0,.int .i64 0,.int .i64 2]))\/
  (checkRunN p s≠0/\e= .returned (.tuple #[.slice none 0 0,.int .i64 0,.int .i64 (checkRunN p s)])))
theorem ou{p:List (List Ins)}{s:List Int}(a:checkRunN p s=0):vProg p=true/\s.length<=500:=by
 unfold checkRunN at a;by_cases b:vProg p=true
 ·by_cases c:s.length<=500
  ·exact⟨b,c⟩
  ·simp [b,c]at a
 ·simp [b]at a
theorem wY(p:List (List Ins))(s:List Int)(pv sv:Value)(fuel:Int)(w:World)(A:ShpAt w)(j:ProgAt w pv p)(i:IntsAt w.heap.size w sv s)(F:nilOk sv)(P:fuel<=9223372036854775807):
  Calls Tryz.prog 32 #[pv,sv,.int .i64 fuel] w (Shortened p s fuel w):=by
 have M:=ij A;have r:=ij j;have I:=ij i;have K:=ij F;obtain⟨u,x,rfl⟩:=j.form;obtain⟨so,sc,rfl⟩:=i.form;clear A j i F;go_enter Tryz.func32,Tryz.ntmps32
 go_wp2_with fail
 have k:∀ a b,w.grownBy ((w.alloc a).alloc b) none:=fun a b=>iq (iq (ir _ _))
 refine(la p [s] _ _ _ (M.out.pres (ip (k _ _))) (r.out.pres (ip (k _ _))) (ns (by simp)) (by simp)).mono ?_;rw [kQ];rintro e o ⟨rfl,l⟩;have f:Hid (w.grownBy o none):=il (k _ _) l;have B:o.heap[w.heap.size]?=some (.cells #[.slice u p.length x] 37 (0,0)):=by
  rw [l.block w.heap.size (by simp;omega) (by simp),Below.heap_alloc _ _ _ (by simp)];exact heap_alloc_new w _
 have c0:o.cell? ⟨w.heap.size,0,none⟩=some (.slice u p.length x):=by simp [World.cell?,B]
 clear B l;by_cases c:checkRunN p s=0
 ·have d:=ij c;obtain⟨G,N⟩:=ou c;have t:=ij G;rw [c];clear c G;by_cases O:fuel<0
  ·go_wp2_with fail
   exact bodyPost_ret (v:= .tuple #[.slice none 0 0,.int .i64 0,.int .i64 2]) (by simp [results,Tryz.results32,go_sem]) rfl ⟨f.out,Or.inr (Or.inl ⟨d.out,O,rfl⟩)⟩
  ·have C:0<=fuel:=by omega
   go_wp2_with fail
   refine(uV t.out (r.out.pres (ip f.out))).mono ?_;rintro e T ⟨m,rfl,z,D⟩;have J:=ij z;have h:Hid (w.grownBy T none):=il f.out D;clear z D c0;go_wp2_with fail
   refine(A6 t.out J.out ((I.out.pres (ip h.out)).mono h.out.size) K.out N C P).mono ?_;rintro e U ⟨rv,rfl,n,E⟩;obtain⟨Q,R,S,rfl⟩:=iw n;have L:=ij n;have H:Hid (w.grownBy U none):=il h.out E;clear n E;go_wp2_with fail
   exact bodyPost_ret (v:= .tuple #[.slice Q R S,.int .i64 ((shortS p s fuel.toNat).2:Nat),.int .i64 0]) (by simp [results,Tryz.results32,go_sem]) rfl ⟨H.out,Or.inl ⟨d.out,C,_,rfl,iK L.out h.out.size⟩⟩
 ·have d:=ij c;have hne:(checkRunN p s !=0)=true:=by simpa using c
  clear c;generalize y:checkRunN p s=e at*;have q:=ij y;clear y;go_wp2_with fail
  exact bodyPost_ret (v:= .tuple #[.slice none 0 0,.int .i64 0,.int .i64 e]) (by simp [results,Tryz.results32,go_sem]) rfl ⟨f.out,Or.inr (Or.inr ⟨by rw [q.out];exact d.out,by rw [q.out]⟩)⟩
theorem oL{B:Nat}{w:World}{i:Option Addr}{o n:Nat}{l:List Int}(h:IntsAt B w (.slice i n o) l):∀ b,i=some b->∀ j u,(ints l)[j]?=some u->w.cell? (b.add j)=some u:=by
 rintro b rfl j u d;obtain⟨a,c,e,_,r⟩:=h;have f:=(List.getElem?_eq_some_iff.1 d).1;rw [jc]at f;obtain⟨k,m,p,e2,q⟩:=r j f;simp only [Value.slice.injEq]at e;rw [p]at e;simp only [Option.some.injEq]at e;obtain⟨rfl,_⟩:=e;have s:(⟨k,m,none⟩:Addr).add j=⟨k,m+j,none⟩:=by unfold Addr.add;split<;>simp_all
 rw [s,q];have:(ints l)[j]?=some (.int .i64 l[j]):=by simp [ints,f]
 rw [this]at d;exact d
theorem j0{w:World}(n:Nat):w.grownBy (w.drewN n) none:=iH (by have:=jB w n;exact this)
theorem ww(a b:Out):likeV a b=((a.kind==b.kind && (a.thread==b.thread && a.at_==b.at_)) || (a.kind==2 && b.kind==2)):=by
 unfold likeV;by_cases h:a.kind=2
 ·rw [if_pos h,h];by_cases d:b.kind=2
  ·simp [d]
  ·have e:((2:Int)==b.kind)=false:=by simp;omega
   have c:(b.kind==2)=false:=by simpa using d
   simp [e,c]
 ·have c:(a.kind==2)=false:=by simpa using h
  rw [if_neg h,c];simp [Bool.and_assoc]
theorem rG(p:List (List Ins))(s:List Int)(pv sv:Value)(fuel:Int)(w:World)(hP:ProgAt w pv p)(hI:IntsAt w.heap.size w sv s)(bp:nilOk sv)(hf1:fuel<=9223372036854775807)(b3:p.length<=5864062014634)(br:∀ c∈p,c.length<=4398046510976):
  Calls Tryz.prog 33 #[pv,sv,.int .i64 fuel] w (Shortened p s fuel w):=by
 obtain⟨i0,ai,am,an,ap⟩:=info_parts ji;have HP:=ij hP;have HI:=ij hI;have HN:=ij bp;have bN:=ij br;obtain⟨ao,ae,rfl⟩:=hP.form;obtain⟨Y,L,rfl⟩:=hI.form;have hcap:s.length<=L:=by
  obtain⟨a,c,e,h1,_⟩:=hI;simp only [Value.slice.injEq]at e;omega
 clear hP hI bp br;go_enter Tryz.func33,Tryz.ntmps33
 go_wp2_with fail
 have bj:∀ a,w.grownBy (w.alloc a) none:=fun a=>iq (ir _ _)
 refine(kd p _ _ (HP.out.pres (ip (bj _))) b3 bN.out).mono ?_;rintro e w1 ⟨rfl,aJ⟩;have J:Hid (w.grownBy w1 none):=il (bj _) aJ;have bf:w1.heap[w.heap.size]?=some (.cells #[.slice ao p.length ae] 37 (0,0)):=by
  rw [aJ.block w.heap.size (by simp) (by simp)];exact heap_alloc_new w _
 have c0:w1.cell? ⟨w.heap.size,0,none⟩=some (.slice ao p.length ae):=by simp [World.cell?,bf]
 clear bf aJ;by_cases G:vProg p=true
 ·have T:checkN p=0:=by simp [checkN,G]
  have HV:=ij G;rw [T];clear T G;by_cases h5:s.length<=500
  ·have bV:(s.length:Int)<=500:=by omega
   have C:Hid (checkRunN p s=0):=by unfold Hid checkRunN;simp [HV.out,h5]
   by_cases hf:fuel<0
   ·go_wp2_with fail
    exact bodyPost_ret (v:= .tuple #[.slice none 0 0,.int .i64 0,.int .i64 2]) (by simp [results,Tryz.results33,go_sem]) rfl ⟨J.out,Or.inr (Or.inl ⟨C.out,hf,rfl⟩)⟩
   ·have bh:0<=fuel:=by omega
    have R:=ij (ms w1 ao ae p (.slice Y s.length L) s HV.out (HP.out.pres (ip J.out)) ((HI.out.pres (ip J.out)).mono J.out.size) (by omega));go_wp2_with fail
    refine(kI R).mono ?_;clear R;rintro e A ⟨b,ab,rb,st,rfl,N⟩;obtain⟨x1,x2,x3,rfl⟩:=iw N.row;have cc:=iB N.row;subst cc;have P:Hid (w.grownBy A none):=il J.out N.frame;obtain⟨bP,a6,a7,a8,_,_,_⟩:=N.vcells;have bH:=ij (ip N.frame _ _ c0);have bO:Hid (∀ u,A.grownBy u none->u.cell? ⟨b,11,none⟩=some (.int .i64 (runS p s).kind)/\u.cell? ⟨b,12,none⟩=some (.int .i64 (runS p s).thread)/\u.cell? ⟨b,13,none⟩=some (.int .i64 (runS p s).at_)):=fun u hu=>⟨ip hu _ _ a6,ip hu _ _ a7,ip hu _ _ a8⟩
    have aR:=ij (vb p s);have hln:=oG p s;have a5:Hid (∀ n,shortS p s n=shr p (runS p s) n (s.take (cameTo (runS p s))) 0 0):=fun n=>rfl
    clear N c0 a7 a8;have hcl:=aR.out.2;generalize hO:runS p s=o at*;clear hO;obtain⟨f,aH⟩:∃ f:Nat,f=cameTo o:=⟨_,rfl⟩;rw [<-aH]at hcl a5;have aQ:=ij aH;clear aH aR;have hl1:(o.steps.length:Int)<=500:=by omega
    go_upto_if 42 with fail
    go_cut [11] (fun nv w'=>nv= .int .i64 (f:Int)/\w'=A)
    case first=>
     by_cases hk:o.kind=2
     ·have hc:f=o.steps.length+1:=by rw [aQ.out];unfold cameTo;rw [if_pos hk]
      have HC:=ij hc;clear hc;go_wp2_with fail
      go_meet
      exact⟨by rw [HC.out];go_num,rfl⟩
     ·have hk2:(o.kind==2)=false:=by simpa using hk
      have hc:f=o.steps.length:=by rw [aQ.out];unfold cameTo;rw [if_neg hk]
      have HC:=ij hc;clear hc hk;go_wp2_with fail
      go_meet
      exact⟨by rw [HC.out],rfl⟩
    case rest=>
    obtain⟨rfl,ca⟩:=hcut;have cb:=ca.symm;subst cb;have a0:Hid (IntsAt A.heap.size A (.slice Y f L) (s.take f)):=((HI.out.pres (ip P.out)).mono P.out.size).front hcl;have a4:Hid (Y=none->f=0/\L=0):=fun e=>by
     have:=HN.out s.length L (by rw [e]);omega
    have K:Hid (∀ ad,Y=some ad->∀ j u,(ints (s.take f))[j]?=some u->A.cell? (ad.add j)=some u):=oL a0.out;have aK:(ints (s.take f)).length=f*1:=by rw [jc];simp;omega
    have bb:0+f<=maxLen:=by unfold maxLen;omega
    have q0:(f:Int)<=L:=by omega
    have q1:(0:Int)<=(f:Int):=by omega
    have b5:=P.out.size;clear bP a6;go_upto_region 12 with (at_builtin;refine jk rfl _ _ _ rfl w.heap.size 3 i0 _ 1 8 Tryz.underlying39 ai am an ap rfl (by omega) (.slice none 0 0) 0 [] rfl ⟨rfl,Or.inl ⟨rfl,rfl⟩⟩ Y f L (ints (s.take f)) rfl aK a4.out K.out (lz _) bb (by omega) b5 ?_;intro z1 z2 z3 w3 aM bk)
    simp only [Nat.zero_add,List.nil_append]at aM;have bt:(s.take f).length=f:=by simp;omega
    have a3:Hid (w3.ownsRow w.heap.size 3 1 (.slice z1 z2 z3) (s.take f).length (ints (s.take f))):=by unfold Hid;rw [bt];exact aM
    have aU:Hid (A.grownBy w3 none):=bk;have bZ:(s.take f).length<=500:=by omega
    clear aM bk aK bb a4 K a0 bt;go_wp2_with fail
    go_loopw [12,13,14] (fun lv uv kv w'=>∃ (l:List Int) (i u:Nat),uv= .int .i64 u/\kv= .int .i64 i/\l.length<=500/\i<=l.length/\(u:Int)<=fuel/\Hid (w'.ownsRow w.heap.size 3 1 lv l.length (ints l))/\Hid (A.grownBy w' none)/\Hid (shr p o (fuel.toNat - u) l i u=shr p o fuel.toNat (s.take f) 0 0)) (fun _ uv _ _=>fuel.toNat - (intOf uv).toNat)
    case atStart=>exact⟨s.take f,0,0,rfl,rfl,bZ,Nat.zero_le _,by omega,a3,aU,rfl⟩
    case round=>
     clear a3 aU;obtain⟨l,i,u,rfl,rfl,b1,aK,hu,E,Z,HS⟩:=hrel;obtain⟨t,bv⟩:∃ t,t=wr:=⟨_,rfl⟩;rw [<-bv]at E Z ⊢;clear bv;have r0:(0:Int)<=(i:Int):=by omega
     have r1:(0:Int)<=(u:Int):=by omega
     have r2:(l.length:Int)<=500:=by omega
     by_cases bY:i<l.length/\(u:Int)<fuel
     ·obtain⟨aL,huf⟩:=bY;obtain⟨r,k,b9⟩:∃ r k,u12= .slice (some ⟨r,0,none⟩) l.length k:=by
       rcases E.out.2 with ⟨_,e⟩ | ⟨r,k,_,e,_⟩
       ·omega
       ·exact⟨r,k,e⟩
      subst b9;have az:=ij (iV E.out);have hcp:l.length<=k:=by
       obtain⟨a,c,e,h1,_⟩:=az.out;simp only [Value.slice.injEq]at e;omega
      have r3:(i:Int)<l.length:=by omega
      have r4:(i:Int)<=k:=by omega
      have r5:(i:Int)+1<=l.length:=by omega
      have r6:(l.length:Int)<=k:=by omega
      have bq:fuel.toNat - u=(fuel.toNat - (u+1))+1:=by omega
      have S:Hid (shr p o fuel.toNat (s.take f) 0 0=if likeV (runS p (leftOut l i)) o=true then shr p o (fuel.toNat - (u+1)) (leftOut l i) 0 (u+1) else shr p o (fuel.toNat - (u+1)) l (i+1) (u+1)):=by
       unfold Hid;rw [<-HS.out,bq,shr,if_pos aL]
      have bo:=lD aL;have aA:=ij bo;have b6:w.heap.size<=t.heap.size:=by have:=Z.out.size;omega
      have K:Hid (∀ ad,some (⟨r,0,none⟩:Addr)=some ad->∀ j v,(ints (l.take i))[j]?=some v->t.cell? (ad.add j)=some v):=oL (IntsAt.front az.out (by omega));have bm:(ints (l.take i)).length=i*1:=by rw [jc];simp;omega
      have bc:0+i<=maxLen:=by unfold maxLen;omega
      clear HS bq bo;go_upto_region 17 with (at_builtin;refine jk rfl _ _ _ rfl t.heap.size 3 i0 _ 1 8 Tryz.underlying39 ai am an ap rfl (by omega) (.slice none 0 0) 0 [] rfl ⟨rfl,Or.inl ⟨rfl,rfl⟩⟩ (some ⟨r,0,none⟩) i k (ints (l.take i)) rfl bm (fun e=>by cases e) K.out (lz _) bc (by omega) (Nat.le_refl _) ?_;intro ta tn tc w6 aN W)
      simp only [Nat.zero_add,List.nil_append]at aN;have Q:=ij aN;have ax:Hid (t.grownBy w6 none):=W;have aP:t.heap.size<=w6.heap.size:=W.size;have a1:Hid (IntsAt w6.heap.size w6 (.slice (some ⟨r,0,none⟩) l.length k) l):=(az.out.pres (ip W)).mono W.size;have aI:ints (l.take i)++ints (l.drop (i+1))=ints (leftOut l i):=by simp [ints,leftOut]
      have bi:i+(l.length - (i+1))=(leftOut l i).length:=by have:=aA.out;omega
      have bd:i+(l.length - (i+1))<=maxLen:=by unfold maxLen;omega
      have bn:(ints (l.drop (i+1))).length=(l.length - (i+1))*1:=by rw [jc];simp
      clear aN W bm bc K;go_cut [15] (fun tv w'=>Hid (w'.ownsRow t.heap.size 3 1 tv (leftOut l i).length (ints (leftOut l i))/\t.grownBy w' none))
      case first=>
       by_cases hsk:k - (i+1)=0
       ·have bl:k=i+1:=by omega
        have bg:l.drop (i+1)=[]:=List.drop_of_length_le (by omega);have I:Hid (ints (leftOut l i)=ints (l.take i)/\(leftOut l i).length=i):=⟨by rw [<-aI,bg];simp [ints],by omega⟩;clear bg;subst bl;go_wp2_with (at_builtin;refine jk rfl _ _ _ rfl t.heap.size 3 i0 _ 1 8 Tryz.underlying39 ai am an ap rfl (by omega) (.slice ta tn tc) i (ints (l.take i)) rfl Q.out (some ⟨r,0,none⟩) 0 0 [] rfl rfl (fun e=>by cases e) (fun ad e j v hj=>by simp at hj) (fun v G=>by cases G) (by omega) (by omega) aP ?_;intro tb tm td H aO F)
        go_meet
        exact⟨by rw [I.out.1,I.out.2];simpa using aO,iZ ax.out F (fun q e=>iA Q.out q e)⟩
       ·have bI:Hid (IntsAt w6.heap.size w6 (.slice (some ⟨r,i+1,none⟩) (l.length - (i+1)) (k - (i+1))) (l.drop (i+1))):=uP a1.out aL;have K:Hid (∀ ad,some (⟨r,i+1,none⟩:Addr)=some ad->∀ j v,(ints (l.drop (i+1)))[j]?=some v->w6.cell? (ad.add j)=some v):=oL bI.out;have bl:¬k=i+1:=by omega
        go_wp2_with (at_builtin;refine jk rfl _ _ _ rfl t.heap.size 3 i0 _ 1 8 Tryz.underlying39 ai am an ap rfl (by omega) (.slice ta tn tc) i (ints (l.take i)) rfl Q.out (some ⟨r,i+1,none⟩) (l.length - (i+1)) (k - (i+1)) (ints (l.drop (i+1))) rfl bn (fun e=>by cases e) K.out (lz _) bd (by omega) aP ?_;intro tb tm td H aO F)
        go_meet
        exact⟨by rw [<-aI,<-bi];exact aO,iZ ax.out F (fun q e=>iA Q.out q e)⟩
      case rest=>
      obtain⟨X,F⟩:=hcut.out;clear hcut Q ax a1 aI bi bd bn aP;obtain⟨H,bw⟩:∃ H,H=wc:=⟨_,rfl⟩;rw [<-bw]at X F ⊢;clear bw;obtain⟨t1,t2,t3,ht⟩:=iw X;subst ht;have bM:=ij X;have bJ:=ij F;have aw:Hid (A.grownBy H none):=il Z.out F;have bK:Hid (w.grownBy H none):=il P.out aw.out;have c7:=ip aw.out _ _ bH.out;have R:=ij (ms H ao ae p (.slice t1 t2 t3) (leftOut l i) HV.out (HP.out.pres (ip bK.out)) (iV X) (by have:=aA.out;omega));clear X F;go_wp2_with fail
      refine(kI R).mono ?_;clear R c7;rintro e M ⟨b8,ab8,rb8,st8,rfl,aG⟩;obtain⟨_,k1,k2,k3,_,_,_⟩:=aG.vcells;have aW:=ij aG.frame;have D:=ij (ww (runS p (leftOut l i)) o);have a2:Hid (∃ y,y=likeV (runS p (leftOut l i)) o):=⟨_,rfl⟩;clear aG;generalize hq:runS p (leftOut l i)=q at*;obtain⟨y,be⟩:=a2.out;rw [<-be]at S D;clear a2 be hq;go_upto_region 20 with fail
      obtain⟨B,al⟩:∃ B,B=M.alloc (.cells #[.int .i64 q.kind,.int .i64 q.thread,.int .i64 q.at_] 26):=⟨_,rfl⟩;have aX:Hid (M.grownBy B none):=by unfold Hid;rw [al];exact iq (ir _ _)
      have zb:B.heap[M.heap.size]?=some (.cells #[.int .i64 q.kind,.int .i64 q.thread,.int .i64 q.at_] 26 (0,0)):=by rw [al];exact heap_alloc_new M _
      rw [<-al];clear al k1 k2 k3;have aT:Hid (A.grownBy B none):=il aw.out (il aW.out aX.out);obtain⟨m1,m2,m3⟩:=bO.out B aT.out;have n0:B.cell? ⟨M.heap.size,0,none⟩=some (.int .i64 q.kind):=by simp [World.cell?,zb]
      have n1:B.cell? ⟨M.heap.size,1,none⟩=some (.int .i64 q.thread):=by simp [World.cell?,zb]
      have n2:B.cell? ⟨M.heap.size,2,none⟩=some (.int .i64 q.at_):=by simp [World.cell?,zb]
      clear zb;generalize q.kind=qk at*;generalize q.thread=qt at*;generalize q.at_=qa at*;generalize o.kind=ok at*;generalize o.thread=ot at*;generalize o.at_=oa at*;go_cut [96] (fun x w'=>x= .bool y/\Hid (B.grownBy w' none))
      case first=>
       by_cases U:qk=ok
       ·subst U;by_cases e2:qt=ot
        ·subst e2;by_cases e3:qa=oa
         ·subst e3;have m:Hid (y=true):=by unfold Hid;rw [D.out];simp
          go_quiet (fail)
          go_wp2_with fail
          go_meet
          exact⟨by rw [m.out],j0 _⟩
         ·have bS:(qa==oa)=false:=by simpa using e3
          by_cases z:qk=2
          ·subst z;have m:Hid (y=true):=by unfold Hid;rw [D.out];simp
           clear e3;go_quiet (fail)
           go_wp2_with fail
           go_meet
           exact⟨by rw [m.out],j0 _⟩
          ·have V:(qk==2)=false:=by simpa using z
           have m:Hid (y=false):=by unfold Hid;rw [D.out];simp [bS,V]
           clear e3 z;go_quiet (fail)
           go_wp2_with fail
           go_meet
           exact⟨by rw [m.out],j0 _⟩
        ·have bR:(qt==ot)=false:=by simpa using e2
         by_cases z:qk=2
         ·subst z;have m:Hid (y=true):=by unfold Hid;rw [D.out];simp
          clear e2;go_quiet (fail)
          go_wp2_with fail
          go_meet
          exact⟨by rw [m.out],j0 _⟩
         ·have V:(qk==2)=false:=by simpa using z
          have m:Hid (y=false):=by unfold Hid;rw [D.out];simp [bR,V]
          clear e2 z;go_quiet (fail)
          go_wp2_with fail
          go_meet
          exact⟨by rw [m.out],j0 _⟩
       ·have a9:(qk==ok)=false:=by simpa using U
        by_cases z:qk=2
        ·subst z;have bT:(ok==2)=false:=by simpa using fun h:ok=2=>U h.symm
         have m:Hid (y=false):=by unfold Hid;rw [D.out];simp [a9,bT]
         clear U;go_quiet (fail)
         go_wp2_with fail
         go_meet
         exact⟨by rw [m.out],j0 _⟩
        ·have V:(qk==2)=false:=by simpa using z
         have m:Hid (y=false):=by unfold Hid;rw [D.out];simp [a9,V]
         clear U z;go_quiet (fail)
         go_wp2_with fail
         go_meet
         exact⟨by rw [m.out],j0 _⟩
      case rest=>
      obtain⟨rfl,ay⟩:=hcut;obtain⟨O,bu⟩:∃ O,O=wc:=⟨_,rfl⟩;rw [<-bu]at ay ⊢;clear bu m1 m2 m3 n0 n1 n2 D;have aS:Hid (A.grownBy O none):=il aT.out ay.out;have aV:Hid (H.grownBy O none):=il aW.out (il aX.out ay.out);have huf':(u:Int)+1<=fuel:=by omega
      cases y with
      | true=>
       have aE:Hid (shr p o (fuel.toNat - (u+1)) (leftOut l i) 0 (u+1)=shr p o fuel.toNat (s.take f) 0 0):=by unfold Hid;rw [S.out];rfl
       have aB:Hid (O.ownsRow w.heap.size 3 1 (.slice t1 t2 t3) (leftOut l i).length (ints (leftOut l i))):=iK (iC bM.out aV.out (fun _ e=>by cases e)) b6;clear S;go_wp2_with fail
       go_roundw
       case rel=>exact⟨leftOut l i,0,u+1,by go_num,rfl,by have:=aA.out;omega,Nat.zero_le _,by omega,aB,aS,aE⟩
       case measure=>simp [intOf];omega
      | false=>
       have aE:Hid (shr p o (fuel.toNat - (u+1)) l (i+1) (u+1)=shr p o fuel.toNat (s.take f) 0 0):=by unfold Hid;rw [S.out];rfl
       have aB:Hid (O.ownsRow w.heap.size 3 1 (.slice (some ⟨r,0,none⟩) l.length k) l.length (ints l)):=iC (iC E.out bJ.out (fun _ e=>by cases e)) aV.out (fun _ e=>by cases e);clear S;go_wp2_with fail
       go_roundw
       case rel=>exact⟨l,i+1,u+1,by go_num,by go_num,b1,by omega,by omega,aB,aS,aE⟩
       case measure=>simp [intOf];omega
     ·have I:Hid (shortS p s fuel.toNat=(l,u)):=by
       unfold Hid;rw [a5.out,<-HS.out];cases hd:fuel.toNat - u with
       | zero=>rfl
       | succ d=>rw [shr,if_neg (by omega)]
      have aY:Hid (w.grownBy t none):=il P.out Z.out;obtain⟨l1,l2,l3,b2⟩:=iw E.out;subst b2;have b0:=iB E.out;subst b0;by_cases hA:(u:Int)<fuel
      ·have r7:(l.length:Int)<=(i:Int):=by omega
       go_wp2_with fail
       exact bodyPost_ret (v:= .tuple #[.slice l1 l.length l3,.int .i64 (u:Int),.int .i64 0]) (by simp [results,Tryz.results33,go_sem]) rfl ⟨aY.out,Or.inl ⟨C.out,bh,_,by rw [I.out],by rw [I.out];exact E.out⟩⟩
      ·have r7:fuel<=(u:Int):=by omega
       go_wp2_with fail
       exact bodyPost_ret (v:= .tuple #[.slice l1 l.length l3,.int .i64 (u:Int),.int .i64 0]) (by simp [results,Tryz.results33,go_sem]) rfl ⟨aY.out,Or.inl ⟨C.out,bh,_,by rw [I.out],by rw [I.out];exact E.out⟩⟩
  ·have bV:(500:Int)<s.length:=by omega
   have C:Hid (checkRunN p s=2):=by unfold Hid checkRunN;simp [HV.out,h5]
   go_wp2_with fail
   exact bodyPost_ret (v:= .tuple #[.slice none 0 0,.int .i64 0,.int .i64 2]) (by simp [results,Tryz.results33,go_sem]) rfl ⟨J.out,Or.inr (Or.inr ⟨by rw [C.out];decide,by rw [C.out]⟩)⟩
 ·have T:checkN p=1:=by simp [checkN,G]
  have C:Hid (checkRunN p s=1):=by unfold Hid checkRunN;simp [G]
  rw [T];clear T G;go_wp2_with fail
  exact bodyPost_ret (v:= .tuple #[.slice none 0 0,.int .i64 0,.int .i64 1]) (by simp [results,Tryz.results33,go_sem]) rfl ⟨J.out,Or.inr (Or.inr ⟨by rw [C.out];decide,by rw [C.out]⟩)⟩
end
end Go.Proofs.YtklenjmfalljgabGreatDoor
