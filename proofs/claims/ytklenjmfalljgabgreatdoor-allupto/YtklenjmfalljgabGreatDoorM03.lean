/- The texts Rfa Rfb Rfc Rfd Rfe Rff. -/
import Derived.Test.YtklenjmfalljgabGreatDoorM02
import Derived.Deep.DeepCutAuto
import Derived.Deep.Cut
import Derived.Deep.AppendLies
namespace Go.Proofs.YtklenjmfalljgabGreatDoor
set_option maxRecDepth 100000
set_option maxHeartbeats 8000000
section
open Go.RowKit
attribute [local go_sem] Go.World.cell?_alloc_some
def j5(op:Int):Int × Int × Int:=
 if op=1 then (4,0,1) else if 2<=op/\op<=7 then (4,4,0) else if op=8 then (4,0,2) else if op=9\/op=10 then (3,0,0) else if op=11 then (4,0,0) else (-1,0,0)
def ku(v n:Int):Bool:=v==0 || (decide (0<v) && decide (v<n))
def ke(c v n:Int):Bool:=c==1 || v==0 || (c==2 && decide (0<v) && decide (v<=n))
def nJ(i:Ins)(n:Int):Bool:=!decide ((j5 i.op).1<0) && ku i.a (j5 i.op).1 && ku i.b (j5 i.op).2.1 && ke (j5 i.op).2.2 i.n n
theorem wy(v:Int):ku v 4=jE v 4:=by
 unfold ku jE;rw [Bool.eq_iff_iff];simp;omega
theorem uZ(v:Int):ku v 3=jE v 3:=by
 unfold ku jE;rw [Bool.eq_iff_iff];simp;omega
theorem wG(v:Int):ku v 0=(v==0):=by
 unfold ku;rw [Bool.eq_iff_iff];simp;omega
theorem yA(v n:Int)(hn:0<=n):ke 2 v n=jE v (n+1):=by
 unfold ke jE;rw [Bool.eq_iff_iff];simp;omega
theorem DR(i:Ins)(n:Int)(l:0<=n):nJ i n=lH i n:=by
 obtain⟨c,a,b,m⟩:=i;by_cases h:1<=c/\c<=11
 ·have hc:c=1\/c=2\/c=3\/c=4\/c=5\/c=6\/c=7\/c=8\/c=9\/c=10\/c=11:=by omega
  have d:ke 0 m n=(m==0):=by unfold ke;simp
  have z1:ke 1 m n=true:=by unfold ke;simp
  have e:=yA m n l;rcases hc with rfl | rfl | rfl | rfl | rfl | rfl | rfl | rfl | rfl | rfl | rfl<;>simp [nJ,lH,j5,shp,mn,wy,uZ,wG,d,z1,e,Bool.and_assoc]
 ·have j:j5 c=(-1,0,0):=by
   unfold j5;rw [if_neg (by omega),if_neg (by omega),if_neg (by omega),if_neg (by omega),if_neg (by omega)]
  have f:lH ⟨c,a,b,m⟩ n=false:=by
   simp only [lH];by_cases k:1<=c
   ·have:¬c<=11:=by omega
    simp [this]
   ·simp [k]
  rw [f];simp [nJ,j]
theorem xf(v n:Int)(w:World):Calls Tryz.prog 54 #[.int .i64 v,.int .i64 n] w fun e w'=>e= .returned (.bool (ku v n))/\w'=w:=by
 by_cases a:v=0
 ·have HB:Hid (ku v n=true):=by unfold Hid ku;simp [a]
  subst a;go_enter Tryz.func54,Tryz.ntmps54
  go_wp2_with fail
  go_ret;exact⟨by rw [HB.out];rfl,rfl⟩
 ·have h0':(v==0)=false:=by simpa using a
  by_cases c:0<v
  ·by_cases b:v<n
   ·have HB:Hid (ku v n=true):=by unfold Hid ku;simp [c,b]
    go_enter Tryz.func54,Tryz.ntmps54
    go_wp2_with fail
    go_ret;exact⟨by rw [HB.out];rfl,rfl⟩
   ·have HB:Hid (ku v n=false):=by unfold Hid ku;simp [a,b]
    have d:n<=v:=by omega
    go_enter Tryz.func54,Tryz.ntmps54
    go_wp2_with fail
    go_ret;exact⟨by rw [HB.out];rfl,rfl⟩
  ·have HB:Hid (ku v n=false):=by unfold Hid ku;simp [a,c]
   have d:v<=0:=by omega
   go_enter Tryz.func54,Tryz.ntmps54
   go_wp2_with fail
   go_ret;exact⟨by rw [HB.out];rfl,rfl⟩
def qX(x:Int × Int × Int):Value:= .tuple #[.int .i64 x.1,.int .i64 x.2.1,.int .i64 x.2.2]
theorem D2(a:Int)(w:World):Calls Tryz.prog 53 #[.int .i64 a] w fun e w'=>e= .returned (qX (j5 a))/\w'=w:=by
 by_cases h:1<=a/\a<=11
 ·have hc:a=1\/a=2\/a=3\/a=4\/a=5\/a=6\/a=7\/a=8\/a=9\/a=10\/a=11:=by omega
  rcases hc with rfl | rfl | rfl | rfl | rfl | rfl | rfl | rfl | rfl | rfl | rfl
  all_goals
   go_enter Tryz.func53,Tryz.ntmps53
   go_wp2_with fail
   refine bodyPost_ret (v:=qX (j5 _)) (by simp [results,Tryz.results53,go_sem,qX,j5]) rfl ⟨rfl,rfl⟩
 ·have b:j5 a=(-1,0,0):=by
   unfold j5;rw [if_neg (by omega),if_neg (by omega),if_neg (by omega),if_neg (by omega),if_neg (by omega)]
  have n1:(a==1)=false:=by simp;omega
  have n2:(a==2)=false:=by simp;omega
  have n3:(a==3)=false:=by simp;omega
  have n4:(a==4)=false:=by simp;omega
  have n5:(a==5)=false:=by simp;omega
  have n6:(a==6)=false:=by simp;omega
  have n7:(a==7)=false:=by simp;omega
  have n8:(a==8)=false:=by simp;omega
  have n9:(a==9)=false:=by simp;omega
  have n10:(a==10)=false:=by simp;omega
  have n11:(a==11)=false:=by simp;omega
  rw [b];clear b h;go_enter Tryz.func53,Tryz.ntmps53
  go_wp2_with fail
  refine bodyPost_ret (v:=qX (-1,0,0)) (by simp [results,Tryz.results53,go_sem,qX]) rfl ⟨rfl,rfl⟩
def yx(p:List (List Ins)):Bool:=decide (1<=p.length) && (decide (p.length<=4) && p.all fun c=>decide (c.length<=16) && c.all fun i=>nJ i c.length)
theorem zp(p:List (List Ins)):yx p=iV p:=by
 unfold yx iV kU;congr 2
 congr 1
 funext c
 congr 2
 funext i
 exact DR i _ (by omega)
theorem t8{α:Type}(l:List α)(f:α->Bool)(k:Nat)(a:k<l.length)(h:f l[k]=false):l.all f=false:=by
 rw [List.all_eq_false];exact⟨_,List.getElem_mem a,by simp [h]⟩
theorem xA{α:Type}(l:List α)(f:α->Bool)(k:Nat)(b:k<l.length)(h:(l.take k).all f=true)(a:f l[k]=true):(l.take (k+1)).all f=true:=by
 rw [List.take_succ_eq_append_getElem b,List.all_append,h];simp [a]
theorem mD(p:List (List Ins))(pv:Value)(w:World)(T:ProgAt w pv p)(hp:p.length<=5864062014634)(aw:∀ c∈p,c.length<=4398046510976):
  Calls Tryz.prog 24 #[pv] w fun e w'=>e= .returned (.int .i64 (jh p))/\w.grownBy w' none:=by
 have HP:=il T;have aJ:=il aw;obtain⟨E,v,rfl⟩:=T.form;clear T aw;have q0:(p.length:Int)<=5864062014634:=by omega
 have L:Hid (yx p=false->jh p=1):=fun e=>by rw [zp]at e;unfold jh;simp [e]
 have aP:Hid (yx p=true->jh p=0):=fun e=>by rw [zp]at e;unfold jh;simp [e]
 by_cases ag:1<=p.length/\p.length<=4
 ·have g1:(1:Int)<=p.length:=by omega
  have g4:(p.length:Int)<=4:=by omega
  have V:Hid (∀ r,(p.all fun c=>decide (c.length<=16) && c.all fun i=>nJ i c.length)=r->yx p=r):=fun r e=>by unfold yx;rw [e];simp [ag.1,ag.2]
  go_enter Tryz.func24,Tryz.ntmps24
  go_wp2_with fail
  have H:w.grownBy (w.alloc (.cells #[.slice E p.length v] 37)) none:=ir (iu _ _);have A:=heap_alloc_new w (.cells #[.slice E p.length v] 37);generalize w.alloc (.cells #[.slice E p.length v] 37)=w1 at H A ⊢;have X:=il A;have x:=il H;have hbx:w.heap.size<w1.heap.size:=(Array.getElem?_eq_some_iff.1 A).1;clear H A;go_loopw [3] (fun i w'=>∃ t:Nat,t<=p.length/\i= .int .i64 t/\Hid (w1.grownBy w' none)/\Hid ((p.take t).all (fun c=>decide (c.length<=16) && c.all fun i=>nJ i c.length)=true)) (fun i _=>p.length - (intOf i).toNat)
  case atStart=>exact⟨0,Nat.zero_le _,rfl,il (iu _ _),by simp [Hid]⟩
  case round=>
   obtain⟨t,ht,rfl,h,HA⟩:=hrel;obtain⟨F,am⟩:∃ F,F=wr:=⟨_,rfl⟩;rw [<-am]at h ⊢;clear am;have c0:F.cell? ⟨w.heap.size,0,none⟩=some (.slice E p.length v):=iq h.out _ _ (by have:=X.out;simp [World.cell?,this]);by_cases D:t<p.length
   ·obtain⟨ao',cap',y,ab⟩:=HP.out;obtain⟨W,K,n,rv,M,r2⟩:=ab t D;simp only [Value.agg.injEq,Array.mk.injEq,List.cons.injEq,Value.slice.injEq,and_true,true_and]at y;obtain⟨y,aC⟩:=y;subst y aC n;have hpl:p[t].length<=4398046510976:=aJ.out _ (List.getElem_mem D);obtain⟨ca,cc,rfl,aj⟩:=r2;have Q:F.cell? ⟨W,K+t,none⟩=some (.slice ca p[t].length cc):=iq (ip x.out h.out) _ _ M;have U:Hid (∀ r,(decide (p[t].length<=16) && p[t].all fun i=>nJ i p[t].length)=r->(r=false->(p.all fun c=>decide (c.length<=16) && c.all fun i=>nJ i c.length)=false)/\(r=true->(p.take (t+1)).all (fun c=>decide (c.length<=16) && c.all fun i=>nJ i c.length)=true)):=fun r e=>
     ⟨fun n=>t8 p _ t D (by rw [e,n]),fun n=>xA p _ t D HA.out (by rw [e,n])⟩
    have aB:=il M;have aF:=il aj;clear ab M aj;generalize p[t]=c at*;have t0:(0:Int)<=(t:Int):=by omega
    have t1:(t:Int)<p.length:=by omega
    have t2:(c.length:Int)<=4398046510976:=by omega
    by_cases ay:c.length<=16
    ·have t3:(c.length:Int)<=16:=by omega
     go_wp2_with fail
     go_loopw [5] (fun i w'=>∃ k:Nat,k<=c.length/\i= .int .i64 k/\Hid (w1.grownBy w' none)/\Hid ((c.take k).all (fun i=>nJ i c.length)=true)) (fun i _=>c.length - (intOf i).toNat)
     case atStart=>exact⟨0,Nat.zero_le _,rfl,h,by simp [Hid]⟩
     case round=>
      clear c0 Q h;obtain⟨k,hk,rfl,h,ak⟩:=hrel;obtain⟨j,av⟩:∃ j,j=wr:=⟨_,rfl⟩;rw [<-av]at h ⊢;clear av;by_cases P:k<c.length
      ·obtain⟨ig,io,rfl,x1,x2,x3,x4⟩:=aF.out k P;have q:=ip x.out h.out;have c0:j.cell? ⟨w.heap.size,0,none⟩=some (.slice (some ⟨W,K,none⟩) p.length v):=iq h.out _ _ (by have:=X.out;simp [World.cell?,this]);have Q:j.cell? ⟨W,K+t,none⟩=some (.slice (some ⟨ig,io,none⟩) c.length cc):=iq q _ _ aB.out;have y1:=iq q _ _ x1;have Z:=iq q _ _ x2;have y3:=iq q _ _ x3;have y4:=iq q _ _ x4;have an:Hid (∀ r,nJ c[k] c.length=r->(r=false->(c.all fun i=>nJ i c.length)=false)/\(r=true->(c.take (k+1)).all (fun i=>nJ i c.length)=true)):=fun r e=>
        ⟨fun n=>t8 c _ k P (by rw [e,n]),fun n=>xA c _ k P ak.out (by rw [e,n])⟩
       clear x1 x2 x3 x4 q;generalize c[k]=ins at*;obtain⟨b,f,d,a⟩:=ins;simp only at y1 Z y3 y4;have s0:(0:Int)<=(k:Int):=by omega
       have s1:(k:Int)<c.length:=by omega
       go_wp2_with fail
       have J:j.grownBy (j.alloc (.cells #[.int .i64 b,.int .i64 f,.int .i64 d,.int .i64 a] 65)) none:=ir (iu _ _);have u:=heap_alloc_new j (.cells #[.int .i64 b,.int .i64 f,.int .i64 d,.int .i64 a] 65);generalize j.alloc (.cells #[.int .i64 b,.int .i64 f,.int .i64 d,.int .i64 a] 65)=w8 at J u ⊢;have z1:w8.cell? ⟨j.heap.size,1,none⟩=some (.int .i64 f):=by simp [World.cell?,u]
       have z2:w8.cell? ⟨j.heap.size,2,none⟩=some (.int .i64 d):=by simp [World.cell?,u]
       have z3:w8.cell? ⟨j.heap.size,3,none⟩=some (.int .i64 a):=by simp [World.cell?,u]
       have ad:=il (ip h.out J);clear J u y1 Z y3 y4 Q c0 h;refine(D2 b w8).mono ?_;rintro e w9 ⟨rfl,l⟩;have l:=l.symm;subst l;have O:Hid (∀ r,(!decide ((j5 b).1<0) && ku f (j5 b).1 && ku d (j5 b).2.1 && ke (j5 b).2.2 a c.length)=r->nJ ⟨b,f,d,a⟩ c.length=r):=fun r e=>e
       have G:(j5 b).2.2=0\/(j5 b).2.2=1\/(j5 b).2.2=2:=by
        unfold j5;repeat' split
        all_goals simp
       have B:(j5 b).1= -1\/0<=(j5 b).1:=by
        unfold j5;repeat' split
        all_goals simp
       unfold qX;generalize j5 b=sr at*;obtain⟨z,sb,C⟩:=sr;simp only at O G B ⊢;go_wp2_with fail
       refine(xf f z w8).mono ?_;rintro e w9 ⟨rfl,l⟩;have l:=l.symm;subst l;go_wp2_with fail
       refine(xf d sb w8).mono ?_;rintro e w9 ⟨rfl,l⟩;have l:=l.symm;subst l;generalize ku f z=xb at*;generalize ku d sb=yb at*;have ac:Hid (∀ r,ke C a c.length=r->nJ ⟨b,f,d,a⟩ c.length=(!decide (z<0) && xb && yb && r)):=fun r e=>O.out _ (by rw [e])
       clear O;go_upto_region 16 with fail
       go_cut [12] (fun zv w'=>zv= .bool (ke C a c.length)/\w'=w8)
       case first=>
        by_cases s:a=0
        ·have m:ke C a c.length=true:=by unfold ke;simp [s]
         have az:(a==0)=true:=by simpa using s
         rcases G with rfl | rfl | rfl
         all_goals
          go_wp2_with fail
          go_meet
          exact⟨by rw [m],rfl⟩
        ·have az:(a==0)=false:=by simpa using s
         rcases G with rfl | rfl | rfl
         ·have m:ke 0 a c.length=false:=by unfold ke;simp [s]
          go_wp2_with fail
          go_meet
          exact⟨by rw [m],rfl⟩
         ·have m:ke 1 a c.length=true:=by unfold ke;simp
          go_wp2_with fail
          go_meet
          exact⟨by rw [m],rfl⟩
         ·by_cases Y:0<a
          ·by_cases ah:a<=(c.length:Int)
           ·have m:ke 2 a c.length=true:=by unfold ke;simp [Y,ah]
            go_wp2_with fail
            go_meet
            exact⟨by rw [m],rfl⟩
           ·have m:ke 2 a c.length=false:=by unfold ke;simp [s,ah]
            have hic':(c.length:Int)<a:=by omega
            go_wp2_with fail
            go_meet
            exact⟨by rw [m],rfl⟩
          ·have m:ke 2 a c.length=false:=by unfold ke;simp [s,Y]
           have hip':a<=0:=by omega
           go_wp2_with fail
           go_meet
           exact⟨by rw [m],rfl⟩
       case rest=>
       obtain⟨rfl,S⟩:=hcut;have N:=S.symm;subst N;generalize ke C a c.length=zb at*;have I:=il (ac.out zb rfl);clear ac z1 z2 z3 G;go_upto_region 17 with fail
       go_cut [101] (fun bv w'=>bv= .bool (!nJ ⟨b,f,d,a⟩ c.length)/\w'=w8)
       case first=>
        rcases B with rfl | B
        ·have R:nJ ⟨b,f,d,a⟩ c.length=false:=by rw [I.out];simp
         go_wp2_with fail
         go_meet
         exact⟨by rw [R];rfl,rfl⟩
        ·have aQ:¬z<0:=by omega
         have R:nJ ⟨b,f,d,a⟩ c.length=(xb && yb && zb):=by rw [I.out];simp [aQ]
         cases xb<;>cases yb<;>cases zb
         all_goals
          go_wp2_with fail
          go_meet
          exact⟨by rw [R];rfl,rfl⟩
       case rest=>
       obtain⟨rfl,S⟩:=hcut;have N:=S.symm;subst N;clear I B;have af:=il (an.out (nJ ⟨b,f,d,a⟩ c.length) rfl);clear an;generalize nJ ⟨b,f,d,a⟩ c.length=rb at*;cases rb
       ·have o:Hid (jh p=1):=by
         refine L.out (V.out _ ?_);refine(U.out _ rfl).1 ?_;rw [af.out.1 rfl];simp
        go_wp2_with fail
        go_ret;exact⟨by rw [o.out];rfl,ip x.out ad.out⟩
       ·have aO:=il (af.out.2 rfl);go_wp2_with fail
        go_roundw
        case rel=>exact⟨k+1,by omega,by go_num,ad,aO⟩
        case measure=>simp [intOf];omega
      ·have s1:(c.length:Int)<=(k:Int):=by omega
       have aT:Hid ((p.take (t+1)).all (fun c=>decide (c.length<=16) && c.all fun i=>nJ i c.length)=true):=by
        refine(U.out _ rfl).2 ?_;have:=ak.out;rw [List.take_of_length_le (by omega)]at this;rw [this];simp [ay]
       go_wp2_with fail
       go_roundw
       case rel=>exact⟨t+1,by omega,by go_num,h,aT⟩
       case measure=>simp [intOf];omega
    ·have t3:(16:Int)<c.length:=by omega
     have o:Hid (jh p=1):=by
      refine L.out (V.out _ ?_);refine(U.out _ rfl).1 ?_;simp [ay]
     go_wp2_with fail
     go_ret;exact⟨by rw [o.out];rfl,ip x.out h.out⟩
   ·have t1:(p.length:Int)<=(t:Int):=by omega
    have o:Hid (jh p=0):=by
     refine aP.out (V.out _ ?_);have:=HA.out;rw [List.take_of_length_le (by omega)]at this;exact this
    go_wp2_with fail
    go_ret;exact⟨by rw [o.out];rfl,ip x.out h.out⟩
 ·have o:Hid (jh p=1):=L.out (by
   unfold yx;by_cases h1:1<=p.length
   ·have h4:¬p.length<=4:=by omega
    simp [h4]
   ·simp [h1])
  by_cases h1:p.length<1
  ·have g1:(p.length:Int)<1:=by omega
   go_enter Tryz.func24,Tryz.ntmps24
   go_wp2_with fail
   go_ret;exact⟨by rw [o.out];rfl,ir (iu _ _)⟩
  ·have g1:(1:Int)<=p.length:=by omega
   have g4:(4:Int)<p.length:=by omega
   go_enter Tryz.func24,Tryz.ntmps24
   go_wp2_with fail
   go_ret;exact⟨by rw [o.out];rfl,ir (iu _ _)⟩
theorem vi(b a n d f g o t len c:Nat)(h:Option Addr)(x:Int)(w:World)(ht:t<n)(ht4:t<4)(hlen:len<=16)
  (hp:w.cell? ⟨b,0,none⟩=some (.slice (some ⟨g,o,none⟩) n d)) (ha:w.cell? ⟨b,1,none⟩=some (.slice (some ⟨a,0,none⟩) n f))
  (hr:w.cell? ⟨g,o+t,none⟩=some (.slice h len c)) (hx:w.cell? ⟨a,t,none⟩=some (.int .i64 x)):
  Calls Tryz.prog 38 #[.pointer (some ⟨b,0,none⟩),.int .i64 t] w fun e w'=>e= .returned (.bool (decide ((len:Int)<=x)))/\ju w' w:=by
 have h1:(0:Int)<=(t:Int):=by omega
 have h2:(t:Int)<4:=by omega
 have h3:(t:Int)<n:=by omega
 have h4:(len:Int)<=16:=by omega
 go_enter Tryz.func38,Tryz.ntmps38
 go_wp2
 go_region
 all_goals (go_wp2;go_ret;exact⟨rfl,rfl,rfl,rfl,rfl⟩)
theorem vV(b a n d f g o t len c:Nat)(h:Option Addr)(x:Int)(w:World)(s:t<n)(j:t<4)(i:len<=16)(l:(len:Int)<=x)
  (q:w.cell? ⟨b,0,none⟩=some (.slice (some ⟨g,o,none⟩) n d)) (m:w.cell? ⟨b,1,none⟩=some (.slice (some ⟨a,0,none⟩) n f))
  (k:w.cell? ⟨g,o+t,none⟩=some (.slice h len c)) (r:w.cell? ⟨a,t,none⟩=some (.int .i64 x)):
  Calls Tryz.prog 36 #[.pointer (some ⟨b,0,none⟩),.int .i64 t] w fun e w'=>e= .returned (.bool false)/\w.grownBy w' none:=by
 go_enter Tryz.func36,Tryz.ntmps36
 go_wp2_with fail
 refine(vi b a n d f g o t len c h x w s j i q m k r).mono ?_;rintro e w' ⟨rfl,p⟩;simp only [l,decide_true];go_wp2
 go_ret;exact⟨rfl,ji (iu _ _) p⟩
theorem Df(b z n B J g o t len c h j k:Nat)(i:Ins)(y:Int)(w:World)(P:t<n)(N:t<4)(M:len<=16)(hk:k<len)
  (ha0:0<=i.a) (x:i.op=9->i.a<3)
  (s:w.cell? ⟨b,0,none⟩=some (.slice (some ⟨g,o,none⟩) n B)) (v:w.cell? ⟨b,1,none⟩=some (.slice (some ⟨z,0,none⟩) n J))
  (p:w.cell? ⟨g,o+t,none⟩=some (.slice (some ⟨h,j,none⟩) len c)) (q:w.cell? ⟨z,t,none⟩=some (.int .i64 k))
  (u:w.cell? ⟨h,j+k*4,none⟩=some (.int .i64 i.op)) (A:w.cell? ⟨h,j+k*4+1,none⟩=some (.int .i64 i.a))
  (E:w.cell? ⟨h,j+k*4+2,none⟩=some (.int .i64 i.b)) (D:w.cell? ⟨h,j+k*4+3,none⟩=some (.int .i64 i.n))
  (_hb:b<w.heap.size) (m:i.op=9->w.cell? ⟨b,7+i.a.toNat,none⟩=some (.int .i64 y)):
  Calls Tryz.prog 36 #[.pointer (some ⟨b,0,none⟩),.int .i64 t] w fun e w'=>e= .returned (.bool (!(i.op==9) || decide (y<0)))/\w.grownBy w' none:=by
 obtain⟨op,a,ib,im⟩:=i;simp only at*;have h1:(0:Int)<=(t:Int):=by omega
 have h2:(t:Int)<4:=by omega
 have h3:(t:Int)<n:=by omega
 have h4:(0:Int)<=(k:Int):=by omega
 have h5:(k:Int)<len:=by omega
 have L:decide ((len:Int)<=(k:Int))=false:=by simp;omega
 go_enter Tryz.func36,Tryz.ntmps36
 go_wp2_with fail
 refine(vi b z n B J g o t len c _ k w P N M s v p q).mono ?_;rintro e f ⟨rfl,I⟩;have d:w.grownBy f none:=ji (iu _ _) I;have K:=il d;simp only [L];replace s:=iq d _ _ s;replace v:=iq d _ _ v;replace p:=iq d _ _ p;replace q:=iq d _ _ q;replace u:=iq d _ _ u;replace A:=iq d _ _ A;replace E:=iq d _ _ E;replace D:=iq d _ _ D;replace m:Hid (op=9->f.cell? ⟨b,7+a.toNat,none⟩=some (.int .i64 y)):=fun e=>iq d _ _ (m e)
 clear d I;have G:=World.new_ne f _ s;have H:=World.new_ne f _ p;have F:=World.new_ne f _ q;have C:=World.new_ne f _ u;simp only at G H F C;have m1:=Ne.symm G;have m2:=Ne.symm H;have m3:=Ne.symm F;have m4:=Ne.symm C;by_cases r:op=9
 ·subst r;have m:=m.out rfl;have ha3:=x rfl;obtain⟨l,rfl⟩:∃ l:Nat,a=l:=⟨a.toNat,by omega⟩;simp only [Int.toNat_natCast]at m;have h6:(l:Int)<3:=by omega
  clear x;go_wp2
  go_region
  go_wp2
  go_quiet (fail)
  go_wp2
  go_ret;exact⟨by simp,iY _ (iz (ir K.out))⟩
 ·have h9':(op !=9)=true:=by simpa using r
  have O:(op==9)=false:=by simpa using r
  clear x r;go_wp2
  go_region
  go_wp2
  go_quiet (fail)
  go_wp2
  go_ret;exact⟨by simp [O],iY _ (iz (ir K.out))⟩
def jo(op a b:Int):Int × Bool:=
 if op=4 then (wrap64 (a+b),true) else if op=5 then (wrap64 (a - b),true) else if op=6 then (wrap64 (a*b),true) else if b=0 then (a,false) else (wrap64 (a.tdiv b),true)
theorem qK(c a b:Int)(w:World)(h:c=4\/c=5\/c=6\/c=7):
  Calls Tryz.prog 62 #[.int .i64 c,.int .i64 a,.int .i64 b] w fun e w'=>e= .returned (.tuple #[.int .i64 (jo c a b).1,.bool (jo c a b).2])/\w'=w:=by
 rcases h with rfl | rfl | rfl | rfl
 ·go_enter Tryz.func62,Tryz.ntmps62
  go_wp2_with fail
  refine bodyPost_ret (v:= .tuple #[.int .i64 (wrap64 (a+b)),.bool true]) (by simp [results,Tryz.results62,go_sem]) rfl ⟨rfl,rfl⟩
 ·go_enter Tryz.func62,Tryz.ntmps62
  go_wp2_with fail
  refine bodyPost_ret (v:= .tuple #[.int .i64 (wrap64 (a - b)),.bool true]) (by simp [results,Tryz.results62,go_sem]) rfl ⟨rfl,rfl⟩
 ·go_enter Tryz.func62,Tryz.ntmps62
  go_wp2_with fail
  refine bodyPost_ret (v:= .tuple #[.int .i64 (wrap64 (a*b)),.bool true]) (by simp [results,Tryz.results62,go_sem]) rfl ⟨rfl,rfl⟩
 ·have f:Hid (jo 7 a b=if b=0 then (a,false) else (wrap64 (a.tdiv b),true)):=by unfold Hid jo;simp
  by_cases d:b=0
  ·subst d;go_enter Tryz.func62,Tryz.ntmps62
   go_wp2_with fail
   refine bodyPost_ret (v:= .tuple #[.int .i64 a,.bool false]) (by simp [results,Tryz.results62,go_sem]) rfl ⟨by rw [f.out];rfl,rfl⟩
  ·have h0':(b==0)=false:=by simpa using d
   by_cases i:b= -1
   ·subst i;have j:Hid (a.tdiv (-1)= -a):=by unfold Hid;simp
    go_enter Tryz.func62,Tryz.ntmps62
    go_wp2_with fail
    refine bodyPost_ret (v:= .tuple #[.int .i64 (wrap64 (-a)),.bool true]) (by simp [results,Tryz.results62,go_sem]) rfl ⟨by rw [f.out,if_neg d,j.out],rfl⟩
   ·have hm':(b== -1)=false:=by simpa using i
    go_enter Tryz.func62,Tryz.ntmps62
    go_wp2_with fail
    refine bodyPost_ret (v:= .tuple #[.int .i64 (wrap64 (a.tdiv b)),.bool true]) (by simp [results,Tryz.results62,go_sem]) rfl ⟨by rw [f.out,if_neg d],rfl⟩
def tx(s:St)(l:Nat):Int:=if s.held l=true then s.own l else -1
def atF(n:Nat)(s:St):List Value:=(List.range n).map fun t=> .int .i64 (s.next t)
def xw(ps:Value)(ab rb n:Nat)(st:Value)(s:St)(k th a:Int):Array Value:=
 #[ps,.slice (some ⟨ab,0,none⟩) n n,.slice (some ⟨rb,0,none⟩) n n,.int .i64 (s.vars 0),.int .i64 (s.vars 1),.int .i64 (s.vars 2),.int .i64 (s.vars 3),
  .int .i64 (tx s 0),.int .i64 (tx s 1),.int .i64 (tx s 2),st,.int .i64 k,.int .i64 th,.int .i64 a]
structure RunAt(w0 w:World)(b ab rb n:Nat)(ps st:Value)(s:St)(acc:List (Int × Int))(k th a:Int):Prop where
 main:w.heap[b]?=some (.cells (xw ps ab rb n st s k th a) 51 (0,0))
 ats:∃ ty,w.heap[ab]?=some (.cells (atF n s).toArray ty (0,0))
 regs:w.heap[rb]?=some (.cells (jq n s).toArray 28 (0,0))
 row:w.ownsRow (b+1) 76 2 st acc.length (iS acc)
 frame:w0.grownBy w none
 ab0:w0.heap.size<=ab
 rb0:w0.heap.size<=rb
 abb:ab<b
 rbb:rb<b
 ne:ab≠rb
theorem C1{n t:Nat}(hn:n<=4)(h:t<n):(n=1/\t=0)\/(n=2/\t=0)\/(n=2/\t=1)\/(n=3/\t=0)\/(n=3/\t=1)\/(n=3/\t=2)\/(n=4/\t=0)\/(n=4/\t=1)\/(n=4/\t=2)\/(n=4/\t=3):=by omega
theorem E1(s:St){n t:Nat}(a:n<=4)(h:t<n)(v:Int):(atF n s).toArray.setIfInBounds t (.int .i64 v)=(atF n (s.setNext t v)).toArray:=by
 rcases C1 a h with ⟨rfl,rfl⟩ | ⟨rfl,rfl⟩ | ⟨rfl,rfl⟩ | ⟨rfl,rfl⟩ | ⟨rfl,rfl⟩ | ⟨rfl,rfl⟩ | ⟨rfl,rfl⟩ | ⟨rfl,rfl⟩ | ⟨rfl,rfl⟩ | ⟨rfl,rfl⟩<;>rfl
theorem A9(s:St){n t r:Nat}(b:n<=4)(h:t<n)(a:r<4)(v:Int):(jq n s).toArray.setIfInBounds (t*4+r) (.int .i64 v)=(jq n (s.setReg t r v)).toArray:=by
 rcases C1 b h with ⟨rfl,rfl⟩ | ⟨rfl,rfl⟩ | ⟨rfl,rfl⟩ | ⟨rfl,rfl⟩ | ⟨rfl,rfl⟩ | ⟨rfl,rfl⟩ | ⟨rfl,rfl⟩ | ⟨rfl,rfl⟩ | ⟨rfl,rfl⟩ | ⟨rfl,rfl⟩<;>rcases lt4 a with rfl | rfl | rfl | rfl<;>rfl
theorem RunAt.cell{l w:World}{b i e n:Nat}{f c:Value}{s:St}{m:List (Int × Int)}{k d a:Int}(h:RunAt l w b i e n f c s m k d a)(j:Nat):
  w.cell? ⟨b,j,none⟩=(xw f i e n c s k d a)[j]?/\w.frozen? ⟨b,j,none⟩=false:=by
 simp [World.cell?,World.frozen?,h.main]
theorem RunAt.at_{l w:World}{b c i n:Nat}{j e:Value}{s:St}{d:List (Int × Int)}{k f a:Int}(h:RunAt l w b c i n j e s d k f a){t:Nat}(m:t<n):
  w.cell? ⟨c,t,none⟩=some (.int .i64 (s.next t))/\w.frozen? ⟨c,t,none⟩=false:=by
 obtain⟨ty,h⟩:=h.ats;constructor
 ·simp [World.cell?,h,atF,m]
 ·simp [World.frozen?,h]
theorem RunAt.reg{m w:World}{b j c n:Nat}{i d:Value}{s:St}{o:List (Int × Int)}{k f a:Int}(h:RunAt m w b j c n i d s o k f a)(l:n<=4){t r:Nat}(p:t<n)(e:r<4):
  w.cell? ⟨c,t*4+r,none⟩=some (.int .i64 (s.regs t r))/\w.frozen? ⟨c,t*4+r,none⟩=false:=by
 have h:=h.regs;constructor
 ·simp only [World.cell?,h];rcases C1 l p with ⟨rfl,rfl⟩ | ⟨rfl,rfl⟩ | ⟨rfl,rfl⟩ | ⟨rfl,rfl⟩ | ⟨rfl,rfl⟩ | ⟨rfl,rfl⟩ | ⟨rfl,rfl⟩ | ⟨rfl,rfl⟩ | ⟨rfl,rfl⟩ | ⟨rfl,rfl⟩<;>rcases lt4 e with rfl | rfl | rfl | rfl<;>rfl
 ·simp [World.frozen?,h]
theorem RunAt.grown{p w w':World}{b q l n:Nat}{m f:Value}{s:St}{d:List (Int × Int)}{k j a:Int}(h:RunAt p w b q l n m f s d k j a)(c:w.grownBy w' none):RunAt p w' b q l n m f s d k j a:=by
 obtain⟨u,t⟩:=h.ats;have r:=h.regs;have B:∀ i o,w.heap[i]?=some o->w'.heap[i]?=some o:=fun i o e=>by rw [c.block i (Array.getElem?_eq_some_iff.1 e).1 (by simp)];exact e
 exact⟨B _ _ h.main,⟨u,B _ _ t⟩,B _ _ r,iE h.row c (fun _ e=>by cases e),ip h.frame c,h.ab0,h.rb0,h.abb,h.rbb,h.ne⟩
theorem RunAt.setNext{m w:World}{b c d n:Nat}{l i:Value}{s:St}{f:List (Int × Int)}{k j a:Int}(h:RunAt m w b c d n l i s f k j a)(p:n<=4){t:Nat}(u:t<n)(v:Int):
  RunAt m (w.setCell ⟨c,t,none⟩ (.int .i64 v)) b c d n l i (s.setNext t v) f k j a:=by
 obtain⟨r,q⟩:=h.ats;have o:=h.regs;have:=h.abb;refine⟨?_,⟨r,?_⟩,?_,ownsRow_setCell_below h.row (by simp;omega) _,iG h.frame h.ab0,h.ab0,h.rb0,h.abb,h.rbb,h.ne⟩
 ·rw [Below.heap_setCell w _ _ b (by simp;omega)];exact h.main
 ·rw [heap_setCell_same w c t _ _ _ q,E1 s p u]
 ·rw [Below.heap_setCell w _ _ d (by simp;exact fun e=>h.ne e.symm)];exact o
theorem RunAt.setReg{j w:World}{b d c n:Nat}{i e:Value}{s:St}{l:List (Int × Int)}{k f a:Int}(h:RunAt j w b d c n i e s l k f a)(p:n<=4){t r:Nat}(x:t<n)(o:r<4)(v:Int):
  RunAt j (w.setCell ⟨c,t*4+r,none⟩ (.int .i64 v)) b d c n i e (s.setReg t r v) l k f a:=by
 obtain⟨u,q⟩:=h.ats;have m:=h.regs;have:=h.rbb;refine⟨?_,⟨u,?_⟩,?_,ownsRow_setCell_below h.row (by simp;omega) _,iG h.frame h.rb0,h.ab0,h.rb0,h.abb,h.rbb,h.ne⟩
 ·rw [Below.heap_setCell w _ _ b (by simp;omega)];exact h.main
 ·rw [Below.heap_setCell w _ _ d (by simp;exact h.ne)];exact q
 ·rw [heap_setCell_same w c _ _ _ _ m,A9 s p x o]
theorem RunAt.setMain{q w:World}{b c d n:Nat}{f r l:Value}{s i:St}{D m:List (Int × Int)}{k o a u p t:Int}(h:RunAt q w b c d n f r s D k o a){j:Nat}{v:Value}
  (e:(xw f c d n r s k o a).setIfInBounds j v=xw f c d n l i u p t) (C:i.next=s.next) (z:i.regs=s.regs) (y:w.ownsRow (b+1) 76 2 l m.length (iS m)):
  RunAt q (w.setCell ⟨b,j,none⟩ v) b c d n f l i m u p t:=by
 obtain⟨E,B⟩:=h.ats;have x:=h.regs;have:=h.abb;have:=h.rbb;refine⟨?_,⟨E,?_⟩,?_,ownsRow_setCell_below y (by simp) _,iG h.frame (by have:=h.ab0;omega),h.ab0,h.rb0,h.abb,h.rbb,h.ne⟩
 ·rw [heap_setCell_same w b j _ _ _ h.main,e]
 ·rw [Below.heap_setCell w _ _ c (by simp;omega),B];simp [atF,C]
 ·rw [Below.heap_setCell w _ _ d (by simp;omega),x];simp [jq,z]
theorem RunAt.setVar{l w:World}{b j f n:Nat}{i d:Value}{s:St}{c:List (Int × Int)}{k e a:Int}(h:RunAt l w b j f n i d s c k e a){x:Nat}(m:x<4)(v:Int):
  RunAt l (w.setCell ⟨b,3+x,none⟩ (.int .i64 v)) b j f n i d (s.setVar x v) c k e a:=by
 refine h.setMain ?_ rfl rfl h.row;rcases lt4 m with rfl | rfl | rfl | rfl<;>rfl
theorem RunAt.setLock{m w:World}{b j f n:Nat}{i c:Value}{s:St}{p:List (Int × Int)}{k d a:Int}(h:RunAt m w b j f n i c s p k d a){l:Nat}(q:l<3)(e:Bool)(o:Int):
  RunAt m (w.setCell ⟨b,7+l,none⟩ (.int .i64 (if e=true then o else -1))) b j f n i c (s.setLock l e o) p k d a:=by
 refine h.setMain ?_ rfl rfl h.row;rcases lt3 q with rfl | rfl | rfl<;>rfl
theorem RunAt.like{w0 w w':World}{b ab rb n:Nat}{ps st:Value}{s:St}{acc:List (Int × Int)}{k th a:Int}(h:RunAt w0 w b ab rb n ps st s acc k th a)(hl:ju w' w):RunAt w0 w' b ab rb n ps st s acc k th a:=h.grown (ji (iu _ _) hl)
theorem RunAt.own{m w:World}{b j f n:Nat}{i c:Value}{s:St}{o:List (Int × Int)}{k d a:Int}(h:RunAt m w b j f n i c s o k d a){l:Nat}(e:l<3):w.cell? ⟨b,7+l,none⟩=some (.int .i64 (tx s l)):=by
 rw [(h.cell _).1];rcases lt3 e with rfl | rfl | rfl<;>rfl
theorem RunAt.var{m w:World}{b j f n:Nat}{i c:Value}{s:St}{o:List (Int × Int)}{k d a:Int}(h:RunAt m w b j f n i c s o k d a){l:Nat}(e:l<4):w.cell? ⟨b,3+l,none⟩=some (.int .i64 (s.vars l)):=by
 rw [(h.cell _).1];rcases lt4 e with rfl | rfl | rfl | rfl<;>rfl
theorem xK(s:St)(t r:Nat):s.setReg t r (s.regs t r)=s:=by
 obtain⟨a,b,c,d,e⟩:=s;simp only [St.setReg,St.mk.injEq,true_and,and_true];funext t' r'
 by_cases h:t'=t/\r'=r
 ·simp [h.1,h.2]
 ·simp [h]
theorem vF{w:World}{base:Nat}{e:TypeId}{a:Nat}{v:Value}{n:Nat}{xs:List Value}(h:w.ownsRow base e a v n xs):v.ownBlock≠some w.heap.size:=by
 rcases h.2 with ⟨e1,_⟩ | ⟨g',cap',cur,hv,hb,hh,_⟩
 ·rw [e1];simp [Value.ownBlock]
 ·rw [hv];have:=(Array.getElem?_eq_some_iff.1 hh).1;simp [Value.ownBlock];omega
theorem RunAt.push{v w c:World}{b f l n:Nat}{r t j:Value}{s:St}{d:List (Int × Int)}{k p a:Int}{x:Int × Int}(h:RunAt v w b f l n r t s d k p a)
  (u:w.grownBy c t.ownBlock) (y:c.ownsRow (b+1) 76 2 j (d.length+1) (iS d++[.int .i64 x.1,.int .i64 x.2])):
  RunAt v (c.setCell ⟨b,10,none⟩ j) b f l n r j s (d++[x]) k p a:=by
 obtain⟨C,A⟩:=h.ats;have z:=h.regs;have e1:=h.abb;have e2:=h.rbb;have e3:=h.ab0;have m:=iB h.row;have B:∀ i o,i<=b->w.heap[i]?=some o->c.heap[i]?=some o:=fun i o hi e=>by
  rw [u.block i (Array.getElem?_eq_some_iff.1 e).1 (fun e=>by have:=m _ e.symm;omega)];exact e
 refine⟨?_,⟨C,?_⟩,?_,ownsRow_setCell_below ?_ (by simp) _,iG (jH h.frame u (fun q e=>by have:=m q e;omega)) (by omega),h.ab0,h.rb0,h.abb,h.rbb,h.ne⟩
 ·rw [heap_setCell_same c b 10 _ _ _ (B _ _ (Nat.le_refl _) h.main)];rfl
 ·rw [Below.heap_setCell c _ _ f (by simp;omega)];exact B _ _ (by omega) A
 ·rw [Below.heap_setCell c _ _ l (by simp;omega)];exact B _ _ (by omega) z
 ·rw [nw,List.length_append];exact y
theorem DX(w0 w:World)(b B rb n ag g o t len c h ho p:Nat)(st:Value)(s:St)(F:List (Int × Int))(k th a:Int)(i:Ins)(C:n<=4)(y:t<n)(hlen:len<=16)(hk:p<len)(hacc:F.length<1048576)
  (hR:RunAt w0 w b B rb n (.slice (some ⟨g,o,none⟩) n ag) st s F k th a) (ay:s.next t=p)
  (hr:w.cell? ⟨g,o+t,none⟩=some (.slice (some ⟨h,ho,none⟩) len c))
  (y1:w.cell? ⟨h,ho+p*4,none⟩=some (.int .i64 i.op)) (y2:w.cell? ⟨h,ho+p*4+1,none⟩=some (.int .i64 i.a))
  (y3:w.cell? ⟨h,ho+p*4+2,none⟩=some (.int .i64 i.b)) (y4:w.cell? ⟨h,ho+p*4+3,none⟩=some (.int .i64 i.n)) (hv:lH i len=true) (d:St) (a3:d=s.setNext t (p+1)) (aO:List (Int × Int)) (aQ:aO=F++[((t:Int),(p:Int))]):
  Calls Tryz.prog 37 #[.pointer (some ⟨b,0,none⟩),.int .i64 t] w fun e w'=>∃ st',e= .returned (.bool (act t i d).1)/\
   RunAt w0 w' b B rb n (.slice (some ⟨g,o,none⟩) n ag) st' (act t i d).2 aO k th a:=by
 have HS:=il a3;have aJ:=il aQ;clear a3 aQ;obtain⟨i0,a7,bp,bk,bb⟩:=info_parts un;have HV:=il (oW hv);clear hv;obtain⟨op,m,x,A⟩:=i;simp only at*;have h1:(0:Int)<=(t:Int):=by omega
 have h3:(t:Int)<n:=by omega
 have h4:(0:Int)<=(p:Int):=by omega
 have h5:(p:Int)<len:=by omega
 have p0:w.cell? ⟨b,0,none⟩=some (.slice (some ⟨g,o,none⟩) n ag):=(hR.cell 0).1;have p1:w.cell? ⟨b,1,none⟩=some (.slice (some ⟨B,0,none⟩) n n):=(hR.cell 1).1;have a1:w.cell? ⟨B,t,none⟩=some (.int .i64 p):=by rw [(hR.at_ y).1,ay]
 have HR:=il hR;have aG:=il ay;clear hR ay;have n1:=World.new_ne w _ p0;have n2:=World.new_ne w _ hr;have n3:=World.new_ne w _ a1;have n4:=World.new_ne w _ y1;simp only at n1 n2 n3 n4;have m1:=Ne.symm n1;have m2:=Ne.symm n2;have m3:=Ne.symm n3;have m4:=Ne.symm n4;go_enter Tryz.func37,Tryz.ntmps37
 go_wp2
 go_region
 go_upto_region 2 with fail
 have aF:w.grownBy (w.alloc (.cells #[.int .i64 op,.int .i64 m,.int .i64 x,.int .i64 A] 65)).drew none:=iz (ir (iu _ _));have ak:(w.alloc (.cells #[.int .i64 op,.int .i64 m,.int .i64 x,.int .i64 A] 65)).drew.heap[w.heap.size]?=some (.cells #[.int .i64 op,.int .i64 m,.int .i64 x,.int .i64 A] 65 (0,0)):=heap_alloc_new w _;generalize (w.alloc (.cells #[.int .i64 op,.int .i64 m,.int .i64 x,.int .i64 A] 65)).drew=w2 at aF ak ⊢;have I:=il (HR.out.grown aF);have hbw:b<w.heap.size:=(Array.getElem?_eq_some_iff.1 HR.out.main).1;have hw2:w.heap.size<w2.heap.size:=(Array.getElem?_eq_some_iff.1 ak).1;have aW:=il ak;have aI:Hid (st.ownBlock≠some w.heap.size):=vF HR.out.row;clear aF ak p0 p1 a1 hr y1 y2 y3 y4 n1 n2 n3 n4 m1 m2 m3 m4 HR;obtain⟨R,P,Q,rfl⟩:=iy I.out.row;have q1:w2.cell? ⟨b,10,none⟩=some (.slice R P Q):=(I.out.cell 10).1;have q2:w2.cell? ⟨b,1,none⟩=some (.slice (some ⟨B,0,none⟩) n n):=(I.out.cell 1).1;have q3:w2.cell? ⟨B,t,none⟩=some (.int .i64 p):=by rw [(I.out.at_ y).1,aG.out]
 refine iA (fun u=>u.cell? ⟨b,10,none⟩=some (.slice R P Q)/\u.cell? ⟨b,1,none⟩=some (.slice (some ⟨B,0,none⟩) n n)/\u.cell? ⟨B,t,none⟩=some (.int .i64 p)) 18 (by kernel_rfl) (by kernel_rfl) ?_ ?_
 ·exact⟨q1,q2,q3⟩
 intro bc;refine ij 0 ?v0 rfl (by kernel_rfl) (fun _ _ _ h=>h) (by rfl) ?y0 (by assumption) ?_
 case y0=>(intro u l;obtain⟨g1,g2,E⟩:=l;go_simp;try rfl)
 simp only [Act.put,List.setIfInBounds_toArray];refine ij 1 ?v1 rfl (by kernel_rfl) (fun _ _ _ h=>h) (by rfl) ?y1 (by assumption) ?_
 case y1=>(intro u l;obtain⟨g1,g2,E⟩:=l;go_simp;try rfl)
 simp only [Act.put];refine ij 2 ?v2 rfl (by kernel_rfl) (fun _ _ _ h=>h) (by rfl) ?y2 (by assumption) ?_
 case y2=>(intro u l;obtain⟨g1,g2,E⟩:=l;go_simp;try rfl)
 simp only [Act.put];refine ij 3 ?v3 rfl (by kernel_rfl) (fun _ _ _ h=>h) (by rfl) ?y3 (by assumption) ?_
 case y3=>(intro u l;obtain⟨g1,g2,E⟩:=l;go_simp;try rfl)
 simp only [Act.put];refine ij 4 ?v4 rfl (by kernel_rfl) (fun _ _ _ h=>h) (by rfl) ?y4 (by assumption) ?_
 case y4=>(intro u l;obtain⟨g1,g2,E⟩:=l;go_simp;try rfl)
 simp only [Act.put];refine ij 5 ?v5 rfl (by kernel_rfl) (fun _ _ _ h=>h) (by rfl) ?y5 (by assumption) ?_
 case y5=>(intro u l;obtain⟨g1,g2,E⟩:=l;go_simp;try rfl)
 simp only [Act.put];refine ij 6 ?v6 rfl (by kernel_rfl) (fun _ _ _ h=>h) (by rfl) ?y6 (by assumption) ?_
 case y6=>(intro u l;obtain⟨g1,g2,E⟩:=l;go_simp;try rfl)
 simp only [Act.put];refine ij 7 ?v7 rfl (by kernel_rfl) (fun _ _ _ h=>h) (by rfl) ?y7 (by assumption) ?_
 case y7=>(intro u l;obtain⟨g1,g2,E⟩:=l;go_simp;try rfl)
 simp only [Act.put];refine ij 8 ?v8 rfl (by kernel_rfl) (fun _ _ _ h=>h) (by rfl) ?y8 (by assumption) ?_
 case y8=>(intro u l;obtain⟨g1,g2,E⟩:=l;go_simp;try rfl)
 simp only [Act.put];refine ij 9 ?v9 rfl (by kernel_rfl) (fun _ _ _ h=>h) (by rfl) ?y9 (by assumption) ?_
 case y9=>(intro u l;obtain⟨g1,g2,E⟩:=l;go_simp;try rfl)
 simp only [Act.put];refine ij 10 ?v10 rfl (by kernel_rfl) (fun _ _ _ h=>h) (by rfl) ?y10 (by assumption) ?_
 case y10=>(intro u l;obtain⟨g1,g2,E⟩:=l;go_simp;try rfl)
 simp only [Act.put];refine ij 11 ?v11 rfl (by kernel_rfl) (fun _ _ _ h=>h) (by rfl) ?y11 (by assumption) ?_
 case y11=>(intro u l;obtain⟨g1,g2,E⟩:=l;go_simp;try rfl)
 simp only [Act.put];refine ij 12 ?v12 rfl (by kernel_rfl) (fun _ _ _ h=>h) (by rfl) ?y12 (by assumption) ?_
 case y12=>(intro u l;obtain⟨g1,g2,E⟩:=l;go_simp;try rfl)
 simp only [Act.put];refine ij 13 ?v13 rfl (by kernel_rfl) (fun _ _ _ h=>h) (by rfl) ?y13 (by assumption) ?_
 case y13=>(intro u l;obtain⟨g1,g2,E⟩:=l;go_simp;try rfl)
 simp only [Act.put];refine iw (i:=14) rfl (by kernel_rfl) (by kernel_rfl) (by rfl) ?_;intro K15 aZ;have aY:=il aZ;clear aZ;go_simp;have ac:w2.grownBy ((w2.alloc (.cells #[.int .i64 t,.int .i64 p] 76)).drew) none:=iz (ir (iu _ _));have ax:(w2.alloc (.cells #[.int .i64 t,.int .i64 p] 76)).drew.cell? ⟨b,10,none⟩=some (.slice R P Q)/\(w2.alloc (.cells #[.int .i64 t,.int .i64 p] 76)).drew.cell? ⟨b,1,none⟩=some (.slice (some ⟨B,0,none⟩) n n)/\(w2.alloc (.cells #[.int .i64 t,.int .i64 p] 76)).drew.cell? ⟨B,t,none⟩=some (.int .i64 p):=
  ⟨iq ac _ _ q1,iq ac _ _ q2,iq ac _ _ q3⟩
 refine aY.out _ _ ax ?_;clear aY;have O:=il ac;clear ac;have aU:F.length+1<=maxLen:=by unfold maxLen;omega
 have aN:(F.length+1)*16<=140737488355328:=by omega
 refine iw (i:=15) rfl (by kernel_rfl) (by kernel_rfl) (by rfl) ?_;intro K16 aR;have a0:=il aR;clear aR;refine wp_append_lies _ (.tmp 30) (.tmp 40) 27 (by rfl) (b+1) 76 i0 _ 2 16 Tryz.underlying27 a7 bp bk bb rfl (by omega) (.slice R P Q) F.length (iS F) (by rfl) (iE I.out.row O.out (fun _ e=>by cases e)) ⟨w2.heap.size,0,none⟩ 1 1 [.int .i64 t,.int .i64 p] (by rfl) (by rfl) (World.news_of_block (cs:= #[.int .i64 t,.int .i64 p]) (t:=76) (fr:=(0,0)) (heap_alloc_new w2 _)) (by simp [Value.oneCell']) (by omega) aU aN (by simp;omega) (w2.heap.size+1) (by simp) ?_;intro g2 ae T aL S bi hlt5;have af:∀ q,(Value.slice R P Q).ownBlock=some q->b+1<=q:=fun q e=>iB I.out.row q e
 have aS:T.cell? ⟨b,10,none⟩=some (.slice R P Q)/\T.cell? ⟨b,1,none⟩=some (.slice (some ⟨B,0,none⟩) n n)/\T.cell? ⟨B,t,none⟩=some (.int .i64 p):=by
  obtain⟨z1,z2,z3⟩:=ax;have:=I.out.abb;refine⟨?_,?_,?_⟩
  ·rw [S.cell_far _ (World.block_lt_of_cell? _ _ z1) (fun e=>by have:=af _ e.symm;simp only at this;omega)];exact z1
  ·rw [S.cell_far _ (World.block_lt_of_cell? _ _ z2) (fun e=>by have:=af _ e.symm;simp only at this;omega)];exact z2
  ·rw [S.cell_far _ (World.block_lt_of_cell? _ _ z3) (fun e=>by have:=af _ e.symm;simp only at this;omega)];exact z3
 have N:Hid (RunAt w0 (T.setCell ⟨b,10,none⟩ (.slice (some ⟨g2,0,none⟩) (F.length+1) ae)) b B rb n (.slice (some ⟨g,o,none⟩) n ag) (.slice (some ⟨g2,0,none⟩) (F.length+1) ae) s (F++[((t:Int),(p:Int))]) k th a):=
  RunAt.push I.out (ip (lU O.out) S) aL
 have az:Hid ((T.setCell ⟨b,10,none⟩ (.slice (some ⟨g2,0,none⟩) (F.length+1) ae)).heap[w.heap.size]?=some (.cells #[.int .i64 op,.int .i64 m,.int .i64 x,.int .i64 A] 65 (0,0))):=by
  unfold Hid;have aC:(Value.slice R P Q).ownBlock≠some w.heap.size:=aI.out;rw [Below.heap_setCell _ _ _ _ (by simp;omega),S.block _ (by have:=O.out.size;omega) (fun e=>aC e.symm),O.out.block _ (by omega) (by simp)];exact aW.out
 have be:T.frozen? ⟨b,10,none⟩=false:=by
  have:=I.out.main;have:=S.block b (by have:=O.out.size;omega) (fun e=>by have:=af _ e.symm;omega);simp [World.frozen?,this,O.out.block b (by omega) (by simp),I.out.main]
 clear aL S bi;refine a0.out _ _ aS ?_;clear a0;simp only [Act.put,List.setIfInBounds_toArray];refine ij 16 ?v16 rfl (by kernel_rfl) (fun _ _ _ h=>h) (by rfl) ?y16 (by assumption) ?_
 case y16=>(intro u l;obtain⟨g1,g2,E⟩:=l;go_simp;try rfl)
 simp only [Act.put];refine ij 17 ?v17 rfl (by kernel_rfl) (fun _ _ _ h=>h) (by rfl) ?y17 (by assumption) ?_
 case y17=>(intro u l;obtain⟨g1,g2,E⟩:=l;go_simp;try rfl)
 simp only [Act.put];refine iI rfl (by kernel_rfl) (by kernel_rfl) (by rfl) ?_;obtain⟨z1,z2,z3⟩:=aS;clear bc ax q1 q2 q3 I aW O af;go_simp;clear z1 z2 z3 be;generalize T.setCell ⟨b,10,none⟩ (.slice (some ⟨g2,0,none⟩) (F.length+1) ae)=w6 at N az ⊢;have b1:w6.cell? ⟨b,1,none⟩=some (.slice (some ⟨B,0,none⟩) n n):=(N.out.cell 1).1;have b2:w6.cell? ⟨b,2,none⟩=some (.slice (some ⟨rb,0,none⟩) n n):=(N.out.cell 2).1;have a6:w6.cell? ⟨B,t,none⟩=some (.int .i64 p):=by rw [(N.out.at_ y).1,aG.out]
 have bm:=(N.out.at_ y).2;have e1:B≠b:=by have:=N.out.abb;omega
 have e2:b≠B:=Ne.symm e1;have bg:(p:Int)<16:=by omega
 go_upto_region 5 with fail
 have aq:=N.out.setNext C y ((p:Int)+1);rw [<-HS.out,<-aJ.out]at aq;have j:=il aq;clear aq;have aC:w.heap.size≠B:=by have:=N.out.abb;omega
 have Y:Hid ((w6.setCell ⟨B,t,none⟩ (.int .i64 ((p:Int)+1))).heap[w.heap.size]?=some (.cells #[.int .i64 op,.int .i64 m,.int .i64 x,.int .i64 A] 65 (0,0))):=by
  unfold Hid;rw [Below.heap_setCell _ _ _ _ (by simp;exact aC)];exact az.out
 generalize w6.setCell ⟨B,t,none⟩ (.int .i64 ((p:Int)+1))=w7 at j Y ⊢;generalize Value.slice (some ⟨g2,0,none⟩) (F.length+1) ae=st7 at*;clear HS aJ N az b1 b2 a6 bm h4 h5 bg aG aI aU aN;have x0:w7.cell? ⟨w.heap.size,0,none⟩=some (.int .i64 op):=by have:=Y.out;simp [World.cell?,this]
 have x1:w7.cell? ⟨w.heap.size,1,none⟩=some (.int .i64 m):=by have:=Y.out;simp [World.cell?,this]
 have x2:w7.cell? ⟨w.heap.size,2,none⟩=some (.int .i64 x):=by have:=Y.out;simp [World.cell?,this]
 have x3:w7.cell? ⟨w.heap.size,3,none⟩=some (.int .i64 A):=by have:=Y.out;simp [World.cell?,this]
 have bf:=HV.out;clear HV;rcases bf with H | H | H | H | H | H | H | H | H | H | H
 ·obtain⟨rfl,M,K⟩:=H;obtain⟨r,rfl⟩:∃ r:Nat,m=r:=⟨m.toNat,by omega⟩;have z:r<4:=by omega
  obtain⟨c1,L⟩:=j.out.reg C y z;have f:Hid (act t ⟨1,r,x,A⟩ d=(true,d.setReg t r A)):=by simp [Hid,act]
  go_wp2
  go_region
  go_wp2
  go_ret;exact⟨st7,by rw [f.out];rfl,by rw [f.out];exact(j.out.setReg C y z A).like ⟨rfl,rfl,rfl,rfl⟩⟩
 ·obtain⟨rfl,M,K,W,U⟩:=H;obtain⟨r,rfl⟩:∃ r:Nat,m=r:=⟨m.toNat,by omega⟩;obtain⟨v,rfl⟩:∃ v:Nat,x=v:=⟨x.toNat,by omega⟩;have z:r<4:=by omega
  have G:v<4:=by omega
  obtain⟨c1,L⟩:=j.out.reg C y z;have V:=j.out.var G;have f:Hid (act t ⟨2,r,v,A⟩ d=(true,d.setReg t r (d.vars v))):=by simp [Hid,act]
  go_wp2
  go_region
  go_wp2
  go_ret;exact⟨st7,by rw [f.out];rfl,by rw [f.out];exact(j.out.setReg C y z _).like ⟨rfl,rfl,rfl,rfl⟩⟩
 ·obtain⟨rfl,M,K,W,U⟩:=H;obtain⟨r,rfl⟩:∃ r:Nat,m=r:=⟨m.toNat,by omega⟩;obtain⟨v,rfl⟩:∃ v:Nat,x=v:=⟨x.toNat,by omega⟩;have z:r<4:=by omega
  have G:v<4:=by omega
  obtain⟨c1,L⟩:=j.out.reg C y G;have V:=j.out.var z;have Z:=(j.out.cell (3+r)).2;have f:Hid (act t ⟨3,r,v,A⟩ d=(true,d.setVar r (d.regs t v))):=by simp [Hid,act]
  go_wp2
  go_region
  go_wp2
  go_ret;exact⟨st7,by rw [f.out];rfl,by rw [f.out];exact(j.out.setVar z _).like ⟨rfl,rfl,rfl,rfl⟩⟩
 ·obtain⟨rfl,M,K,W,U⟩:=H;obtain⟨r,rfl⟩:∃ r:Nat,m=r:=⟨m.toNat,by omega⟩;obtain⟨v,rfl⟩:∃ v:Nat,x=v:=⟨x.toNat,by omega⟩;have z:r<4:=by omega
  have G:v<4:=by omega
  obtain⟨c1,L⟩:=j.out.reg C y z;obtain⟨V,Z⟩:=j.out.reg C y G;have f:Hid (act t ⟨4,r,v,A⟩ d=((jo 4 (d.regs t r) (d.regs t v)).2,d.setReg t r (jo 4 (d.regs t r) (d.regs t v)).1)):=by
   simp [Hid,act,jo]
  have J:Hid (∀ u,Calls Tryz.prog 62 #[.int .i64 4,.int .i64 (d.regs t r),.int .i64 (d.regs t v)] u fun e w'=>e= .returned (.tuple #[.int .i64 (jo 4 (d.regs t r) (d.regs t v)).1,.bool (jo 4 (d.regs t r) (d.regs t v)).2])/\w'=u):=fun u=>qK 4 _ _ u (by omega)
  generalize jo 4 (d.regs t r) (d.regs t v)=rk at*;obtain⟨ar,aw⟩:=rk;simp only at f J;go_wp2_with fail
  go_quiet ((go_at_call 62;exact Calls.quiet_of_same (J.out _)))
  go_wp2
  go_region
  go_wp2
  go_ret;exact⟨st7,by rw [f.out];rfl,by rw [f.out];exact(j.out.setReg C y z _).like ⟨rfl,rfl,rfl,rfl⟩⟩
 ·obtain⟨rfl,M,K,W,U⟩:=H;obtain⟨r,rfl⟩:∃ r:Nat,m=r:=⟨m.toNat,by omega⟩;obtain⟨v,rfl⟩:∃ v:Nat,x=v:=⟨x.toNat,by omega⟩;have z:r<4:=by omega
  have G:v<4:=by omega
  obtain⟨c1,L⟩:=j.out.reg C y z;obtain⟨V,Z⟩:=j.out.reg C y G;have f:Hid (act t ⟨5,r,v,A⟩ d=((jo 5 (d.regs t r) (d.regs t v)).2,d.setReg t r (jo 5 (d.regs t r) (d.regs t v)).1)):=by
   simp [Hid,act,jo]
  have J:Hid (∀ u,Calls Tryz.prog 62 #[.int .i64 5,.int .i64 (d.regs t r),.int .i64 (d.regs t v)] u fun e w'=>e= .returned (.tuple #[.int .i64 (jo 5 (d.regs t r) (d.regs t v)).1,.bool (jo 5 (d.regs t r) (d.regs t v)).2])/\w'=u):=fun u=>qK 5 _ _ u (by omega)
  generalize jo 5 (d.regs t r) (d.regs t v)=rk at*;obtain⟨ar,aw⟩:=rk;simp only at f J;go_wp2_with fail
  go_quiet ((go_at_call 62;exact Calls.quiet_of_same (J.out _)))
  go_wp2
  go_region
  go_wp2
  go_ret;exact⟨st7,by rw [f.out];rfl,by rw [f.out];exact(j.out.setReg C y z _).like ⟨rfl,rfl,rfl,rfl⟩⟩
 ·obtain⟨rfl,M,K,W,U⟩:=H;obtain⟨r,rfl⟩:∃ r:Nat,m=r:=⟨m.toNat,by omega⟩;obtain⟨v,rfl⟩:∃ v:Nat,x=v:=⟨x.toNat,by omega⟩;have z:r<4:=by omega
  have G:v<4:=by omega
  obtain⟨c1,L⟩:=j.out.reg C y z;obtain⟨V,Z⟩:=j.out.reg C y G;have f:Hid (act t ⟨6,r,v,A⟩ d=((jo 6 (d.regs t r) (d.regs t v)).2,d.setReg t r (jo 6 (d.regs t r) (d.regs t v)).1)):=by
   simp [Hid,act,jo]
  have J:Hid (∀ u,Calls Tryz.prog 62 #[.int .i64 6,.int .i64 (d.regs t r),.int .i64 (d.regs t v)] u fun e w'=>e= .returned (.tuple #[.int .i64 (jo 6 (d.regs t r) (d.regs t v)).1,.bool (jo 6 (d.regs t r) (d.regs t v)).2])/\w'=u):=fun u=>qK 6 _ _ u (by omega)
  generalize jo 6 (d.regs t r) (d.regs t v)=rk at*;obtain⟨ar,aw⟩:=rk;simp only at f J;go_wp2_with fail
  go_quiet ((go_at_call 62;exact Calls.quiet_of_same (J.out _)))
  go_wp2
  go_region
  go_wp2
  go_ret;exact⟨st7,by rw [f.out];rfl,by rw [f.out];exact(j.out.setReg C y z _).like ⟨rfl,rfl,rfl,rfl⟩⟩
 ·obtain⟨rfl,M,K,W,U⟩:=H;obtain⟨r,rfl⟩:∃ r:Nat,m=r:=⟨m.toNat,by omega⟩;obtain⟨v,rfl⟩:∃ v:Nat,x=v:=⟨x.toNat,by omega⟩;have z:r<4:=by omega
  have G:v<4:=by omega
  obtain⟨c1,L⟩:=j.out.reg C y z;obtain⟨V,Z⟩:=j.out.reg C y G;have f:Hid (act t ⟨7,r,v,A⟩ d=((jo 7 (d.regs t r) (d.regs t v)).2,d.setReg t r (jo 7 (d.regs t r) (d.regs t v)).1)):=by
   unfold Hid;by_cases D:d.regs t v=0
   ·simp [act,jo,D,xK]
   ·simp [act,jo,D]
  have J:Hid (∀ u,Calls Tryz.prog 62 #[.int .i64 7,.int .i64 (d.regs t r),.int .i64 (d.regs t v)] u fun e w'=>e= .returned (.tuple #[.int .i64 (jo 7 (d.regs t r) (d.regs t v)).1,.bool (jo 7 (d.regs t r) (d.regs t v)).2])/\w'=u):=fun u=>qK 7 _ _ u (by omega)
  generalize jo 7 (d.regs t r) (d.regs t v)=rk at*;obtain⟨ar,aw⟩:=rk;simp only at f J;go_wp2_with fail
  go_quiet ((go_at_call 62;exact Calls.quiet_of_same (J.out _)))
  go_wp2
  go_region
  go_wp2
  go_ret;exact⟨st7,by rw [f.out];rfl,by rw [f.out];exact(j.out.setReg C y z _).like ⟨rfl,rfl,rfl,rfl⟩⟩
 ·obtain⟨rfl,M,K,W,U⟩:=H;obtain⟨r,rfl⟩:∃ r:Nat,m=r:=⟨m.toNat,by omega⟩;have z:r<4:=by omega
  obtain⟨c1,L⟩:=j.out.reg C y z;have b1:w7.cell? ⟨b,1,none⟩=some (.slice (some ⟨B,0,none⟩) n n):=(j.out.cell 1).1;obtain⟨V,Z⟩:=j.out.at_ y;by_cases D:d.regs t r=0
  ·have f:Hid (act t ⟨8,r,x,A⟩ d=(true,d.setNext t A)):=by simp [Hid,act,D]
   rw [D]at c1;clear D;go_wp2
   go_quiet (fail)
   go_wp2
   go_region
   go_wp2
   go_ret;exact⟨st7,by rw [f.out];rfl,by rw [f.out];exact(j.out.setNext C y _).like ⟨rfl,rfl,rfl,rfl⟩⟩
  ·have f:Hid (act t ⟨8,r,x,A⟩ d=(true,d)):=by simp [Hid,act,D]
   have bq:(d.regs t r==0)=false:=by simpa using D
   go_wp2
   go_quiet (fail)
   go_wp2
   go_ret;exact⟨st7,by rw [f.out];rfl,by rw [f.out];exact j.out.like ⟨rfl,rfl,rfl,rfl⟩⟩
 ·obtain⟨rfl,M,K⟩:=H;obtain⟨r,rfl⟩:∃ r:Nat,m=r:=⟨m.toNat,by omega⟩;have X:r<3:=by omega
  have c1:=j.out.own X;have L:=(j.out.cell (7+r)).2;have f:Hid (act t ⟨9,r,x,A⟩ d=(true,d.setLock r true t)):=by simp [Hid,act]
  go_wp2
  go_region
  go_wp2
  go_ret;exact⟨st7,by rw [f.out];rfl,by rw [f.out];exact(j.out.setLock X true t).like ⟨rfl,rfl,rfl,rfl⟩⟩
 ·obtain⟨rfl,M,K⟩:=H;obtain⟨r,rfl⟩:∃ r:Nat,m=r:=⟨m.toNat,by omega⟩;have X:r<3:=by omega
  have c1:=j.out.own X;have L:=(j.out.cell (7+r)).2;by_cases D:d.held r=true/\d.own r=t
  ·have f:Hid (act t ⟨10,r,x,A⟩ d=(true,d.setLock r false 0)):=by simp [Hid,act,D]
   have hq:tx d r=t:=by simp [tx,D.1,D.2]
   rw [hq]at c1;clear D hq;go_wp2
   go_quiet (fail)
   go_wp2
   go_region
   go_wp2
   go_ret;exact⟨st7,by rw [f.out];rfl,by rw [f.out];exact(j.out.setLock X false 0).like ⟨rfl,rfl,rfl,rfl⟩⟩
  ·have f:Hid (act t ⟨10,r,x,A⟩ d=(false,d)):=by
    unfold Hid;simp only [act];simp [D]
   have bq:(tx d r !=(t:Int))=true:=by
    unfold tx;by_cases hh:d.held r=true
    ·simp only [hh,if_true];have:¬d.own r=t:=fun e=>D ⟨hh,e⟩
     simpa using this
    ·simp only [hh];simp<;>omega
   clear D;go_wp2
   go_quiet (fail)
   go_wp2
   go_ret;exact⟨st7,by rw [f.out];rfl,by rw [f.out];exact j.out.like ⟨rfl,rfl,rfl,rfl⟩⟩
 ·obtain⟨rfl,M,K⟩:=H;obtain⟨r,rfl⟩:∃ r:Nat,m=r:=⟨m.toNat,by omega⟩;have z:r<4:=by omega
  obtain⟨c1,L⟩:=j.out.reg C y z;have f:Hid (act t ⟨11,r,x,A⟩ d=(d.regs t r !=0,d)):=by simp [Hid,act]
  go_wp2
  go_quiet (fail)
  go_wp2
  go_ret;exact⟨st7,by rw [f.out];rfl,by rw [f.out];exact j.out.like ⟨rfl,rfl,rfl,rfl⟩⟩
end
section
open Go.RowKit
def LkOk(s:St):Prop:=∀ l,s.held l=true->0<=s.own l
theorem LkOk.zero:LkOk St.zero:=fun l h=>by simp [St.zero]at h
theorem LkOk.setNext{s:St}(h:LkOk s)(t:Nat)(v:Int):LkOk (s.setNext t v):=h
theorem LkOk.setLock{s:St}(h:LkOk s)(l:Nat)(hd:Bool)(o:Int)(ho:0<=o):LkOk (s.setLock l hd o):=fun l' e=>by
 simp only [St.setLock]at e ⊢;by_cases hl:l'=l
 ·simp [hl,ho]
 ·simp only [hl,if_false]at e ⊢;exact h l' e
theorem LkOk.act{s:St}(h:LkOk s)(t:Nat)(i:Ins):LkOk (act t i s).2:=by
 by_cases d:i.op=9
 ·have e:Go.Proofs.YtklenjmfalljgabGreatDoor.act t i s=(true,s.setLock i.a.toNat true t):=by simp [Go.Proofs.YtklenjmfalljgabGreatDoor.act,d]
  rw [e];exact h.setLock _ _ _ (by omega)
 ·by_cases b:i.op=10
  ·by_cases c:s.held i.a.toNat=true/\s.own i.a.toNat=t
   ·have e:Go.Proofs.YtklenjmfalljgabGreatDoor.act t i s=(true,s.setLock i.a.toNat false 0):=by simp [Go.Proofs.YtklenjmfalljgabGreatDoor.act,b,c]
    rw [e];exact h.setLock _ _ _ (by omega)
   ·have e:Go.Proofs.YtklenjmfalljgabGreatDoor.act t i s=(false,s):=by
     simp only [Go.Proofs.YtklenjmfalljgabGreatDoor.act,b];simp [c]
    rw [e];exact h
  ·have e:(Go.Proofs.YtklenjmfalljgabGreatDoor.act t i s).2.held=s.held/\(Go.Proofs.YtklenjmfalljgabGreatDoor.act t i s).2.own=s.own:=by
    unfold Go.Proofs.YtklenjmfalljgabGreatDoor.act;rw [if_neg d,if_neg b];repeat' split
    all_goals exact⟨rfl,rfl⟩
   intro l f;rw [e.1]at f;rw [e.2];exact h l f
theorem LkOk.step{s:St}(h:LkOk s)(p:List (List Ins))(t:Nat):LkOk (jQ p s t).2:=LkOk.act (h.setNext _ _) _ _
theorem LkOk.own{s:St}(h:LkOk s)(l:Nat):decide (tx s l<0)= !s.held l:=by
 unfold tx;cases e:s.held l
 ·simp
 ·have:=h l e;simp;omega
theorem BZ{a:World}{c:Option Addr}{i:Nat}{p:List (List Ins)}(k:ProgAt a (.agg #[.slice c p.length i]) p){t:Nat}(b:t<p.length):
  ∃ g o,c=some ⟨g,o,none⟩/\∃ rv,a.cell? ⟨g,o+t,none⟩=some rv/\CodeAt a rv (iP p t):=by
 obtain⟨ao',cap',e,h⟩:=k;simp only [Value.agg.injEq,Array.mk.injEq,List.cons.injEq,Value.slice.injEq,and_true,true_and]at e;obtain⟨rfl,rfl⟩:=e;obtain⟨g,o,j,rv,f,d⟩:=h t b;exact⟨g,o,j,rv,f,by rw [nn b];exact d⟩
theorem Fl{h w:World}{j:Option Addr}{f:Nat}{p:List (List Ins)}(l:iV p=true)(r:ProgAt h (.agg #[.slice j p.length f]) p){b i x:Nat}{u:Value}{s:St}{A:List (Int × Int)}{k n a:Int}
  (d:RunAt h w b i x p.length (.slice j p.length f) u s A k n a) (z:Inv p s) {t:Nat} (c:t<p.length):
  Calls Tryz.prog 38 #[.pointer (some ⟨b,0,none⟩),.int .i64 t] w fun e w'=>e= .returned (.bool (jS p s t))/\w.grownBy w' none:=by
 have hn:=jA l;obtain⟨g,o,rfl,rv,q,m,y,rfl,_⟩:=BZ r c;refine(vi b i p.length f p.length g o t _ y m (s.next t) w c (by omega) (kW (kg l c)) (d.cell 0).1 (d.cell 1).1 (iq d.frame _ _ q) (d.at_ c).1).mono ?_;rintro e w' ⟨rfl,v⟩;refine⟨?_,ji (iu _ _) v⟩;have:=z t c;congr 2
 unfold jS;rw [Bool.eq_iff_iff];simp;omega
theorem zx{u w:World}{z:Option Addr}{l:Nat}{p:List (List Ins)}(m:iV p=true)(K:ProgAt u (.agg #[.slice z p.length l]) p){b n L:Nat}{E:Value}{s:St}{H:List (Int × Int)}{k D a:Int}
  (d:RunAt u w b n L p.length (.slice z p.length l) E s H k D a) (M:Inv p s) (C:LkOk s) {t:Nat} (f:t<p.length):
  Calls Tryz.prog 36 #[.pointer (some ⟨b,0,none⟩),.int .i64 t] w fun e w'=>e= .returned (.bool (jF p s t))/\w.grownBy w' none:=by
 have hn:=jA m;have hin:=M t f;obtain⟨g,o,rfl,rv,r,B,A,rfl,hc⟩:=BZ K f;by_cases x:s.next t=((iP p t).length:Int)
 ·refine(vV b n p.length l p.length g o t _ A B (s.next t) w f (by omega) (kW (kg m f)) (by omega) (d.cell 0).1 (d.cell 1).1 (iq d.frame _ _ r) (d.at_ f).1).mono ?_;rintro e w' ⟨rfl,q⟩;exact⟨by simp [jF,jS,x],q⟩
 ·obtain⟨c,v⟩:∃ c:Nat,s.next t=c:=⟨(s.next t).toNat,by omega⟩;have i:c<(iP p t).length:=by omega
  obtain⟨h,G,rfl,x1,x2,x3,I⟩:=hc c i;have y:=l9 m f (k:=(c:Int)) (by simpa using i);have F:jw p t (s.next t)=(iP p t)[c]:=by rw [v,mE (by simpa using i)];simp
  have J:jw p t (c:Int)=(iP p t)[c]:=by rw [mE (by simpa using i)];simp
  rw [J]at y;have j:=iq d.frame;have say:=oW y;refine(Df b n p.length l p.length g o t _ A h G c (iP p t)[c] (tx s (iP p t)[c].a.toNat) w f (by omega) (kW (kg m f)) i (by omega) (by omega) (d.cell 0).1 (d.cell 1).1 (j _ _ r) (by rw [(d.at_ f).1,v]) (j _ _ x1) (j _ _ x2) (j _ _ x3) (j _ _ I) (Array.getElem?_eq_some_iff.1 d.main).1 (fun e=>d.own (by omega))).mono ?_;rintro e w' ⟨rfl,q⟩;refine⟨?_,q⟩;have N:jS p s t=false:=by simpa [jS]using x
  rw [C.own,jF,N,F];simp
theorem Fv{l w:World}{u:Option Addr}{i:Nat}{p:List (List Ins)}(x:iV p=true)(H:ProgAt l (.agg #[.slice u p.length i]) p){b r v:Nat}{z:Value}{s:St}{m:List (Int × Int)}{k n a:Int}
  (y:RunAt l w b r v p.length (.slice u p.length i) z s m k n a) (K:Inv p s) {t:Nat} (f:t<p.length) (G:jS p s t=false) (I:m.length<1048576):
  Calls Tryz.prog 37 #[.pointer (some ⟨b,0,none⟩),.int .i64 t] w fun e w'=>∃ st',e= .returned (.bool (jQ p s t).1)/\
   RunAt l w' b r v p.length (.slice u p.length i) st' (jQ p s t).2 (m++[((t:Int),s.next t)]) k n a:=by
 have hn:=jA x;have hin:=K t f;obtain⟨g,o,rfl,rv,C,ca,J,rfl,hc⟩:=BZ H f;have hd':¬s.next t=((iP p t).length:Int):=by simpa [jS]using G
 obtain⟨c,q⟩:∃ c:Nat,s.next t=c:=⟨(s.next t).toNat,by omega⟩;have j:c<(iP p t).length:=by omega
 obtain⟨h,E,rfl,x1,x2,x3,F⟩:=hc c j;have B:=l9 x f (k:=(c:Int)) (by simpa using j);have A:jw p t (c:Int)=(iP p t)[c]:=by rw [mE (by simpa using j)];simp
 rw [A]at B;have d:=iq y.frame;have D:jQ p s t=act t (iP p t)[c] (s.setNext t (c+1)):=by unfold jQ;rw [q,A]
 rw [D,q];exact DX l w b r v p.length i g o t _ J h E c z s m k n a (iP p t)[c] (by omega) f (kW (kg x f)) j I y q (d _ _ C) (d _ _ x1) (d _ _ x2) (d _ _ x3) (d _ _ F) B _ rfl _ rfl
end
section
open Go.RowKit
attribute [local go_sem] Go.World.cell?_alloc_some
theorem E7(n:Nat)(c:n=1\/n=2\/n=3\/n=4):
  (∀ u:World,(Instr.makeSlice 39 (.int .i64 n) (.int .i64 n)).run Tryz.prog u= .ok (.slice (some ⟨u.heap.size,0,none⟩) n n) (u.alloc (.cells (atF n St.zero).toArray 3)))/\
  (∀ u:World,(Instr.makeSlice 29 (.int .i64 n) (.int .i64 n)).run Tryz.prog u= .ok (.slice (some ⟨u.heap.size,0,none⟩) n n) (u.alloc (.cells (jq n St.zero).toArray 28))):=by
 obtain⟨l,h,m,a,k⟩:=info_parts kn;obtain⟨d,f,j,b,i⟩:=info_parts xd;constructor
 ·intro u;have:=run_makeSlice (P:=Tryz.prog) u 39 3 l _ Tryz.underlying39 h m .i64 .i64 n n (by omega) (Int.le_refl _) (by rw [a];omega) (by rw [k];omega) (by omega);rw [this,a];have e:madeCells (Value.int .i64 0).cells ((n:Int).toNat*1)=(atF n St.zero).toArray:=by
   rcases c with rfl | rfl | rfl | rfl<;>first | kernel_rfl | simp [madeCells,atF,Value.cells,St.zero,Array.range,List.range_succ]
  rw [e];rfl
 ·intro u;have:=run_makeSlice (P:=Tryz.prog) u 29 28 d _ Tryz.underlying29 f j .i64 .i64 n n (by omega) (Int.le_refl _) (by rw [b];omega) (by rw [i];omega) (by omega);rw [this,b];have e:madeCells (Value.agg #[.int .i64 0,.int .i64 0,.int .i64 0,.int .i64 0]).cells ((n:Int).toNat*4)=(jq n St.zero).toArray:=by
   rcases c with rfl | rfl | rfl | rfl<;>first | kernel_rfl | simp [madeCells,jq,Value.cells,St.zero,Array.range,List.range_succ]
  rw [e];rfl
theorem sP(w:World)(X:Obj)(n:Nat)(b:Value)(a:TypeId):RunAt w ((((w.alloc X).alloc (.cells (atF n St.zero).toArray a)).alloc (.cells (jq n St.zero).toArray 28)).alloc (.cells (xw b (w.heap.size+1) (w.heap.size+1+1) n (.slice none 0 0) St.zero 0 0 0) 51))
  (w.heap.size+1+1+1) (w.heap.size+1) (w.heap.size+1+1) n b (.slice none 0 0) St.zero [] 0 0 0:=by
 refine⟨?_,⟨a,?_⟩,?_,⟨rfl,Or.inl ⟨rfl,rfl⟩⟩,ir (ir (ir (ir (iu _ _)))),by omega,by omega,by omega,by omega,by omega⟩
 ·have:=heap_alloc_new (((w.alloc X).alloc (.cells (atF n St.zero).toArray a)).alloc (.cells (jq n St.zero).toArray 28)) (.cells (xw b (w.heap.size+1) (w.heap.size+1+1) n (.slice none 0 0) St.zero 0 0 0) 51);simpa using this
 ·rw [Below.heap_alloc _ _ _ (by simp),Below.heap_alloc _ _ _ (by simp)];have:=heap_alloc_new (w.alloc X) (.cells (atF n St.zero).toArray a);simpa using this
 ·rw [Below.heap_alloc _ _ _ (by simp)];have:=heap_alloc_new ((w.alloc X).alloc (.cells (atF n St.zero).toArray a)) (.cells (jq n St.zero).toArray 28);simpa using this
theorem sN(w:World)(X:Obj)(n:Nat)(b:Value)(a:TypeId):RunAt w ((((w.alloc X).alloc (.cells (jq n St.zero).toArray 28)).alloc (.cells (atF n St.zero).toArray a)).alloc (.cells (xw b (w.heap.size+1+1) (w.heap.size+1) n (.slice none 0 0) St.zero 0 0 0) 51))
  (w.heap.size+1+1+1) (w.heap.size+1+1) (w.heap.size+1) n b (.slice none 0 0) St.zero [] 0 0 0:=by
 refine⟨?_,⟨a,?_⟩,?_,⟨rfl,Or.inl ⟨rfl,rfl⟩⟩,ir (ir (ir (ir (iu _ _)))),by omega,by omega,by omega,by omega,by omega⟩
 ·have:=heap_alloc_new (((w.alloc X).alloc (.cells (jq n St.zero).toArray 28)).alloc (.cells (atF n St.zero).toArray a)) (.cells (xw b (w.heap.size+1+1) (w.heap.size+1) n (.slice none 0 0) St.zero 0 0 0) 51);simpa using this
 ·rw [Below.heap_alloc _ _ _ (by simp)];have:=heap_alloc_new ((w.alloc X).alloc (.cells (jq n St.zero).toArray 28)) (.cells (atF n St.zero).toArray a);simpa using this
 ·rw [Below.heap_alloc _ _ _ (by simp),Below.heap_alloc _ _ _ (by simp)];have:=heap_alloc_new (w.alloc X) (.cells (jq n St.zero).toArray 28);simpa using this
theorem RunAt.verdict{l w:World}{b m i n:Nat}{j e:Value}{s:St}{d:List (Int × Int)}{k p a:Int}(h:RunAt l w b m i n j e s d k p a)(c f q:Int):
  RunAt l (((w.setCell ⟨b,11,none⟩ (.int .i64 c)).setCell ⟨b,12,none⟩ (.int .i64 f)).setCell ⟨b,13,none⟩ (.int .i64 q)) b m i n j e s d c f q:=by
 have r:RunAt l (w.setCell ⟨b,11,none⟩ (.int .i64 c)) b m i n j e s d c p a:=h.setMain rfl rfl rfl h.row;have o:RunAt l ((w.setCell ⟨b,11,none⟩ (.int .i64 c)).setCell ⟨b,12,none⟩ (.int .i64 f)) b m i n j e s d c f a:=r.setMain rfl rfl rfl r.row;exact o.setMain rfl rfl rfl o.row
theorem RunAt.vcells{w0 w:World}{b ab rb n:Nat}{ps st:Value}{s:St}{acc:List (Int × Int)}{k th a:Int}(h:RunAt w0 w b ab rb n ps st s acc k th a):
  w.cell? ⟨b,10,none⟩=some st/\w.cell? ⟨b,11,none⟩=some (.int .i64 k)/\w.cell? ⟨b,12,none⟩=some (.int .i64 th)/\w.cell? ⟨b,13,none⟩=some (.int .i64 a)/\w.frozen? ⟨b,11,none⟩=false/\w.frozen? ⟨b,12,none⟩=false/\w.frozen? ⟨b,13,none⟩=false:=
 ⟨(h.cell 10).1,(h.cell 11).1,(h.cell 12).1,(h.cell 13).1,(h.cell 11).2,(h.cell 12).2,(h.cell 13).2⟩
theorem RunAt.kind{w0 w:World}{b ab rb n:Nat}{ps st:Value}{s:St}{acc:List (Int × Int)}{k th a:Int}(h:RunAt w0 w b ab rb n ps st s acc k th a)(k':Int):
  RunAt w0 (w.setCell ⟨b,11,none⟩ (.int .i64 k')) b ab rb n ps st s acc k' th a:=h.setMain rfl rfl rfl h.row
theorem RunAt.last{r w:World}{b t o n:Nat}{p f:Value}{s:St}{c:List (Int × Int)}{k m a:Int}{x:Int × Int}(h:RunAt r w b t o n p f s (c++[x]) k m a):
  ∃ g cap,f= .slice (some ⟨g,0,none⟩) (c.length+1) cap/\w.cell? ⟨g,c.length*2,none⟩=some (.int .i64 x.1)/\w.cell? ⟨g,c.length*2+1,none⟩=some (.int .i64 x.2):=by
 have i:=h.row;rw [List.length_append]at i;have d:∀ q:List (Int × Int),(iS q).length=q.length*2:=fun q=>by
  induction q with
  | nil=>rfl
  | cons y q ih=>
   have:iS (y::q)= .int .i64 y.1:: .int .i64 y.2::iS q:=rfl;rw [this];simp [ih];omega
 rcases i.2 with ⟨_,e2⟩ | ⟨g,cap,cur,hv,hb,hh,hx⟩
 ·simp at e2
 ·have key:∀ j v,(iS (c++[x]))[j]?=some v->w.cell? ⟨g,j,none⟩=some v:=fun j v e=>by
   rw [<-hx.2.2.2,List.getElem?_take]at e;by_cases l:j<(c.length+[x].length)*2
   ·rw [if_pos l]at e;simp only [World.cell?,hh];simpa using e
   ·rw [if_neg l]at e;cases e
  refine⟨g,cap,hv,key _ _ ?_,key _ _ ?_⟩
  ·rw [nw,List.getElem?_append_right (by rw [d];omega),d];simp
  ·rw [nw,List.getElem?_append_right (by rw [d];omega),d];simp
end
end Go.Proofs.YtklenjmfalljgabGreatDoor
