/- The texts Rfb Rfc Rfd Rfe Rff Rfg Rfh. -/
import Derived.Test.YtklenjmfalljgabGreatDoorM05
import Derived.Deep.DeepCutAuto
import Derived.Deep.Cut
import Derived.Deep.AppendLies
namespace Go.Proofs.YtklenjmfalljgabGreatDoor
set_option maxRecDepth 100000
set_option maxHeartbeats 8000000
section
open Go.RowKit
attribute [local go_sem] Go.World.cell?_alloc_some
def chkR(p:List (List Ins)):Bool:=decide (1<=p.length) && (decide (p.length<=4) && p.all fun c=>decide (c.length<=16) && c.all fun i=>insR i c.length)
theorem uK(p:List (List Ins)):chkR p=vProg p:=by
 unfold chkR vProg vCode;congr 2
 congr 1
 funext c
 congr 2
 funext i
 exact Aq i _ (by omega)
theorem pN{α:Type}(l:List α)(f:α->Bool)(k:Nat)(a:k<l.length)(h:f l[k]=false):l.all f=false:=by
 rw [List.all_eq_false];exact⟨_,List.getElem_mem a,by simp [h]⟩
theorem ts{α:Type}(l:List α)(f:α->Bool)(k:Nat)(b:k<l.length)(h:(l.take k).all f=true)(a:f l[k]=true):(l.take (k+1)).all f=true:=by
 rw [List.take_succ_eq_append_getElem b,List.all_append,h];simp [a]
theorem kd(p:List (List Ins))(pv:Value)(w:World)(N:ProgAt w pv p)(hp:p.length<=5864062014634)(am:∀ c∈p,c.length<=4398046510976):
  Calls Tryz.prog 24 #[pv] w fun e w'=>e= .returned (.int .i64 (checkN p))/\w.grownBy w' none:=by
 have HP:=ij N;have aF:=ij am;obtain⟨y,v,rfl⟩:=N.form;clear N am;have q0:(p.length:Int)<=5864062014634:=by omega
 have L:Hid (chkR p=false->checkN p=1):=fun e=>by rw [uK]at e;unfold checkN;simp [e]
 have aD:Hid (chkR p=true->checkN p=0):=fun e=>by rw [uK]at e;unfold checkN;simp [e]
 by_cases al:1<=p.length/\p.length<=4
 ·have g1:(1:Int)<=p.length:=by omega
  have g4:(p.length:Int)<=4:=by omega
  have H:Hid (∀ r,(p.all fun c=>decide (c.length<=16) && c.all fun i=>insR i c.length)=r->chkR p=r):=fun r e=>by unfold chkR;rw [e];simp [al.1,al.2]
  go_enter Tryz.func24,Tryz.ntmps24
  go_wp2_with fail
  have O:w.grownBy (w.alloc (.cells #[.slice y p.length v] 37)) none:=iq (ir _ _);have A:=heap_alloc_new w (.cells #[.slice y p.length v] 37);generalize w.alloc (.cells #[.slice y p.length v] 37)=w1 at O A ⊢;have Z:=ij A;have u:=ij O;have hbx:w.heap.size<w1.heap.size:=(Array.getElem?_eq_some_iff.1 A).1;clear O A;go_loopw [3] (fun i w'=>∃ t:Nat,t<=p.length/\i= .int .i64 t/\Hid (w1.grownBy w' none)/\Hid ((p.take t).all (fun c=>decide (c.length<=16) && c.all fun i=>insR i c.length)=true)) (fun i _=>p.length - (intOf i).toNat)
  case atStart=>exact⟨0,Nat.zero_le _,rfl,ij (ir _ _),by simp [Hid]⟩
  case round=>
   obtain⟨t,ht,rfl,d,X⟩:=hrel;obtain⟨G,an⟩:∃ G,G=wr:=⟨_,rfl⟩;rw [<-an]at d ⊢;clear an;have c0:G.cell? ⟨w.heap.size,0,none⟩=some (.slice y p.length v):=ip d.out _ _ (by have:=Z.out;simp [World.cell?,this]);by_cases D:t<p.length
   ·obtain⟨ao',cap',z,ah⟩:=HP.out;obtain⟨U,V,n,rv,W,r2⟩:=ah t D;simp only [Value.agg.injEq,Array.mk.injEq,List.cons.injEq,Value.slice.injEq,and_true,true_and]at z;obtain⟨z,aH⟩:=z;subst z aH n;have hpl:p[t].length<=4398046510976:=aF.out _ (List.getElem_mem D);obtain⟨ca,cc,rfl,ai⟩:=r2;have M:G.cell? ⟨U,V+t,none⟩=some (.slice ca p[t].length cc):=ip (il u.out d.out) _ _ W;have I:Hid (∀ r,(decide (p[t].length<=16) && p[t].all fun i=>insR i p[t].length)=r->(r=false->(p.all fun c=>decide (c.length<=16) && c.all fun i=>insR i c.length)=false)/\(r=true->(p.take (t+1)).all (fun c=>decide (c.length<=16) && c.all fun i=>insR i c.length)=true)):=fun r e=>
     ⟨fun n=>pN p _ t D (by rw [e,n]),fun n=>ts p _ t D X.out (by rw [e,n])⟩
    have aC:=ij W;have aB:=ij ai;clear ah W ai;generalize p[t]=c at*;have t0:(0:Int)<=(t:Int):=by omega
    have t1:(t:Int)<p.length:=by omega
    have t2:(c.length:Int)<=4398046510976:=by omega
    by_cases ag:c.length<=16
    ·have t3:(c.length:Int)<=16:=by omega
     go_wp2_with fail
     go_loopw [5] (fun i w'=>∃ k:Nat,k<=c.length/\i= .int .i64 k/\Hid (w1.grownBy w' none)/\Hid ((c.take k).all (fun i=>insR i c.length)=true)) (fun i _=>c.length - (intOf i).toNat)
     case atStart=>exact⟨0,Nat.zero_le _,rfl,d,by simp [Hid]⟩
     case round=>
      clear c0 M d;obtain⟨k,hk,rfl,d,Y⟩:=hrel;obtain⟨m,ap⟩:∃ m,m=wr:=⟨_,rfl⟩;rw [<-ap]at d ⊢;clear ap;by_cases R:k<c.length
      ·obtain⟨ig,io,rfl,x1,x2,x3,x4⟩:=aB.out k R;have q:=il u.out d.out;have c0:m.cell? ⟨w.heap.size,0,none⟩=some (.slice (some ⟨U,V,none⟩) p.length v):=ip d.out _ _ (by have:=Z.out;simp [World.cell?,this]);have M:m.cell? ⟨U,V+t,none⟩=some (.slice (some ⟨ig,io,none⟩) c.length cc):=ip q _ _ aC.out;have y1:=ip q _ _ x1;have y2:=ip q _ _ x2;have y3:=ip q _ _ x3;have y4:=ip q _ _ x4;have aa:Hid (∀ r,insR c[k] c.length=r->(r=false->(c.all fun i=>insR i c.length)=false)/\(r=true->(c.take (k+1)).all (fun i=>insR i c.length)=true)):=fun r e=>
        ⟨fun n=>pN c _ k R (by rw [e,n]),fun n=>ts c _ k R Y.out (by rw [e,n])⟩
       clear x1 x2 x3 x4 q;generalize c[k]=ins at*;obtain⟨b,f,h,a⟩:=ins;simp only at y1 y2 y3 y4;have s0:(0:Int)<=(k:Int):=by omega
       have s1:(k:Int)<c.length:=by omega
       go_wp2_with fail
       have P:m.grownBy (m.alloc (.cells #[.int .i64 b,.int .i64 f,.int .i64 h,.int .i64 a] 65)) none:=iq (ir _ _);have x:=heap_alloc_new m (.cells #[.int .i64 b,.int .i64 f,.int .i64 h,.int .i64 a] 65);generalize m.alloc (.cells #[.int .i64 b,.int .i64 f,.int .i64 h,.int .i64 a] 65)=w8 at P x ⊢;have z1:w8.cell? ⟨m.heap.size,1,none⟩=some (.int .i64 f):=by simp [World.cell?,x]
       have z2:w8.cell? ⟨m.heap.size,2,none⟩=some (.int .i64 h):=by simp [World.cell?,x]
       have z3:w8.cell? ⟨m.heap.size,3,none⟩=some (.int .i64 a):=by simp [World.cell?,x]
       have ac:=ij (il d.out P);clear P x y1 y2 y3 y4 M c0 d;refine(A4 b w8).mono ?_;rintro e w9 ⟨rfl,l⟩;have l:=l.symm;subst l;have K:Hid (∀ r,(!decide ((shapeR b).1<0) && belowR f (shapeR b).1 && belowR h (shapeR b).2.1 && placeR (shapeR b).2.2 a c.length)=r->insR ⟨b,f,h,a⟩ c.length=r):=fun r e=>e
       have C:(shapeR b).2.2=0\/(shapeR b).2.2=1\/(shapeR b).2.2=2:=by
        unfold shapeR;repeat' split
        all_goals simp
       have B:(shapeR b).1= -1\/0<=(shapeR b).1:=by
        unfold shapeR;repeat' split
        all_goals simp
       unfold shapeV;generalize shapeR b=sr at*;obtain⟨E,sb,F⟩:=sr;simp only at K C B ⊢;go_wp2_with fail
       refine(sL f E w8).mono ?_;rintro e w9 ⟨rfl,l⟩;have l:=l.symm;subst l;go_wp2_with fail
       refine(sL h sb w8).mono ?_;rintro e w9 ⟨rfl,l⟩;have l:=l.symm;subst l;generalize belowR f E=xb at*;generalize belowR h sb=yb at*;have ad:Hid (∀ r,placeR F a c.length=r->insR ⟨b,f,h,a⟩ c.length=(!decide (E<0) && xb && yb && r)):=fun r e=>K.out _ (by rw [e])
       clear K;go_upto_region 16 with fail
       go_cut [12] (fun zv w'=>zv= .bool (placeR F a c.length)/\w'=w8)
       case first=>
        by_cases s:a=0
        ·have j:placeR F a c.length=true:=by unfold placeR;simp [s]
         have aK:(a==0)=true:=by simpa using s
         rcases C with rfl | rfl | rfl
         all_goals
          go_wp2_with fail
          go_meet
          exact⟨by rw [j],rfl⟩
        ·have aK:(a==0)=false:=by simpa using s
         rcases C with rfl | rfl | rfl
         ·have j:placeR 0 a c.length=false:=by unfold placeR;simp [s]
          go_wp2_with fail
          go_meet
          exact⟨by rw [j],rfl⟩
         ·have j:placeR 1 a c.length=true:=by unfold placeR;simp
          go_wp2_with fail
          go_meet
          exact⟨by rw [j],rfl⟩
         ·by_cases ak:0<a
          ·by_cases aj:a<=(c.length:Int)
           ·have j:placeR 2 a c.length=true:=by unfold placeR;simp [ak,aj]
            go_wp2_with fail
            go_meet
            exact⟨by rw [j],rfl⟩
           ·have j:placeR 2 a c.length=false:=by unfold placeR;simp [s,aj]
            have hic':(c.length:Int)<a:=by omega
            go_wp2_with fail
            go_meet
            exact⟨by rw [j],rfl⟩
          ·have j:placeR 2 a c.length=false:=by unfold placeR;simp [s,ak]
           have hip':a<=0:=by omega
           go_wp2_with fail
           go_meet
           exact⟨by rw [j],rfl⟩
       case rest=>
       obtain⟨rfl,S⟩:=hcut;have T:=S.symm;subst T;generalize placeR F a c.length=zb at*;have J:=ij (ad.out zb rfl);clear ad z1 z2 z3 C;go_upto_region 17 with fail
       go_cut [101] (fun bv w'=>bv= .bool (!insR ⟨b,f,h,a⟩ c.length)/\w'=w8)
       case first=>
        rcases B with rfl | B
        ·have Q:insR ⟨b,f,h,a⟩ c.length=false:=by rw [J.out];simp
         go_wp2_with fail
         go_meet
         exact⟨by rw [Q];rfl,rfl⟩
        ·have aL:¬E<0:=by omega
         have Q:insR ⟨b,f,h,a⟩ c.length=(xb && yb && zb):=by rw [J.out];simp [aL]
         cases xb<;>cases yb<;>cases zb
         all_goals
          go_wp2_with fail
          go_meet
          exact⟨by rw [Q];rfl,rfl⟩
       case rest=>
       obtain⟨rfl,S⟩:=hcut;have T:=S.symm;subst T;clear J B;have ab:=ij (aa.out (insR ⟨b,f,h,a⟩ c.length) rfl);clear aa;generalize insR ⟨b,f,h,a⟩ c.length=rb at*;cases rb
       ·have o:Hid (checkN p=1):=by
         refine L.out (H.out _ ?_);refine(I.out _ rfl).1 ?_;rw [ab.out.1 rfl];simp
        go_wp2_with fail
        go_ret;exact⟨by rw [o.out];rfl,il u.out ac.out⟩
       ·have az:=ij (ab.out.2 rfl);go_wp2_with fail
        go_roundw
        case rel=>exact⟨k+1,by omega,by go_num,ac,az⟩
        case measure=>simp [intOf];omega
      ·have s1:(c.length:Int)<=(k:Int):=by omega
       have aA:Hid ((p.take (t+1)).all (fun c=>decide (c.length<=16) && c.all fun i=>insR i c.length)=true):=by
        refine(I.out _ rfl).2 ?_;have:=Y.out;rw [List.take_of_length_le (by omega)]at this;rw [this];simp [ag]
       go_wp2_with fail
       go_roundw
       case rel=>exact⟨t+1,by omega,by go_num,d,aA⟩
       case measure=>simp [intOf];omega
    ·have t3:(16:Int)<c.length:=by omega
     have o:Hid (checkN p=1):=by
      refine L.out (H.out _ ?_);refine(I.out _ rfl).1 ?_;simp [ag]
     go_wp2_with fail
     go_ret;exact⟨by rw [o.out];rfl,il u.out d.out⟩
   ·have t1:(p.length:Int)<=(t:Int):=by omega
    have o:Hid (checkN p=0):=by
     refine aD.out (H.out _ ?_);have:=X.out;rw [List.take_of_length_le (by omega)]at this;exact this
    go_wp2_with fail
    go_ret;exact⟨by rw [o.out];rfl,il u.out d.out⟩
 ·have o:Hid (checkN p=1):=L.out (by
   unfold chkR;by_cases h1:1<=p.length
   ·have h4:¬p.length<=4:=by omega
    simp [h4]
   ·simp [h1])
  by_cases h1:p.length<1
  ·have g1:(p.length:Int)<1:=by omega
   go_enter Tryz.func24,Tryz.ntmps24
   go_wp2_with fail
   go_ret;exact⟨by rw [o.out];rfl,iq (ir _ _)⟩
  ·have g1:(1:Int)<=p.length:=by omega
   have g4:(4:Int)<p.length:=by omega
   go_enter Tryz.func24,Tryz.ntmps24
   go_wp2_with fail
   go_ret;exact⟨by rw [o.out];rfl,iq (ir _ _)⟩
theorem rE(b a n h f g o t len c:Nat)(d:Option Addr)(x:Int)(w:World)(ht:t<n)(ht4:t<4)(hlen:len<=16)
  (hp:w.cell? ⟨b,0,none⟩=some (.slice (some ⟨g,o,none⟩) n h)) (ha:w.cell? ⟨b,1,none⟩=some (.slice (some ⟨a,0,none⟩) n f))
  (hr:w.cell? ⟨g,o+t,none⟩=some (.slice d len c)) (hx:w.cell? ⟨a,t,none⟩=some (.int .i64 x)):
  Calls Tryz.prog 38 #[.pointer (some ⟨b,0,none⟩),.int .i64 t] w fun e w'=>e= .returned (.bool (decide ((len:Int)<=x)))/\Like w' w:=by
 have h1:(0:Int)<=(t:Int):=by omega
 have h2:(t:Int)<4:=by omega
 have h3:(t:Int)<n:=by omega
 have h4:(len:Int)<=16:=by omega
 go_enter Tryz.func38,Tryz.ntmps38
 go_wp2
 go_region
 all_goals (go_wp2;go_ret;exact⟨rfl,rfl,rfl,rfl,rfl⟩)
theorem sZ(b a n h f g o t len c:Nat)(d:Option Addr)(x:Int)(w:World)(q:t<n)(r:t<4)(l:len<=16)(j:(len:Int)<=x)
  (m:w.cell? ⟨b,0,none⟩=some (.slice (some ⟨g,o,none⟩) n h)) (i:w.cell? ⟨b,1,none⟩=some (.slice (some ⟨a,0,none⟩) n f))
  (p:w.cell? ⟨g,o+t,none⟩=some (.slice d len c)) (s:w.cell? ⟨a,t,none⟩=some (.int .i64 x)):
  Calls Tryz.prog 36 #[.pointer (some ⟨b,0,none⟩),.int .i64 t] w fun e w'=>e= .returned (.bool false)/\w.grownBy w' none:=by
 go_enter Tryz.func36,Tryz.ntmps36
 go_wp2_with fail
 refine(rE b a n h f g o t len c d x w q r l m i p s).mono ?_;rintro e w' ⟨rfl,k⟩;simp only [j,decide_true];go_wp2
 go_ret;exact⟨rfl,iR (ir _ _) k⟩
theorem yZ(b u n C B g o t len c h j k:Nat)(i:Ins)(y:Int)(w:World)(O:t<n)(P:t<4)(M:len<=16)(hk:k<len)
  (ha0:0<=i.a) (x:i.op=9->i.a<3)
  (q:w.cell? ⟨b,0,none⟩=some (.slice (some ⟨g,o,none⟩) n C)) (v:w.cell? ⟨b,1,none⟩=some (.slice (some ⟨u,0,none⟩) n B))
  (r:w.cell? ⟨g,o+t,none⟩=some (.slice (some ⟨h,j,none⟩) len c)) (s:w.cell? ⟨u,t,none⟩=some (.int .i64 k))
  (z:w.cell? ⟨h,j+k*4,none⟩=some (.int .i64 i.op)) (I:w.cell? ⟨h,j+k*4+1,none⟩=some (.int .i64 i.a))
  (J:w.cell? ⟨h,j+k*4+2,none⟩=some (.int .i64 i.b)) (K:w.cell? ⟨h,j+k*4+3,none⟩=some (.int .i64 i.n))
  (_hb:b<w.heap.size) (m:i.op=9->w.cell? ⟨b,7+i.a.toNat,none⟩=some (.int .i64 y)):
  Calls Tryz.prog 36 #[.pointer (some ⟨b,0,none⟩),.int .i64 t] w fun e w'=>e= .returned (.bool (!(i.op==9) || decide (y<0)))/\w.grownBy w' none:=by
 obtain⟨op,a,ib,im⟩:=i;simp only at*;have h1:(0:Int)<=(t:Int):=by omega
 have h2:(t:Int)<4:=by omega
 have h3:(t:Int)<n:=by omega
 have h4:(0:Int)<=(k:Int):=by omega
 have h5:(k:Int)<len:=by omega
 have N:decide ((len:Int)<=(k:Int))=false:=by simp;omega
 go_enter Tryz.func36,Tryz.ntmps36
 go_wp2_with fail
 refine(rE b u n C B g o t len c _ k w O P M q v r s).mono ?_;rintro e f ⟨rfl,D⟩;have d:w.grownBy f none:=iR (ir _ _) D;have A:=ij d;simp only [N];replace q:=ip d _ _ q;replace v:=ip d _ _ v;replace r:=ip d _ _ r;replace s:=ip d _ _ s;replace z:=ip d _ _ z;replace I:=ip d _ _ I;replace J:=ip d _ _ J;replace K:=ip d _ _ K;replace m:Hid (op=9->f.cell? ⟨b,7+a.toNat,none⟩=some (.int .i64 y)):=fun e=>ip d _ _ (m e)
 clear d D;have E:=World.new_ne f _ q;have F:=World.new_ne f _ r;have G:=World.new_ne f _ s;have H:=World.new_ne f _ z;simp only at E F G H;have m1:=Ne.symm E;have m2:=Ne.symm F;have m3:=Ne.symm G;have m4:=Ne.symm H;by_cases p:op=9
 ·subst p;have m:=m.out rfl;have ha3:=x rfl;obtain⟨l,rfl⟩:∃ l:Nat,a=l:=⟨a.toNat,by omega⟩;simp only [Int.toNat_natCast]at m;have h6:(l:Int)<3:=by omega
  clear x;go_wp2
  go_region
  go_wp2
  go_quiet (fail)
  go_wp2
  go_ret;exact⟨by simp,iO _ (iy (iq A.out))⟩
 ·have h9':(op !=9)=true:=by simpa using p
  have L:(op==9)=false:=by simpa using p
  clear x p;go_wp2
  go_region
  go_wp2
  go_quiet (fail)
  go_wp2
  go_ret;exact⟨by simp [L],iO _ (iy (iq A.out))⟩
def reckonR(op a b:Int):Int × Bool:=
 if op=4 then (wrap64 (a+b),true) else if op=5 then (wrap64 (a - b),true) else if op=6 then (wrap64 (a*b),true) else if b=0 then (a,false) else (wrap64 (a.tdiv b),true)
theorem mR(c a b:Int)(w:World)(h:c=4\/c=5\/c=6\/c=7):
  Calls Tryz.prog 62 #[.int .i64 c,.int .i64 a,.int .i64 b] w fun e w'=>e= .returned (.tuple #[.int .i64 (reckonR c a b).1,.bool (reckonR c a b).2])/\w'=w:=by
 rcases h with rfl | rfl | rfl | rfl
 ·go_enter Tryz.func62,Tryz.ntmps62
  go_wp2_with fail
  refine bodyPost_ret (v:= .tuple #[.int .i64 (wrap64 (a+b)),.bool true]) (by simp [results,Tryz.results62,go_sem]) rfl ⟨rfl,rfl⟩
 ·go_enter Tryz.func62,Tryz.ntmps62
  go_wp2_with fail
  refine bodyPost_ret (v:= .tuple #[.int .i64 (wrap64 (a - b)),.bool true]) (by simp [results,Tryz.results62,go_sem]) rfl ⟨rfl,rfl⟩
 ·go_enter Tryz.func62,Tryz.ntmps62
  go_wp2_with fail
  refine bodyPost_ret (v:= .tuple #[.int .i64 (wrap64 (a*b)),.bool true]) (by simp [results,Tryz.results62,go_sem]) rfl ⟨rfl,rfl⟩
 ·have f:Hid (reckonR 7 a b=if b=0 then (a,false) else (wrap64 (a.tdiv b),true)):=by unfold Hid reckonR;simp
  by_cases d:b=0
  ·subst d;go_enter Tryz.func62,Tryz.ntmps62
   go_wp2_with fail
   refine bodyPost_ret (v:= .tuple #[.int .i64 a,.bool false]) (by simp [results,Tryz.results62,go_sem]) rfl ⟨by rw [f.out];rfl,rfl⟩
  ·have h0':(b==0)=false:=by simpa using d
   by_cases i:b= -1
   ·subst i;have j:Hid (a.tdiv (-1)= -a):=by unfold Hid;simp
    go_enter Tryz.func62,Tryz.ntmps62
    go_wp2_with fail
    refine bodyPost_ret (v:= .tuple #[.int .i64 (wrap64 (-a)),.bool true]) (by simp [results,Tryz.results62,go_sem]) rfl ⟨by rw [f.out,if_neg d,j.out],rfl⟩
   ·have hm':(b== -1)=false:=by simpa using i
    go_enter Tryz.func62,Tryz.ntmps62
    go_wp2_with fail
    refine bodyPost_ret (v:= .tuple #[.int .i64 (wrap64 (a.tdiv b)),.bool true]) (by simp [results,Tryz.results62,go_sem]) rfl ⟨by rw [f.out,if_neg d],rfl⟩
def ownR(s:St)(l:Nat):Int:=if s.held l=true then s.own l else -1
def atF(n:Nat)(s:St):List Value:=(List.range n).map fun t=> .int .i64 (s.next t)
def runC(ps:Value)(ab rb n:Nat)(st:Value)(s:St)(k th a:Int):Array Value:=
 #[ps,.slice (some ⟨ab,0,none⟩) n n,.slice (some ⟨rb,0,none⟩) n n,.int .i64 (s.vars 0),.int .i64 (s.vars 1),.int .i64 (s.vars 2),.int .i64 (s.vars 3),
  .int .i64 (ownR s 0),.int .i64 (ownR s 1),.int .i64 (ownR s 2),st,.int .i64 k,.int .i64 th,.int .i64 a]
structure RunAt(w0 w:World)(b ab rb n:Nat)(ps st:Value)(s:St)(acc:List (Int × Int))(k th a:Int):Prop where
 main:w.heap[b]?=some (.cells (runC ps ab rb n st s k th a) 51 (0,0))
 ats:∃ ty,w.heap[ab]?=some (.cells (atF n s).toArray ty (0,0))
 regs:w.heap[rb]?=some (.cells (regsF n s).toArray 28 (0,0))
 row:w.ownsRow (b+1) 76 2 st acc.length (flatS acc)
 frame:w0.grownBy w none
 ab0:w0.heap.size<=ab
 rb0:w0.heap.size<=rb
 abb:ab<b
 rbb:rb<b
 ne:ab≠rb
theorem yD{n t:Nat}(hn:n<=4)(h:t<n):(n=1/\t=0)\/(n=2/\t=0)\/(n=2/\t=1)\/(n=3/\t=0)\/(n=3/\t=1)\/(n=3/\t=2)\/(n=4/\t=0)\/(n=4/\t=1)\/(n=4/\t=2)\/(n=4/\t=3):=by omega
theorem zM(s:St){n t:Nat}(a:n<=4)(h:t<n)(v:Int):(atF n s).toArray.setIfInBounds t (.int .i64 v)=(atF n (s.setNext t v)).toArray:=by
 rcases yD a h with ⟨rfl,rfl⟩ | ⟨rfl,rfl⟩ | ⟨rfl,rfl⟩ | ⟨rfl,rfl⟩ | ⟨rfl,rfl⟩ | ⟨rfl,rfl⟩ | ⟨rfl,rfl⟩ | ⟨rfl,rfl⟩ | ⟨rfl,rfl⟩ | ⟨rfl,rfl⟩<;>rfl
theorem wU(s:St){n t r:Nat}(a:n<=4)(h:t<n)(b:r<4)(v:Int):(regsF n s).toArray.setIfInBounds (t*4+r) (.int .i64 v)=(regsF n (s.setReg t r v)).toArray:=by
 rcases yD a h with ⟨rfl,rfl⟩ | ⟨rfl,rfl⟩ | ⟨rfl,rfl⟩ | ⟨rfl,rfl⟩ | ⟨rfl,rfl⟩ | ⟨rfl,rfl⟩ | ⟨rfl,rfl⟩ | ⟨rfl,rfl⟩ | ⟨rfl,rfl⟩ | ⟨rfl,rfl⟩<;>rcases lt4 b with rfl | rfl | rfl | rfl<;>rfl
theorem RunAt.cell{m w:World}{b c e n:Nat}{d f:Value}{s:St}{l:List (Int × Int)}{k i a:Int}(h:RunAt m w b c e n d f s l k i a)(j:Nat):
  w.cell? ⟨b,j,none⟩=(runC d c e n f s k i a)[j]?/\w.frozen? ⟨b,j,none⟩=false:=by
 simp [World.cell?,World.frozen?,h.main]
theorem RunAt.at_{m w:World}{b c i n:Nat}{f j:Value}{s:St}{d:List (Int × Int)}{k l a:Int}(h:RunAt m w b c i n f j s d k l a){t:Nat}(e:t<n):
  w.cell? ⟨c,t,none⟩=some (.int .i64 (s.next t))/\w.frozen? ⟨c,t,none⟩=false:=by
 obtain⟨ty,h⟩:=h.ats;constructor
 ·simp [World.cell?,h,atF,e]
 ·simp [World.frozen?,h]
theorem RunAt.reg{p w:World}{b d c n:Nat}{l m:Value}{s:St}{e:List (Int × Int)}{k o a:Int}(h:RunAt p w b d c n l m s e k o a)(f:n<=4){t r:Nat}(j:t<n)(i:r<4):
  w.cell? ⟨c,t*4+r,none⟩=some (.int .i64 (s.regs t r))/\w.frozen? ⟨c,t*4+r,none⟩=false:=by
 have h:=h.regs;constructor
 ·simp only [World.cell?,h];rcases yD f j with ⟨rfl,rfl⟩ | ⟨rfl,rfl⟩ | ⟨rfl,rfl⟩ | ⟨rfl,rfl⟩ | ⟨rfl,rfl⟩ | ⟨rfl,rfl⟩ | ⟨rfl,rfl⟩ | ⟨rfl,rfl⟩ | ⟨rfl,rfl⟩ | ⟨rfl,rfl⟩<;>rcases lt4 i with rfl | rfl | rfl | rfl<;>rfl
 ·simp [World.frozen?,h]
theorem RunAt.grown{q w w':World}{b d l n:Nat}{j m:Value}{s:St}{f:List (Int × Int)}{k p a:Int}(h:RunAt q w b d l n j m s f k p a)(c:w.grownBy w' none):RunAt q w' b d l n j m s f k p a:=by
 obtain⟨u,r⟩:=h.ats;have t:=h.regs;have B:∀ i o,w.heap[i]?=some o->w'.heap[i]?=some o:=fun i o e=>by rw [c.block i (Array.getElem?_eq_some_iff.1 e).1 (by simp)];exact e
 exact⟨B _ _ h.main,⟨u,B _ _ r⟩,B _ _ t,iC h.row c (fun _ e=>by cases e),il h.frame c,h.ab0,h.rb0,h.abb,h.rbb,h.ne⟩
theorem RunAt.setNext{m w:World}{b c d n:Nat}{i j:Value}{s:St}{f:List (Int × Int)}{k l a:Int}(h:RunAt m w b c d n i j s f k l a)(q:n<=4){t:Nat}(r:t<n)(v:Int):
  RunAt m (w.setCell ⟨c,t,none⟩ (.int .i64 v)) b c d n i j (s.setNext t v) f k l a:=by
 obtain⟨u,o⟩:=h.ats;have p:=h.regs;have:=h.abb;refine⟨?_,⟨u,?_⟩,?_,ownsRow_setCell_below h.row (by simp;omega) _,iD h.frame h.ab0,h.ab0,h.rb0,h.abb,h.rbb,h.ne⟩
 ·rw [Below.heap_setCell w _ _ b (by simp;omega)];exact h.main
 ·rw [heap_setCell_same w c t _ _ _ o,zM s q r]
 ·rw [Below.heap_setCell w _ _ d (by simp;exact fun e=>h.ne e.symm)];exact p
theorem RunAt.setReg{l w:World}{b d c n:Nat}{f i:Value}{s:St}{e:List (Int × Int)}{k j a:Int}(h:RunAt l w b d c n f i s e k j a)(p:n<=4){t r:Nat}(u:t<n)(q:r<4)(v:Int):
  RunAt l (w.setCell ⟨c,t*4+r,none⟩ (.int .i64 v)) b d c n f i (s.setReg t r v) e k j a:=by
 obtain⟨x,m⟩:=h.ats;have o:=h.regs;have:=h.rbb;refine⟨?_,⟨x,?_⟩,?_,ownsRow_setCell_below h.row (by simp;omega) _,iD h.frame h.rb0,h.ab0,h.rb0,h.abb,h.rbb,h.ne⟩
 ·rw [Below.heap_setCell w _ _ b (by simp;omega)];exact h.main
 ·rw [Below.heap_setCell w _ _ d (by simp;exact h.ne)];exact m
 ·rw [heap_setCell_same w c _ _ _ _ o,wU s p u q]
theorem RunAt.setMain{u w:World}{b c d n:Nat}{f q m:Value}{s i:St}{x l:List (Int × Int)}{k r a p t o:Int}(h:RunAt u w b c d n f q s x k r a){j:Nat}{v:Value}
  (e:(runC f c d n q s k r a).setIfInBounds j v=runC f c d n m i p t o) (y:i.next=s.next) (z:i.regs=s.regs) (D:w.ownsRow (b+1) 76 2 m l.length (flatS l)):
  RunAt u (w.setCell ⟨b,j,none⟩ v) b c d n f m i l p t o:=by
 obtain⟨E,B⟩:=h.ats;have C:=h.regs;have:=h.abb;have:=h.rbb;refine⟨?_,⟨E,?_⟩,?_,ownsRow_setCell_below D (by simp) _,iD h.frame (by have:=h.ab0;omega),h.ab0,h.rb0,h.abb,h.rbb,h.ne⟩
 ·rw [heap_setCell_same w b j _ _ _ h.main,e]
 ·rw [Below.heap_setCell w _ _ c (by simp;omega),B];simp [atF,y]
 ·rw [Below.heap_setCell w _ _ d (by simp;omega),C];simp [regsF,z]
theorem RunAt.setVar{l w:World}{b c f n:Nat}{e i:Value}{s:St}{d:List (Int × Int)}{k j a:Int}(h:RunAt l w b c f n e i s d k j a){x:Nat}(m:x<4)(v:Int):
  RunAt l (w.setCell ⟨b,3+x,none⟩ (.int .i64 v)) b c f n e i (s.setVar x v) d k j a:=by
 refine h.setMain ?_ rfl rfl h.row;rcases lt4 m with rfl | rfl | rfl | rfl<;>rfl
theorem RunAt.setLock{p w:World}{b c i n:Nat}{f j:Value}{s:St}{d:List (Int × Int)}{k m a:Int}(h:RunAt p w b c i n f j s d k m a){l:Nat}(q:l<3)(e:Bool)(o:Int):
  RunAt p (w.setCell ⟨b,7+l,none⟩ (.int .i64 (if e=true then o else -1))) b c i n f j (s.setLock l e o) d k m a:=by
 refine h.setMain ?_ rfl rfl h.row;rcases lt3 q with rfl | rfl | rfl<;>rfl
theorem RunAt.like{w0 w w':World}{b ab rb n:Nat}{ps st:Value}{s:St}{acc:List (Int × Int)}{k th a:Int}(h:RunAt w0 w b ab rb n ps st s acc k th a)(hl:Like w' w):RunAt w0 w' b ab rb n ps st s acc k th a:=h.grown (iR (ir _ _) hl)
theorem RunAt.own{o w:World}{b c i n:Nat}{f j:Value}{s:St}{d:List (Int × Int)}{k m a:Int}(h:RunAt o w b c i n f j s d k m a){l:Nat}(e:l<3):w.cell? ⟨b,7+l,none⟩=some (.int .i64 (ownR s l)):=by
 rw [(h.cell _).1];rcases lt3 e with rfl | rfl | rfl<;>rfl
theorem RunAt.var{o w:World}{b c i n:Nat}{f j:Value}{s:St}{d:List (Int × Int)}{k m a:Int}(h:RunAt o w b c i n f j s d k m a){l:Nat}(e:l<4):w.cell? ⟨b,3+l,none⟩=some (.int .i64 (s.vars l)):=by
 rw [(h.cell _).1];rcases lt4 e with rfl | rfl | rfl | rfl<;>rfl
theorem te(s:St)(t r:Nat):s.setReg t r (s.regs t r)=s:=by
 obtain⟨a,b,c,d,e⟩:=s;simp only [St.setReg,St.mk.injEq,true_and,and_true];funext t' r'
 by_cases h:t'=t/\r'=r
 ·simp [h.1,h.2]
 ·simp [h]
theorem ry{w:World}{base:Nat}{e:TypeId}{a:Nat}{v:Value}{n:Nat}{xs:List Value}(h:w.ownsRow base e a v n xs):v.ownBlock≠some w.heap.size:=by
 rcases h.2 with ⟨e1,_⟩ | ⟨g',cap',cur,hv,hb,hh,_⟩
 ·rw [e1];simp [Value.ownBlock]
 ·rw [hv];have:=(Array.getElem?_eq_some_iff.1 hh).1;simp [Value.ownBlock];omega
theorem RunAt.push{v w c:World}{b f l n:Nat}{r t j:Value}{s:St}{d:List (Int × Int)}{k u a:Int}{x:Int × Int}(h:RunAt v w b f l n r t s d k u a)
  (m:w.grownBy c t.ownBlock) (A:c.ownsRow (b+1) 76 2 j (d.length+1) (flatS d++[.int .i64 x.1,.int .i64 x.2])):
  RunAt v (c.setCell ⟨b,10,none⟩ j) b f l n r j s (d++[x]) k u a:=by
 obtain⟨C,y⟩:=h.ats;have z:=h.regs;have e1:=h.abb;have e2:=h.rbb;have e3:=h.ab0;have p:=iA h.row;have B:∀ i o,i<=b->w.heap[i]?=some o->c.heap[i]?=some o:=fun i o hi e=>by
  rw [m.block i (Array.getElem?_eq_some_iff.1 e).1 (fun e=>by have:=p _ e.symm;omega)];exact e
 refine⟨?_,⟨C,?_⟩,?_,ownsRow_setCell_below ?_ (by simp) _,iD (iZ h.frame m (fun q e=>by have:=p q e;omega)) (by omega),h.ab0,h.rb0,h.abb,h.rbb,h.ne⟩
 ·rw [heap_setCell_same c b 10 _ _ _ (B _ _ (Nat.le_refl _) h.main)];rfl
 ·rw [Below.heap_setCell c _ _ f (by simp;omega)];exact B _ _ (by omega) y
 ·rw [Below.heap_setCell c _ _ l (by simp;omega)];exact B _ _ (by omega) z
 ·rw [kE,List.length_append];exact A
theorem AS(w0 w:World)(b B rb n ah g o t len c h ho p:Nat)(st:Value)(s:St)(F:List (Int × Int))(k th a:Int)(i:Ins)(C:n<=4)(x:t<n)(hlen:len<=16)(hk:p<len)(hacc:F.length<1048576)
  (hR:RunAt w0 w b B rb n (.slice (some ⟨g,o,none⟩) n ah) st s F k th a) (av:s.next t=p)
  (hr:w.cell? ⟨g,o+t,none⟩=some (.slice (some ⟨h,ho,none⟩) len c))
  (y1:w.cell? ⟨h,ho+p*4,none⟩=some (.int .i64 i.op)) (y2:w.cell? ⟨h,ho+p*4+1,none⟩=some (.int .i64 i.a))
  (y3:w.cell? ⟨h,ho+p*4+2,none⟩=some (.int .i64 i.b)) (y4:w.cell? ⟨h,ho+p*4+3,none⟩=some (.int .i64 i.n)) (hv:vIns i len=true) (d:St) (a0:d=s.setNext t (p+1)) (aP:List (Int × Int)) (aV:aP=F++[((t:Int),(p:Int))]):
  Calls Tryz.prog 37 #[.pointer (some ⟨b,0,none⟩),.int .i64 t] w fun e w'=>∃ st',e= .returned (.bool (act t i d).1)/\
   RunAt w0 w' b B rb n (.slice (some ⟨g,o,none⟩) n ah) st' (act t i d).2 aP k th a:=by
 have HS:=ij a0;have aH:=ij aV;clear a0 aV;obtain⟨i0,bg,bi,bj,bk⟩:=info_parts qf;have HV:=ij (lJ hv);clear hv;obtain⟨op,m,y,A⟩:=i;simp only at*;have h1:(0:Int)<=(t:Int):=by omega
 have h3:(t:Int)<n:=by omega
 have h4:(0:Int)<=(p:Int):=by omega
 have h5:(p:Int)<len:=by omega
 have p0:w.cell? ⟨b,0,none⟩=some (.slice (some ⟨g,o,none⟩) n ah):=(hR.cell 0).1;have p1:w.cell? ⟨b,1,none⟩=some (.slice (some ⟨B,0,none⟩) n n):=(hR.cell 1).1;have a1:w.cell? ⟨B,t,none⟩=some (.int .i64 p):=by rw [(hR.at_ x).1,av]
 have HR:=ij hR;have an:=ij av;clear hR av;have n1:=World.new_ne w _ p0;have n2:=World.new_ne w _ hr;have n3:=World.new_ne w _ a1;have n4:=World.new_ne w _ y1;simp only at n1 n2 n3 n4;have m1:=Ne.symm n1;have m2:=Ne.symm n2;have m3:=Ne.symm n3;have m4:=Ne.symm n4;go_enter Tryz.func37,Tryz.ntmps37
 go_wp2
 go_region
 go_upto_region 2 with fail
 have aq:w.grownBy (w.alloc (.cells #[.int .i64 op,.int .i64 m,.int .i64 y,.int .i64 A] 65)).drew none:=iy (iq (ir _ _));have ai:(w.alloc (.cells #[.int .i64 op,.int .i64 m,.int .i64 y,.int .i64 A] 65)).drew.heap[w.heap.size]?=some (.cells #[.int .i64 op,.int .i64 m,.int .i64 y,.int .i64 A] 65 (0,0)):=heap_alloc_new w _;generalize (w.alloc (.cells #[.int .i64 op,.int .i64 m,.int .i64 y,.int .i64 A] 65)).drew=w2 at aq ai ⊢;have I:=ij (HR.out.grown aq);have hbw:b<w.heap.size:=(Array.getElem?_eq_some_iff.1 HR.out.main).1;have hw2:w.heap.size<w2.heap.size:=(Array.getElem?_eq_some_iff.1 ai).1;have aI:=ij ai;have aL:Hid (st.ownBlock≠some w.heap.size):=ry HR.out.row;clear aq ai p0 p1 a1 hr y1 y2 y3 y4 n1 n2 n3 n4 m1 m2 m3 m4 HR;obtain⟨Q,R,S,rfl⟩:=iw I.out.row;have q1:w2.cell? ⟨b,10,none⟩=some (.slice Q R S):=(I.out.cell 10).1;have q2:w2.cell? ⟨b,1,none⟩=some (.slice (some ⟨B,0,none⟩) n n):=(I.out.cell 1).1;have q3:w2.cell? ⟨B,t,none⟩=some (.int .i64 p):=by rw [(I.out.at_ x).1,an.out]
 refine iz (fun u=>u.cell? ⟨b,10,none⟩=some (.slice Q R S)/\u.cell? ⟨b,1,none⟩=some (.slice (some ⟨B,0,none⟩) n n)/\u.cell? ⟨B,t,none⟩=some (.int .i64 p)) 18 (by kernel_rfl) (by kernel_rfl) ?_ ?_
 ·exact⟨q1,q2,q3⟩
 intro be;refine ie 0 ?v0 rfl (by kernel_rfl) (fun _ _ _ h=>h) (by rfl) ?y0 (by assumption) ?_
 case y0=>(intro u l;obtain⟨g1,g2,E⟩:=l;go_simp;try rfl)
 simp only [Act.put,List.setIfInBounds_toArray];refine ie 1 ?v1 rfl (by kernel_rfl) (fun _ _ _ h=>h) (by rfl) ?y1 (by assumption) ?_
 case y1=>(intro u l;obtain⟨g1,g2,E⟩:=l;go_simp;try rfl)
 simp only [Act.put];refine ie 2 ?v2 rfl (by kernel_rfl) (fun _ _ _ h=>h) (by rfl) ?y2 (by assumption) ?_
 case y2=>(intro u l;obtain⟨g1,g2,E⟩:=l;go_simp;try rfl)
 simp only [Act.put];refine ie 3 ?v3 rfl (by kernel_rfl) (fun _ _ _ h=>h) (by rfl) ?y3 (by assumption) ?_
 case y3=>(intro u l;obtain⟨g1,g2,E⟩:=l;go_simp;try rfl)
 simp only [Act.put];refine ie 4 ?v4 rfl (by kernel_rfl) (fun _ _ _ h=>h) (by rfl) ?y4 (by assumption) ?_
 case y4=>(intro u l;obtain⟨g1,g2,E⟩:=l;go_simp;try rfl)
 simp only [Act.put];refine ie 5 ?v5 rfl (by kernel_rfl) (fun _ _ _ h=>h) (by rfl) ?y5 (by assumption) ?_
 case y5=>(intro u l;obtain⟨g1,g2,E⟩:=l;go_simp;try rfl)
 simp only [Act.put];refine ie 6 ?v6 rfl (by kernel_rfl) (fun _ _ _ h=>h) (by rfl) ?y6 (by assumption) ?_
 case y6=>(intro u l;obtain⟨g1,g2,E⟩:=l;go_simp;try rfl)
 simp only [Act.put];refine ie 7 ?v7 rfl (by kernel_rfl) (fun _ _ _ h=>h) (by rfl) ?y7 (by assumption) ?_
 case y7=>(intro u l;obtain⟨g1,g2,E⟩:=l;go_simp;try rfl)
 simp only [Act.put];refine ie 8 ?v8 rfl (by kernel_rfl) (fun _ _ _ h=>h) (by rfl) ?y8 (by assumption) ?_
 case y8=>(intro u l;obtain⟨g1,g2,E⟩:=l;go_simp;try rfl)
 simp only [Act.put];refine ie 9 ?v9 rfl (by kernel_rfl) (fun _ _ _ h=>h) (by rfl) ?y9 (by assumption) ?_
 case y9=>(intro u l;obtain⟨g1,g2,E⟩:=l;go_simp;try rfl)
 simp only [Act.put];refine ie 10 ?v10 rfl (by kernel_rfl) (fun _ _ _ h=>h) (by rfl) ?y10 (by assumption) ?_
 case y10=>(intro u l;obtain⟨g1,g2,E⟩:=l;go_simp;try rfl)
 simp only [Act.put];refine ie 11 ?v11 rfl (by kernel_rfl) (fun _ _ _ h=>h) (by rfl) ?y11 (by assumption) ?_
 case y11=>(intro u l;obtain⟨g1,g2,E⟩:=l;go_simp;try rfl)
 simp only [Act.put];refine ie 12 ?v12 rfl (by kernel_rfl) (fun _ _ _ h=>h) (by rfl) ?y12 (by assumption) ?_
 case y12=>(intro u l;obtain⟨g1,g2,E⟩:=l;go_simp;try rfl)
 simp only [Act.put];refine ie 13 ?v13 rfl (by kernel_rfl) (fun _ _ _ h=>h) (by rfl) ?y13 (by assumption) ?_
 case y13=>(intro u l;obtain⟨g1,g2,E⟩:=l;go_simp;try rfl)
 simp only [Act.put];refine iu (i:=14) rfl (by kernel_rfl) (by kernel_rfl) (by rfl) ?_;intro K15 aS;have aJ:=ij aS;clear aS;go_simp;have ac:w2.grownBy ((w2.alloc (.cells #[.int .i64 t,.int .i64 p] 76)).drew) none:=iy (iq (ir _ _));have ap:(w2.alloc (.cells #[.int .i64 t,.int .i64 p] 76)).drew.cell? ⟨b,10,none⟩=some (.slice Q R S)/\(w2.alloc (.cells #[.int .i64 t,.int .i64 p] 76)).drew.cell? ⟨b,1,none⟩=some (.slice (some ⟨B,0,none⟩) n n)/\(w2.alloc (.cells #[.int .i64 t,.int .i64 p] 76)).drew.cell? ⟨B,t,none⟩=some (.int .i64 p):=
  ⟨ip ac _ _ q1,ip ac _ _ q2,ip ac _ _ q3⟩
 refine aJ.out _ _ ap ?_;clear aJ;have O:=ij ac;clear ac;have aR:F.length+1<=maxLen:=by unfold maxLen;omega
 have aW:(F.length+1)*16<=140737488355328:=by omega
 refine iu (i:=15) rfl (by kernel_rfl) (by kernel_rfl) (by rfl) ?_;intro K16 aT;have aK:=ij aT;clear aT;refine wp_append_lies _ (.tmp 30) (.tmp 40) 27 (by rfl) (b+1) 76 i0 _ 2 16 Tryz.underlying27 bg bi bj bk rfl (by omega) (.slice Q R S) F.length (flatS F) (by rfl) (iC I.out.row O.out (fun _ e=>by cases e)) ⟨w2.heap.size,0,none⟩ 1 1 [.int .i64 t,.int .i64 p] (by rfl) (by rfl) (World.news_of_block (cs:= #[.int .i64 t,.int .i64 p]) (t:=76) (fr:=(0,0)) (heap_alloc_new w2 _)) (by simp [Value.oneCell']) (by omega) aR aW (by simp;omega) (w2.heap.size+1) (by simp) ?_;intro g2 Z T aX P bf hlt5;have ae:∀ q,(Value.slice Q R S).ownBlock=some q->b+1<=q:=fun q e=>iA I.out.row q e
 have aU:T.cell? ⟨b,10,none⟩=some (.slice Q R S)/\T.cell? ⟨b,1,none⟩=some (.slice (some ⟨B,0,none⟩) n n)/\T.cell? ⟨B,t,none⟩=some (.int .i64 p):=by
  obtain⟨z1,z2,z3⟩:=ap;have:=I.out.abb;refine⟨?_,?_,?_⟩
  ·rw [P.cell_far _ (World.block_lt_of_cell? _ _ z1) (fun e=>by have:=ae _ e.symm;simp only at this;omega)];exact z1
  ·rw [P.cell_far _ (World.block_lt_of_cell? _ _ z2) (fun e=>by have:=ae _ e.symm;simp only at this;omega)];exact z2
  ·rw [P.cell_far _ (World.block_lt_of_cell? _ _ z3) (fun e=>by have:=ae _ e.symm;simp only at this;omega)];exact z3
 have N:Hid (RunAt w0 (T.setCell ⟨b,10,none⟩ (.slice (some ⟨g2,0,none⟩) (F.length+1) Z)) b B rb n (.slice (some ⟨g,o,none⟩) n ah) (.slice (some ⟨g2,0,none⟩) (F.length+1) Z) s (F++[((t:Int),(p:Int))]) k th a):=
  RunAt.push I.out (il (jN O.out) P) aX
 have am:Hid ((T.setCell ⟨b,10,none⟩ (.slice (some ⟨g2,0,none⟩) (F.length+1) Z)).heap[w.heap.size]?=some (.cells #[.int .i64 op,.int .i64 m,.int .i64 y,.int .i64 A] 65 (0,0))):=by
  unfold Hid;have au:(Value.slice Q R S).ownBlock≠some w.heap.size:=aL.out;rw [Below.heap_setCell _ _ _ _ (by simp;omega),P.block _ (by have:=O.out.size;omega) (fun e=>au e.symm),O.out.block _ (by omega) (by simp)];exact aI.out
 have bb:T.frozen? ⟨b,10,none⟩=false:=by
  have:=I.out.main;have:=P.block b (by have:=O.out.size;omega) (fun e=>by have:=ae _ e.symm;omega);simp [World.frozen?,this,O.out.block b (by omega) (by simp),I.out.main]
 clear aX P bf;refine aK.out _ _ aU ?_;clear aK;simp only [Act.put,List.setIfInBounds_toArray];refine ie 16 ?v16 rfl (by kernel_rfl) (fun _ _ _ h=>h) (by rfl) ?y16 (by assumption) ?_
 case y16=>(intro u l;obtain⟨g1,g2,E⟩:=l;go_simp;try rfl)
 simp only [Act.put];refine ie 17 ?v17 rfl (by kernel_rfl) (fun _ _ _ h=>h) (by rfl) ?y17 (by assumption) ?_
 case y17=>(intro u l;obtain⟨g1,g2,E⟩:=l;go_simp;try rfl)
 simp only [Act.put];refine iF rfl (by kernel_rfl) (by kernel_rfl) (by rfl) ?_;obtain⟨z1,z2,z3⟩:=aU;clear be ap q1 q2 q3 I aI O ae;go_simp;clear z1 z2 z3 bb;generalize T.setCell ⟨b,10,none⟩ (.slice (some ⟨g2,0,none⟩) (F.length+1) Z)=w6 at N am ⊢;have b1:w6.cell? ⟨b,1,none⟩=some (.slice (some ⟨B,0,none⟩) n n):=(N.out.cell 1).1;have b2:w6.cell? ⟨b,2,none⟩=some (.slice (some ⟨rb,0,none⟩) n n):=(N.out.cell 2).1;have a6:w6.cell? ⟨B,t,none⟩=some (.int .i64 p):=by rw [(N.out.at_ x).1,an.out]
 have a8:=(N.out.at_ x).2;have e1:B≠b:=by have:=N.out.abb;omega
 have e2:b≠B:=Ne.symm e1;have bm:(p:Int)<16:=by omega
 go_upto_region 5 with fail
 have ao:=N.out.setNext C x ((p:Int)+1);rw [<-HS.out,<-aH.out]at ao;have j:=ij ao;clear ao;have au:w.heap.size≠B:=by have:=N.out.abb;omega
 have X:Hid ((w6.setCell ⟨B,t,none⟩ (.int .i64 ((p:Int)+1))).heap[w.heap.size]?=some (.cells #[.int .i64 op,.int .i64 m,.int .i64 y,.int .i64 A] 65 (0,0))):=by
  unfold Hid;rw [Below.heap_setCell _ _ _ _ (by simp;exact au)];exact am.out
 generalize w6.setCell ⟨B,t,none⟩ (.int .i64 ((p:Int)+1))=w7 at j X ⊢;generalize Value.slice (some ⟨g2,0,none⟩) (F.length+1) Z=st7 at*;clear HS aH N am b1 b2 a6 a8 h4 h5 bm an aL aR aW;have x0:w7.cell? ⟨w.heap.size,0,none⟩=some (.int .i64 op):=by have:=X.out;simp [World.cell?,this]
 have x1:w7.cell? ⟨w.heap.size,1,none⟩=some (.int .i64 m):=by have:=X.out;simp [World.cell?,this]
 have x2:w7.cell? ⟨w.heap.size,2,none⟩=some (.int .i64 y):=by have:=X.out;simp [World.cell?,this]
 have x3:w7.cell? ⟨w.heap.size,3,none⟩=some (.int .i64 A):=by have:=X.out;simp [World.cell?,this]
 have a5:=HV.out;clear HV;rcases a5 with H | H | H | H | H | H | H | H | H | H | H
 ·obtain⟨rfl,L,M⟩:=H;obtain⟨r,rfl⟩:∃ r:Nat,m=r:=⟨m.toNat,by omega⟩;have z:r<4:=by omega
  obtain⟨c1,K⟩:=j.out.reg C x z;have f:Hid (act t ⟨1,r,y,A⟩ d=(true,d.setReg t r A)):=by simp [Hid,act]
  go_wp2
  go_region
  go_wp2
  go_ret;exact⟨st7,by rw [f.out];rfl,by rw [f.out];exact(j.out.setReg C x z A).like ⟨rfl,rfl,rfl,rfl⟩⟩
 ·obtain⟨rfl,L,M,V,W⟩:=H;obtain⟨r,rfl⟩:∃ r:Nat,m=r:=⟨m.toNat,by omega⟩;obtain⟨v,rfl⟩:∃ v:Nat,y=v:=⟨y.toNat,by omega⟩;have z:r<4:=by omega
  have J:v<4:=by omega
  obtain⟨c1,K⟩:=j.out.reg C x z;have U:=j.out.var J;have f:Hid (act t ⟨2,r,v,A⟩ d=(true,d.setReg t r (d.vars v))):=by simp [Hid,act]
  go_wp2
  go_region
  go_wp2
  go_ret;exact⟨st7,by rw [f.out];rfl,by rw [f.out];exact(j.out.setReg C x z _).like ⟨rfl,rfl,rfl,rfl⟩⟩
 ·obtain⟨rfl,L,M,V,W⟩:=H;obtain⟨r,rfl⟩:∃ r:Nat,m=r:=⟨m.toNat,by omega⟩;obtain⟨v,rfl⟩:∃ v:Nat,y=v:=⟨y.toNat,by omega⟩;have z:r<4:=by omega
  have J:v<4:=by omega
  obtain⟨c1,K⟩:=j.out.reg C x J;have U:=j.out.var z;have Y:=(j.out.cell (3+r)).2;have f:Hid (act t ⟨3,r,v,A⟩ d=(true,d.setVar r (d.regs t v))):=by simp [Hid,act]
  go_wp2
  go_region
  go_wp2
  go_ret;exact⟨st7,by rw [f.out];rfl,by rw [f.out];exact(j.out.setVar z _).like ⟨rfl,rfl,rfl,rfl⟩⟩
 ·obtain⟨rfl,L,M,V,W⟩:=H;obtain⟨r,rfl⟩:∃ r:Nat,m=r:=⟨m.toNat,by omega⟩;obtain⟨v,rfl⟩:∃ v:Nat,y=v:=⟨y.toNat,by omega⟩;have z:r<4:=by omega
  have J:v<4:=by omega
  obtain⟨c1,K⟩:=j.out.reg C x z;obtain⟨U,Y⟩:=j.out.reg C x J;have f:Hid (act t ⟨4,r,v,A⟩ d=((reckonR 4 (d.regs t r) (d.regs t v)).2,d.setReg t r (reckonR 4 (d.regs t r) (d.regs t v)).1)):=by
   simp [Hid,act,reckonR]
  have G:Hid (∀ u,Calls Tryz.prog 62 #[.int .i64 4,.int .i64 (d.regs t r),.int .i64 (d.regs t v)] u fun e w'=>e= .returned (.tuple #[.int .i64 (reckonR 4 (d.regs t r) (d.regs t v)).1,.bool (reckonR 4 (d.regs t r) (d.regs t v)).2])/\w'=u):=fun u=>mR 4 _ _ u (by omega)
  generalize reckonR 4 (d.regs t r) (d.regs t v)=rk at*;obtain⟨aD,aE⟩:=rk;simp only at f G;go_wp2_with fail
  go_quiet ((go_at_call 62;exact Calls.quiet_of_same (G.out _)))
  go_wp2
  go_region
  go_wp2
  go_ret;exact⟨st7,by rw [f.out];rfl,by rw [f.out];exact(j.out.setReg C x z _).like ⟨rfl,rfl,rfl,rfl⟩⟩
 ·obtain⟨rfl,L,M,V,W⟩:=H;obtain⟨r,rfl⟩:∃ r:Nat,m=r:=⟨m.toNat,by omega⟩;obtain⟨v,rfl⟩:∃ v:Nat,y=v:=⟨y.toNat,by omega⟩;have z:r<4:=by omega
  have J:v<4:=by omega
  obtain⟨c1,K⟩:=j.out.reg C x z;obtain⟨U,Y⟩:=j.out.reg C x J;have f:Hid (act t ⟨5,r,v,A⟩ d=((reckonR 5 (d.regs t r) (d.regs t v)).2,d.setReg t r (reckonR 5 (d.regs t r) (d.regs t v)).1)):=by
   simp [Hid,act,reckonR]
  have G:Hid (∀ u,Calls Tryz.prog 62 #[.int .i64 5,.int .i64 (d.regs t r),.int .i64 (d.regs t v)] u fun e w'=>e= .returned (.tuple #[.int .i64 (reckonR 5 (d.regs t r) (d.regs t v)).1,.bool (reckonR 5 (d.regs t r) (d.regs t v)).2])/\w'=u):=fun u=>mR 5 _ _ u (by omega)
  generalize reckonR 5 (d.regs t r) (d.regs t v)=rk at*;obtain⟨aD,aE⟩:=rk;simp only at f G;go_wp2_with fail
  go_quiet ((go_at_call 62;exact Calls.quiet_of_same (G.out _)))
  go_wp2
  go_region
  go_wp2
  go_ret;exact⟨st7,by rw [f.out];rfl,by rw [f.out];exact(j.out.setReg C x z _).like ⟨rfl,rfl,rfl,rfl⟩⟩
 ·obtain⟨rfl,L,M,V,W⟩:=H;obtain⟨r,rfl⟩:∃ r:Nat,m=r:=⟨m.toNat,by omega⟩;obtain⟨v,rfl⟩:∃ v:Nat,y=v:=⟨y.toNat,by omega⟩;have z:r<4:=by omega
  have J:v<4:=by omega
  obtain⟨c1,K⟩:=j.out.reg C x z;obtain⟨U,Y⟩:=j.out.reg C x J;have f:Hid (act t ⟨6,r,v,A⟩ d=((reckonR 6 (d.regs t r) (d.regs t v)).2,d.setReg t r (reckonR 6 (d.regs t r) (d.regs t v)).1)):=by
   simp [Hid,act,reckonR]
  have G:Hid (∀ u,Calls Tryz.prog 62 #[.int .i64 6,.int .i64 (d.regs t r),.int .i64 (d.regs t v)] u fun e w'=>e= .returned (.tuple #[.int .i64 (reckonR 6 (d.regs t r) (d.regs t v)).1,.bool (reckonR 6 (d.regs t r) (d.regs t v)).2])/\w'=u):=fun u=>mR 6 _ _ u (by omega)
  generalize reckonR 6 (d.regs t r) (d.regs t v)=rk at*;obtain⟨aD,aE⟩:=rk;simp only at f G;go_wp2_with fail
  go_quiet ((go_at_call 62;exact Calls.quiet_of_same (G.out _)))
  go_wp2
  go_region
  go_wp2
  go_ret;exact⟨st7,by rw [f.out];rfl,by rw [f.out];exact(j.out.setReg C x z _).like ⟨rfl,rfl,rfl,rfl⟩⟩
 ·obtain⟨rfl,L,M,V,W⟩:=H;obtain⟨r,rfl⟩:∃ r:Nat,m=r:=⟨m.toNat,by omega⟩;obtain⟨v,rfl⟩:∃ v:Nat,y=v:=⟨y.toNat,by omega⟩;have z:r<4:=by omega
  have J:v<4:=by omega
  obtain⟨c1,K⟩:=j.out.reg C x z;obtain⟨U,Y⟩:=j.out.reg C x J;have f:Hid (act t ⟨7,r,v,A⟩ d=((reckonR 7 (d.regs t r) (d.regs t v)).2,d.setReg t r (reckonR 7 (d.regs t r) (d.regs t v)).1)):=by
   unfold Hid;by_cases D:d.regs t v=0
   ·simp [act,reckonR,D,te]
   ·simp [act,reckonR,D]
  have G:Hid (∀ u,Calls Tryz.prog 62 #[.int .i64 7,.int .i64 (d.regs t r),.int .i64 (d.regs t v)] u fun e w'=>e= .returned (.tuple #[.int .i64 (reckonR 7 (d.regs t r) (d.regs t v)).1,.bool (reckonR 7 (d.regs t r) (d.regs t v)).2])/\w'=u):=fun u=>mR 7 _ _ u (by omega)
  generalize reckonR 7 (d.regs t r) (d.regs t v)=rk at*;obtain⟨aD,aE⟩:=rk;simp only at f G;go_wp2_with fail
  go_quiet ((go_at_call 62;exact Calls.quiet_of_same (G.out _)))
  go_wp2
  go_region
  go_wp2
  go_ret;exact⟨st7,by rw [f.out];rfl,by rw [f.out];exact(j.out.setReg C x z _).like ⟨rfl,rfl,rfl,rfl⟩⟩
 ·obtain⟨rfl,L,M,V,W⟩:=H;obtain⟨r,rfl⟩:∃ r:Nat,m=r:=⟨m.toNat,by omega⟩;have z:r<4:=by omega
  obtain⟨c1,K⟩:=j.out.reg C x z;have b1:w7.cell? ⟨b,1,none⟩=some (.slice (some ⟨B,0,none⟩) n n):=(j.out.cell 1).1;obtain⟨U,Y⟩:=j.out.at_ x;by_cases D:d.regs t r=0
  ·have f:Hid (act t ⟨8,r,y,A⟩ d=(true,d.setNext t A)):=by simp [Hid,act,D]
   rw [D]at c1;clear D;go_wp2
   go_quiet (fail)
   go_wp2
   go_region
   go_wp2
   go_ret;exact⟨st7,by rw [f.out];rfl,by rw [f.out];exact(j.out.setNext C x _).like ⟨rfl,rfl,rfl,rfl⟩⟩
  ·have f:Hid (act t ⟨8,r,y,A⟩ d=(true,d)):=by simp [Hid,act,D]
   have bh:(d.regs t r==0)=false:=by simpa using D
   go_wp2
   go_quiet (fail)
   go_wp2
   go_ret;exact⟨st7,by rw [f.out];rfl,by rw [f.out];exact j.out.like ⟨rfl,rfl,rfl,rfl⟩⟩
 ·obtain⟨rfl,L,M⟩:=H;obtain⟨r,rfl⟩:∃ r:Nat,m=r:=⟨m.toNat,by omega⟩;have af:r<3:=by omega
  have c1:=j.out.own af;have K:=(j.out.cell (7+r)).2;have f:Hid (act t ⟨9,r,y,A⟩ d=(true,d.setLock r true t)):=by simp [Hid,act]
  go_wp2
  go_region
  go_wp2
  go_ret;exact⟨st7,by rw [f.out];rfl,by rw [f.out];exact(j.out.setLock af true t).like ⟨rfl,rfl,rfl,rfl⟩⟩
 ·obtain⟨rfl,L,M⟩:=H;obtain⟨r,rfl⟩:∃ r:Nat,m=r:=⟨m.toNat,by omega⟩;have af:r<3:=by omega
  have c1:=j.out.own af;have K:=(j.out.cell (7+r)).2;by_cases D:d.held r=true/\d.own r=t
  ·have f:Hid (act t ⟨10,r,y,A⟩ d=(true,d.setLock r false 0)):=by simp [Hid,act,D]
   have hq:ownR d r=t:=by simp [ownR,D.1,D.2]
   rw [hq]at c1;clear D hq;go_wp2
   go_quiet (fail)
   go_wp2
   go_region
   go_wp2
   go_ret;exact⟨st7,by rw [f.out];rfl,by rw [f.out];exact(j.out.setLock af false 0).like ⟨rfl,rfl,rfl,rfl⟩⟩
  ·have f:Hid (act t ⟨10,r,y,A⟩ d=(false,d)):=by
    unfold Hid;simp only [act];simp [D]
   have bh:(ownR d r !=(t:Int))=true:=by
    unfold ownR;by_cases hh:d.held r=true
    ·simp only [hh,if_true];have:¬d.own r=t:=fun e=>D ⟨hh,e⟩
     simpa using this
    ·simp only [hh];simp<;>omega
   clear D;go_wp2
   go_quiet (fail)
   go_wp2
   go_ret;exact⟨st7,by rw [f.out];rfl,by rw [f.out];exact j.out.like ⟨rfl,rfl,rfl,rfl⟩⟩
 ·obtain⟨rfl,L,M⟩:=H;obtain⟨r,rfl⟩:∃ r:Nat,m=r:=⟨m.toNat,by omega⟩;have z:r<4:=by omega
  obtain⟨c1,K⟩:=j.out.reg C x z;have f:Hid (act t ⟨11,r,y,A⟩ d=(d.regs t r !=0,d)):=by simp [Hid,act]
  go_wp2
  go_quiet (fail)
  go_wp2
  go_ret;exact⟨st7,by rw [f.out];rfl,by rw [f.out];exact j.out.like ⟨rfl,rfl,rfl,rfl⟩⟩
end
section
open Go.RowKit
def LkOk(s:St):Prop:=∀ l,s.held l=true->0<=s.own l
theorem LkOk.zero:LkOk St.zero:=fun l h=>by simp [St.zero]at h
theorem LkOk.setNext{s:St}(h:LkOk s)(t:Nat)(v:Int):LkOk (s.setNext t v):=h
theorem LkOk.setLock{s:St}(h:LkOk s)(l:Nat)(hd:Bool)(o:Int)(ho:0<=o):LkOk (s.setLock l hd o):=fun l' e=>by
 simp only [St.setLock]at e ⊢;by_cases hl:l'=l
 ·simp [hl,ho]
 ·simp only [hl,if_false]at e ⊢;exact h l' e
theorem LkOk.act{s:St}(h:LkOk s)(t:Nat)(i:Ins):LkOk (act t i s).2:=by
 by_cases c:i.op=9
 ·have e:Go.Proofs.YtklenjmfalljgabGreatDoor.act t i s=(true,s.setLock i.a.toNat true t):=by simp [Go.Proofs.YtklenjmfalljgabGreatDoor.act,c]
  rw [e];exact h.setLock _ _ _ (by omega)
 ·by_cases b:i.op=10
  ·by_cases f:s.held i.a.toNat=true/\s.own i.a.toNat=t
   ·have e:Go.Proofs.YtklenjmfalljgabGreatDoor.act t i s=(true,s.setLock i.a.toNat false 0):=by simp [Go.Proofs.YtklenjmfalljgabGreatDoor.act,b,f]
    rw [e];exact h.setLock _ _ _ (by omega)
   ·have e:Go.Proofs.YtklenjmfalljgabGreatDoor.act t i s=(false,s):=by
     simp only [Go.Proofs.YtklenjmfalljgabGreatDoor.act,b];simp [f]
    rw [e];exact h
  ·have e:(Go.Proofs.YtklenjmfalljgabGreatDoor.act t i s).2.held=s.held/\(Go.Proofs.YtklenjmfalljgabGreatDoor.act t i s).2.own=s.own:=by
    unfold Go.Proofs.YtklenjmfalljgabGreatDoor.act;rw [if_neg c,if_neg b];repeat' split
    all_goals exact⟨rfl,rfl⟩
   intro l d;rw [e.1]at d;rw [e.2];exact h l d
theorem LkOk.step{s:St}(h:LkOk s)(p:List (List Ins))(t:Nat):LkOk (stepS p s t).2:=LkOk.act (h.setNext _ _) _ _
theorem LkOk.own{s:St}(h:LkOk s)(l:Nat):decide (ownR s l<0)= !s.held l:=by
 unfold ownR;cases e:s.held l
 ·simp
 ·have:=h l e;simp;omega
theorem yY{a:World}{b:Option Addr}{d:Nat}{p:List (List Ins)}(k:ProgAt a (.agg #[.slice b p.length d]) p){t:Nat}(c:t<p.length):
  ∃ g o,b=some ⟨g,o,none⟩/\∃ rv,a.cell? ⟨g,o+t,none⟩=some rv/\CodeAt a rv (codeOf p t):=by
 obtain⟨ao',cap',e,h⟩:=k;simp only [Value.agg.injEq,Array.mk.injEq,List.cons.injEq,Value.slice.injEq,and_true,true_and]at e;obtain⟨rfl,rfl⟩:=e;obtain⟨g,o,f,rv,i,j⟩:=h t c;exact⟨g,o,f,rv,i,by rw [kC c];exact j⟩
theorem BQ{l w:World}{i:Option Addr}{f:Nat}{p:List (List Ins)}(j:vProg p=true)(v:ProgAt l (.agg #[.slice i p.length f]) p){b h y:Nat}{z:Value}{s:St}{m:List (Int × Int)}{k A a:Int}
  (d:RunAt l w b h y p.length (.slice i p.length f) z s m k A a) (u:Inv p s) {t:Nat} (c:t<p.length):
  Calls Tryz.prog 38 #[.pointer (some ⟨b,0,none⟩),.int .i64 t] w fun e w'=>e= .returned (.bool (doneB p s t))/\w.grownBy w' none:=by
 have hn:=iW j;obtain⟨g,o,rfl,rv,r,n,q,rfl,_⟩:=yY v c;refine(rE b h p.length f p.length g o t _ q n (s.next t) w c (by omega) (jx (jf j c)) (d.cell 0).1 (d.cell 1).1 (ip d.frame _ _ r) (d.at_ c).1).mono ?_;rintro e w' ⟨rfl,x⟩;refine⟨?_,iR (ir _ _) x⟩;have:=u t c;congr 2
 unfold doneB;rw [Bool.eq_iff_iff];simp;omega
theorem uZ{A w:World}{r:Option Addr}{l:Nat}{p:List (List Ins)}(m:vProg p=true)(F:ProgAt A (.agg #[.slice r p.length l]) p){b n K:Nat}{L:Value}{s:St}{B:List (Int × Int)}{k M a:Int}
  (d:RunAt A w b n K p.length (.slice r p.length l) L s B k M a) (D:Inv p s) (E:LkOk s) {t:Nat} (f:t<p.length):
  Calls Tryz.prog 36 #[.pointer (some ⟨b,0,none⟩),.int .i64 t] w fun e w'=>e= .returned (.bool (readyB p s t))/\w.grownBy w' none:=by
 have hn:=iW m;have hin:=D t f;obtain⟨g,o,rfl,rv,v,C,u,rfl,hc⟩:=yY F f;by_cases x:s.next t=((codeOf p t).length:Int)
 ·refine(sZ b n p.length l p.length g o t _ u C (s.next t) w f (by omega) (jx (jf m f)) (by omega) (d.cell 0).1 (d.cell 1).1 (ip d.frame _ _ v) (d.at_ f).1).mono ?_;rintro e w' ⟨rfl,q⟩;exact⟨by simp [readyB,doneB,x],q⟩
 ·obtain⟨c,y⟩:∃ c:Nat,s.next t=c:=⟨(s.next t).toNat,by omega⟩;have j:c<(codeOf p t).length:=by omega
  obtain⟨h,J,rfl,x1,x2,x3,N⟩:=hc c j;have z:=jT m f (k:=(c:Int)) (by simpa using j);have G:insAt p t (s.next t)=(codeOf p t)[c]:=by rw [y,j4 (by simpa using j)];simp
  have H:insAt p t (c:Int)=(codeOf p t)[c]:=by rw [j4 (by simpa using j)];simp
  rw [H]at z;have i:=ip d.frame;have say:=lJ z;refine(yZ b n p.length l p.length g o t _ u h J c (codeOf p t)[c] (ownR s (codeOf p t)[c].a.toNat) w f (by omega) (jx (jf m f)) j (by omega) (by omega) (d.cell 0).1 (d.cell 1).1 (i _ _ v) (by rw [(d.at_ f).1,y]) (i _ _ x1) (i _ _ x2) (i _ _ x3) (i _ _ N) (Array.getElem?_eq_some_iff.1 d.main).1 (fun e=>d.own (by omega))).mono ?_;rintro e w' ⟨rfl,q⟩;refine⟨?_,q⟩;have I:doneB p s t=false:=by simpa [doneB]using x
  rw [E.own,readyB,I,G];simp
theorem BT{m w:World}{q:Option Addr}{j:Nat}{p:List (List Ins)}(u:vProg p=true)(F:ProgAt m (.agg #[.slice q p.length j]) p){b n v:Nat}{B:Value}{s:St}{i:List (Int × Int)}{k x a:Int}
  (y:RunAt m w b n v p.length (.slice q p.length j) B s i k x a) (E:Inv p s) {t:Nat} (f:t<p.length) (H:doneB p s t=false) (G:i.length<1048576):
  Calls Tryz.prog 37 #[.pointer (some ⟨b,0,none⟩),.int .i64 t] w fun e w'=>∃ st',e= .returned (.bool (stepS p s t).1)/\
   RunAt m w' b n v p.length (.slice q p.length j) st' (stepS p s t).2 (i++[((t:Int),s.next t)]) k x a:=by
 have hn:=iW u;have hin:=E t f;obtain⟨g,o,rfl,rv,D,ca,C,rfl,hc⟩:=yY F f;have hd':¬s.next t=((codeOf p t).length:Int):=by simpa [doneB]using H
 obtain⟨c,r⟩:∃ c:Nat,s.next t=c:=⟨(s.next t).toNat,by omega⟩;have l:c<(codeOf p t).length:=by omega
 obtain⟨h,I,rfl,x1,x2,x3,K⟩:=hc c l;have A:=jT u f (k:=(c:Int)) (by simpa using l);have z:insAt p t (c:Int)=(codeOf p t)[c]:=by rw [j4 (by simpa using l)];simp
 rw [z]at A;have d:=ip y.frame;have J:stepS p s t=act t (codeOf p t)[c] (s.setNext t (c+1)):=by unfold stepS;rw [r,z]
 rw [J,r];exact AS m w b n v p.length j g o t _ C h I c B s i k x a (codeOf p t)[c] (by omega) f (jx (jf u f)) l G y r (d _ _ D) (d _ _ x1) (d _ _ x2) (d _ _ x3) (d _ _ K) A _ rfl _ rfl
end
section
open Go.RowKit
attribute [local go_sem] Go.World.cell?_alloc_some
theorem Bu(n:Nat)(a:n=1\/n=2\/n=3\/n=4):
  (∀ u:World,(Instr.makeSlice 39 (.int .i64 n) (.int .i64 n)).run Tryz.prog u= .ok (.slice (some ⟨u.heap.size,0,none⟩) n n) (u.alloc (.cells (atF n St.zero).toArray 3)))/\
  (∀ u:World,(Instr.makeSlice 29 (.int .i64 n) (.int .i64 n)).run Tryz.prog u= .ok (.slice (some ⟨u.heap.size,0,none⟩) n n) (u.alloc (.cells (regsF n St.zero).toArray 28))):=by
 obtain⟨l,d,j,c,k⟩:=info_parts ji;obtain⟨m,f,h,b,i⟩:=info_parts sq;constructor
 ·intro u;have:=run_makeSlice (P:=Tryz.prog) u 39 3 l _ Tryz.underlying39 d j .i64 .i64 n n (by omega) (Int.le_refl _) (by rw [c];omega) (by rw [k];omega) (by omega);rw [this,c];have e:madeCells (Value.int .i64 0).cells ((n:Int).toNat*1)=(atF n St.zero).toArray:=by
   rcases a with rfl | rfl | rfl | rfl<;>first | kernel_rfl | simp [madeCells,atF,Value.cells,St.zero,Array.range,List.range_succ]
  rw [e];rfl
 ·intro u;have:=run_makeSlice (P:=Tryz.prog) u 29 28 m _ Tryz.underlying29 f h .i64 .i64 n n (by omega) (Int.le_refl _) (by rw [b];omega) (by rw [i];omega) (by omega);rw [this,b];have e:madeCells (Value.agg #[.int .i64 0,.int .i64 0,.int .i64 0,.int .i64 0]).cells ((n:Int).toNat*4)=(regsF n St.zero).toArray:=by
   rcases a with rfl | rfl | rfl | rfl<;>first | kernel_rfl | simp [madeCells,regsF,Value.cells,St.zero,Array.range,List.range_succ]
  rw [e];rfl
theorem pc(w:World)(X:Obj)(n:Nat)(b:Value)(a:TypeId):RunAt w ((((w.alloc X).alloc (.cells (atF n St.zero).toArray a)).alloc (.cells (regsF n St.zero).toArray 28)).alloc (.cells (runC b (w.heap.size+1) (w.heap.size+1+1) n (.slice none 0 0) St.zero 0 0 0) 51))
  (w.heap.size+1+1+1) (w.heap.size+1) (w.heap.size+1+1) n b (.slice none 0 0) St.zero [] 0 0 0:=by
 refine⟨?_,⟨a,?_⟩,?_,⟨rfl,Or.inl ⟨rfl,rfl⟩⟩,iq (iq (iq (iq (ir _ _)))),by omega,by omega,by omega,by omega,by omega⟩
 ·have:=heap_alloc_new (((w.alloc X).alloc (.cells (atF n St.zero).toArray a)).alloc (.cells (regsF n St.zero).toArray 28)) (.cells (runC b (w.heap.size+1) (w.heap.size+1+1) n (.slice none 0 0) St.zero 0 0 0) 51);simpa using this
 ·rw [Below.heap_alloc _ _ _ (by simp),Below.heap_alloc _ _ _ (by simp)];have:=heap_alloc_new (w.alloc X) (.cells (atF n St.zero).toArray a);simpa using this
 ·rw [Below.heap_alloc _ _ _ (by simp)];have:=heap_alloc_new ((w.alloc X).alloc (.cells (atF n St.zero).toArray a)) (.cells (regsF n St.zero).toArray 28);simpa using this
theorem pd(w:World)(X:Obj)(n:Nat)(b:Value)(a:TypeId):RunAt w ((((w.alloc X).alloc (.cells (regsF n St.zero).toArray 28)).alloc (.cells (atF n St.zero).toArray a)).alloc (.cells (runC b (w.heap.size+1+1) (w.heap.size+1) n (.slice none 0 0) St.zero 0 0 0) 51))
  (w.heap.size+1+1+1) (w.heap.size+1+1) (w.heap.size+1) n b (.slice none 0 0) St.zero [] 0 0 0:=by
 refine⟨?_,⟨a,?_⟩,?_,⟨rfl,Or.inl ⟨rfl,rfl⟩⟩,iq (iq (iq (iq (ir _ _)))),by omega,by omega,by omega,by omega,by omega⟩
 ·have:=heap_alloc_new (((w.alloc X).alloc (.cells (regsF n St.zero).toArray 28)).alloc (.cells (atF n St.zero).toArray a)) (.cells (runC b (w.heap.size+1+1) (w.heap.size+1) n (.slice none 0 0) St.zero 0 0 0) 51);simpa using this
 ·rw [Below.heap_alloc _ _ _ (by simp)];have:=heap_alloc_new ((w.alloc X).alloc (.cells (regsF n St.zero).toArray 28)) (.cells (atF n St.zero).toArray a);simpa using this
 ·rw [Below.heap_alloc _ _ _ (by simp),Below.heap_alloc _ _ _ (by simp)];have:=heap_alloc_new (w.alloc X) (.cells (regsF n St.zero).toArray 28);simpa using this
theorem RunAt.verdict{m w:World}{b d i n:Nat}{f j:Value}{s:St}{e:List (Int × Int)}{k r a:Int}(h:RunAt m w b d i n f j s e k r a)(c l o:Int):
  RunAt m (((w.setCell ⟨b,11,none⟩ (.int .i64 c)).setCell ⟨b,12,none⟩ (.int .i64 l)).setCell ⟨b,13,none⟩ (.int .i64 o)) b d i n f j s e c l o:=by
 have p:RunAt m (w.setCell ⟨b,11,none⟩ (.int .i64 c)) b d i n f j s e c r a:=h.setMain rfl rfl rfl h.row;have q:RunAt m ((w.setCell ⟨b,11,none⟩ (.int .i64 c)).setCell ⟨b,12,none⟩ (.int .i64 l)) b d i n f j s e c l a:=p.setMain rfl rfl rfl p.row;exact q.setMain rfl rfl rfl q.row
theorem RunAt.vcells{w0 w:World}{b ab rb n:Nat}{ps st:Value}{s:St}{acc:List (Int × Int)}{k th a:Int}(h:RunAt w0 w b ab rb n ps st s acc k th a):
  w.cell? ⟨b,10,none⟩=some st/\w.cell? ⟨b,11,none⟩=some (.int .i64 k)/\w.cell? ⟨b,12,none⟩=some (.int .i64 th)/\w.cell? ⟨b,13,none⟩=some (.int .i64 a)/\w.frozen? ⟨b,11,none⟩=false/\w.frozen? ⟨b,12,none⟩=false/\w.frozen? ⟨b,13,none⟩=false:=
 ⟨(h.cell 10).1,(h.cell 11).1,(h.cell 12).1,(h.cell 13).1,(h.cell 11).2,(h.cell 12).2,(h.cell 13).2⟩
theorem RunAt.kind{w0 w:World}{b ab rb n:Nat}{ps st:Value}{s:St}{acc:List (Int × Int)}{k th a:Int}(h:RunAt w0 w b ab rb n ps st s acc k th a)(k':Int):
  RunAt w0 (w.setCell ⟨b,11,none⟩ (.int .i64 k')) b ab rb n ps st s acc k' th a:=h.setMain rfl rfl rfl h.row
theorem RunAt.last{t w:World}{b m p n:Nat}{o l:Value}{s:St}{c:List (Int × Int)}{k r a:Int}{x:Int × Int}(h:RunAt t w b m p n o l s (c++[x]) k r a):
  ∃ g cap,l= .slice (some ⟨g,0,none⟩) (c.length+1) cap/\w.cell? ⟨g,c.length*2,none⟩=some (.int .i64 x.1)/\w.cell? ⟨g,c.length*2+1,none⟩=some (.int .i64 x.2):=by
 have i:=h.row;rw [List.length_append]at i;have d:∀ q:List (Int × Int),(flatS q).length=q.length*2:=fun q=>by
  induction q with
  | nil=>rfl
  | cons y q ih=>
   have:flatS (y::q)= .int .i64 y.1:: .int .i64 y.2::flatS q:=rfl;rw [this];simp [ih];omega
 rcases i.2 with ⟨_,e2⟩ | ⟨g,cap,cur,hv,hb,hh,hx⟩
 ·simp at e2
 ·have key:∀ j v,(flatS (c++[x]))[j]?=some v->w.cell? ⟨g,j,none⟩=some v:=fun j v e=>by
   rw [<-hx.2.2.2,List.getElem?_take]at e;by_cases f:j<(c.length+[x].length)*2
   ·rw [if_pos f]at e;simp only [World.cell?,hh];simpa using e
   ·rw [if_neg f]at e;cases e
  refine⟨g,cap,hv,key _ _ ?_,key _ _ ?_⟩
  ·rw [kE,List.getElem?_append_right (by rw [d];omega),d];simp
  ·rw [kE,List.getElem?_append_right (by rw [d];omega),d];simp
def Played(w:World)(n:Nat)(ps:Value)(o:Out)(e:Ending)(w':World):Prop:=
 ∃ b ab rb st,e= .returned (.pointer (some ⟨b,0,none⟩))/\RunAt w w' b ab rb n ps st o.st o.steps o.kind o.thread o.at_
theorem ms(w:World)(J:Option Addr)(K:Nat)(p:List (List Ins))(sv:Value)(c:List Int)(hp:vProg p=true)(hP:ProgAt w (.agg #[.slice J p.length K]) p)(hI:IntsAt w.heap.size w sv c)(h500:c.length<=1048576):
  Calls Tryz.prog 10 #[.agg #[.slice J p.length K],sv] w (Played w p.length (.slice J p.length K) (runS p c)):=by
 have hn:=iW hp;have P:=ij hP;have I:=ij hp;have HI:=ij hI;clear hp hP hI;go_enter Tryz.func10,Tryz.ntmps10
 go_upto_region 2 with fail
 go_cut [6] (fun pv w'=>∃ b u v x,pv= .pointer (some ⟨b,0,none⟩)/\RunAt w w' b u v p.length (.slice J p.length K) x St.zero [] 0 0 0)
 case first=>
  have hN:p.length=1\/p.length=2\/p.length=3\/p.length=4:=by omega
  clear P I;generalize p.length=n at*;obtain⟨hmA,hmB⟩:=Bu n hN;have n4:(n:Int)<=4:=by omega
  clear hN;go_region
  all_goals go_wp2
  all_goals go_meet
  ·first | exact⟨_,_,_,_,rfl,(pc w _ n _ _).like ⟨rfl,rfl,rfl,rfl⟩⟩ | exact⟨_,_,_,_,rfl,(pd w _ n _ _).like ⟨rfl,rfl,rfl,rfl⟩⟩
  ·first | exact⟨_,_,_,_,rfl,(pc w _ n _ _).like ⟨rfl,rfl,rfl,rfl⟩⟩ | exact⟨_,_,_,_,rfl,(pd w _ n _ _).like ⟨rfl,rfl,rfl,rfl⟩⟩
 case rest=>
  obtain⟨b,u,v,aW,rfl,aq⟩:=hcut;have aO:=ij aq;clear aq;obtain⟨so,sc,rfl,hsz,av⟩:=HI.out;have HC:=ij av;clear av HI;have q1:(c.length:Int)<=1048576:=by omega
  have q2:(p.length:Int)<=4:=by omega
  go_wp2_with fail
  go_loopw [7] (fun i w'=>∃ (k:Nat) (s:St) (m:List (Int × Int)) (x:Value),k<=c.length/\i= .int .i64 k/\Hid (m.length=k)/\Hid (RunAt w w' b u v p.length (.slice J p.length K) x s m 0 0 0)/\Hid (Inv p s)/\Hid (LkOk s)/\
   Hid (runS p c=follow p (c.drop k) k s m)) (fun i _=>c.length - (intOf i).toNat)
  case atStart=>exact⟨0,St.zero,[],aW,Nat.zero_le _,rfl,rfl,aO,Inv.zero p,LkOk.zero,rfl⟩
  case round=>
   obtain⟨k,s,m,x,hk,rfl,R,f,O,Z,B⟩:=hrel;obtain⟨w5,aC⟩:∃ w5,w5=wr:=⟨_,rfl⟩;rw [<-aC]at f ⊢;clear aC;by_cases Q:k<c.length
   ·obtain⟨gb,go,rfl,hgb,hc⟩:=HC.out k Q;have aa:=ip f.out.frame _ _ hc;clear hc;have l:Hid (c.drop k=c[k]::c.drop (k+1)):=List.drop_eq_getElem_cons Q;generalize c[k]=t at*;have hk0:(0:Int)<=(k:Int):=by omega
    have aS:(k:Int)<c.length:=by omega
    obtain⟨_,C,D,E,F,G,H⟩:=f.out.vcells;by_cases au:0<=t
    ·by_cases aR:t<p.length
     ·obtain⟨a,rfl⟩:=Int.eq_ofNat_of_zero_le au;have X:a<p.length:=by omega
      go_wp2_with fail
      refine(uZ I.out P.out f.out O.out Z.out X).mono ?_;rintro e w6 ⟨rfl,ac⟩;have T:=ij (f.out.grown ac);replace aa:=ip ac _ _ aa;clear ac C D E F G H f;obtain⟨_,C,D,E,F,G,H⟩:=T.out.vcells;cases hrd:readyB p s a
      ·have q:Hid (runS p c=⟨m,2,0,k,s⟩):=by
        unfold Hid;rw [B.out,l.out];exact jh _ _ _ _ _ _ (by simp [okAt,hrd])
       clear hrd;go_wp2_with fail
       go_ret;rw [q.out];exact⟨b,u,v,x,rfl,T.out.verdict 2 0 k⟩
      ·have HK:Hid (okAt p s a=true):=by
        unfold Hid okAt belowB;simp [hrd,X]
       have aj:Hid (doneB p s a=false):=by
        unfold Hid;cases hd:doneB p s a with
        | false=>rfl
        | true=>simp [readyB,hd]at hrd
       clear hrd C D E F G H;go_wp2_with fail
       refine(BT I.out P.out T.out O.out X aj.out (by rw [R.out];omega)).mono ?_;rintro e z ⟨aV,rfl,ar⟩;have y:=ij ar;clear ar T aa;cases hstp:(stepS p s a).1
       ·have q:Hid (runS p c=⟨m++[((a:Int),s.next a)],1,a,s.next a,(stepS p s a).2⟩):=by
         unfold Hid;rw [B.out,l.out];exact kk _ _ _ _ _ _ HK.out (by simpa using hstp)
        clear hstp;obtain⟨lg,lc,rfl,l1,l2⟩:=y.out.last;obtain⟨aQ,C,D,E,F,G,H⟩:=y.out.vcells;have aN:Hid (m.length<1048576):=by unfold Hid;rw [R.out];omega
        generalize aB:m.length=L at*;have HGL:=ij aB;clear aB;have hL:(L:Int)<1048576:=by have:=aN.out;omega
        go_wp2_with fail
        go_region
        have N:z.grownBy (z.alloc (.cells #[.int .i64 a,.int .i64 (s.next a)] 76)).drew none:=iy (iq (ir _ _));have V:(z.alloc (.cells #[.int .i64 a,.int .i64 (s.next a)] 76)).drew.heap[z.heap.size]?=some (.cells #[.int .i64 a,.int .i64 (s.next a)] 76 (0,0)):=heap_alloc_new z _;generalize (z.alloc (.cells #[.int .i64 a,.int .i64 (s.next a)] 76)).drew=w8 at N V ⊢;have U:=ij (y.out.grown N);have z0:w8.cell? ⟨z.heap.size,0,none⟩=some (.int .i64 a):=by simp [World.cell?,V]
        have z1:w8.cell? ⟨z.heap.size,1,none⟩=some (.int .i64 (s.next a)):=by simp [World.cell?,V]
        clear N V aQ C D E F G H l1 l2 y;obtain⟨_,C,D,E,F,G,H⟩:=U.out.vcells;go_wp2
        go_ret;rw [q.out];exact⟨b,u,v,_,rfl,U.out.verdict 1 a (s.next a)⟩
       ·have aK:Hid (runS p c=follow p (c.drop (k+1)) ((k+1:Nat):Int) (stepS p s a).2 (m++[((a:Int),s.next a)])):=by
         unfold Hid;rw [B.out,l.out,kS _ _ _ _ _ _ HK.out (by simpa using hstp)];simp
        have aL:=ij (O.out.step I.out X aj.out);have aM:=ij (Z.out.step p a);have aF:Hid ((m++[((a:Int),s.next a)]).length=k+1):=by unfold Hid;rw [List.length_append,R.out];rfl
        clear hstp;go_wp2_with fail
        go_roundw
        case rel=>exact⟨k+1,_,_,aV,by omega,by go_num,aF,y,aL,aM,aK⟩
        case measure=>simp [intOf];omega
     ·have hb1':(p.length:Int)<=t:=by omega
      have q:Hid (runS p c=⟨m,2,0,k,s⟩):=by
       unfold Hid;rw [B.out,l.out];exact jh _ _ _ _ _ _ (by simp [okAt,belowB,aR])
      go_wp2_with fail
      go_ret;rw [q.out];exact⟨b,u,v,x,rfl,f.out.verdict 2 0 k⟩
    ·have hb0':t<0:=by omega
     have q:Hid (runS p c=⟨m,2,0,k,s⟩):=by
      unfold Hid;rw [B.out,l.out];exact jh _ _ _ _ _ _ (by simp [okAt,belowB,au])
     go_wp2_with fail
     go_ret;rw [q.out];exact⟨b,u,v,x,rfl,f.out.verdict 2 0 k⟩
   ·have q:Hid (runS p c=⟨m,endingS p s,0,0,s⟩):=by
     unfold Hid;rw [B.out,List.drop_eq_nil_of_le (by omega)];rfl
    have aS:(c.length:Int)<=(k:Int):=by omega
    clear B R HC;go_wp2_with fail
    go_loopw [11,12,13] (fun dv rv tv w'=>∃ t d r:Nat,t<=p.length/\dv= .int .i64 d/\rv= .int .i64 r/\tv= .int .i64 t/\d<=t/\r<=t/\Hid (d=t↔∀ j,j<t->doneB p s j=true)/\Hid (r=0↔∀ j,j<t->readyB p s j=false)/\
     Hid (RunAt w w' b u v p.length (.slice J p.length K) x s m 0 0 0)) (fun _ _ tv _=>p.length - (intOf tv).toNat)
    case atStart=>exact⟨0,0,0,Nat.zero_le _,rfl,rfl,rfl,Nat.le_refl _,Nat.le_refl _,⟨fun _ j h=>absurd h (by omega),fun _=>rfl⟩,⟨fun _ j h=>absurd h (by omega),fun _=>rfl⟩,f⟩
    case round=>
     clear f;obtain⟨t,d,r,ht,rfl,rfl,rfl,hd,hr,l,A,f⟩:=hrel;obtain⟨w6,aD⟩:∃ w6,w6=wr:=⟨_,rfl⟩;rw [<-aD]at f ⊢;clear aD;by_cases Q:t<p.length
     ·have t0:(0:Int)<=(t:Int):=by omega
      have Y:(t:Int)<p.length:=by omega
      have d1:(d:Int)<=4:=by omega
      have r1:(r:Int)<=4:=by omega
      go_wp2_with fail
      refine(BQ I.out P.out f.out O.out Q).mono ?_;rintro e z ⟨rfl,aA⟩;have y:=ij (f.out.grown aA);clear aA f;go_wp2_with fail
      refine(uZ I.out P.out y.out O.out Z.out Q).mono ?_;rintro e w8 ⟨rfl,N⟩;have U:=ij (y.out.grown N);clear N y;have aG:Hid ((if doneB p s t=true then d+1 else d)=t+1↔∀ j,j<t+1->doneB p s j=true):=by
       unfold Hid;cases e:doneB p s t
       ·simp only [Bool.false_eq_true,if_false];constructor
        ·intro h;omega
        ·intro h;have:=h t (by omega);rw [e]at this;cases this
       ·simp only [if_true];constructor
        ·intro h j o;by_cases ad:j=t
         ·rw [ad];exact e
         ·exact l.out.1 (by omega) j (by omega)
        ·intro h;have:=l.out.2 (fun j o=>h j (by omega));omega
      have aP:Hid ((if readyB p s t=true then r+1 else r)=0↔∀ j,j<t+1->readyB p s j=false):=by
       unfold Hid;cases e:readyB p s t
       ·simp only [Bool.false_eq_true,if_false];constructor
        ·intro h j o;by_cases ad:j=t
         ·rw [ad];exact e
         ·exact A.out.1 h j (by omega)
        ·intro h;exact A.out.2 (fun j o=>h j (by omega))
       ·simp only [if_true];constructor
        ·intro h;omega
        ·intro h;have:=h t (by omega);rw [e]at this;cases this
      clear l A;generalize doneB p s t=db at*;generalize readyB p s t=rb' at*;cases db<;>cases rb'
      all_goals
       go_wp2_with fail
       go_roundw
       case rel=>exact⟨t+1,_,_,by omega,by go_num,by go_num,by go_num,by simp<;>omega,by simp<;>omega,aG,aP,U⟩
       case measure=>simp [intOf];omega
     ·have Y:(p.length:Int)<=(t:Int):=by omega
      obtain⟨_,C,D,E,F,G,H⟩:=f.out.vcells;obtain rfl:t=p.length:=by omega
      by_cases W:r=0
      ·have ae:=A.out.1 W;have S:=ij (oC ae);subst W;by_cases M:d=p.length
       ·have ax:=l.out.1 M;have aH:Hid (endingS p s=3):=by
         unfold Hid;rw [S.out,endTo,if_pos];rw [List.all_eq_true];intro j o;exact ax j (by simpa using o)
        have ay:((d:Int)==(p.length:Int))=true:=by simp;omega
        clear ae ax l A S M Y;go_wp2_with fail
        go_ret;rw [q.out,aH.out];exact⟨b,u,v,x,rfl,((f.out.kind 5).kind 4).kind 3⟩
       ·have aI:Hid (endingS p s=4):=by
         unfold Hid;rw [S.out,endTo,if_neg];intro h;rw [List.all_eq_true]at h;exact M (l.out.2 (fun j o=>h j (by simpa using o)))
        have ay:((d:Int)==(p.length:Int))=false:=by simp;omega
        clear ae l A S M Y;go_wp2_with fail
        go_ret;rw [q.out,aI.out];exact⟨b,u,v,x,rfl,(f.out.kind 5).kind 4⟩
      ·obtain⟨j,o,ag⟩:∃ j,j<p.length/\readyB p s j=true:=by
        by_cases az:∃ j,j<p.length/\readyB p s j=true
        ·exact az
        ·exfalso
         refine W (A.out.2 (fun j o=>?_));cases e:readyB p s j
         ·rfl
         ·exact absurd ⟨j,o,e⟩ az
       have aJ:=ij (nI o ag);have M:d≠p.length:=fun e=>by
        have:=l.out.1 e j o;simp [readyB,this]at ag
       have ay:((d:Int)==(p.length:Int))=false:=by simp;omega
       have hrb:((r:Int)==0)=false:=by simp;omega
       clear l A M W o ag Y;go_wp2_with fail
       go_ret;rw [q.out,aJ.out];exact⟨b,u,v,x,rfl,f.out.kind 5⟩
theorem RunAt.regRow{w0 w:World}{b ab rb n:Nat}{ps st:Value}{s:St}{acc:List (Int × Int)}{k th a:Int}(h:RunAt w0 w b ab rb n ps st s acc k th a)(hn:n<=4):
  w.ownsRow w0.heap.size 28 4 (.slice (some ⟨rb,0,none⟩) n n) n (regsF n s):=
 ⟨jg n s,Or.inr ⟨rb,n,(regsF n s).toArray,rfl,h.rb0,h.regs,Nat.le_refl _,by unfold maxLen;omega,by simp [jg],by rw [<-jg n s];simp⟩⟩
theorem sT(p:List (List Ins))(s:List Int)(pv sv:Value)(w:World)(H:ProgAt w pv p)(G:IntsAt w.heap.size w sv s)(aj:p.length<=5864062014634)(Z:∀ c∈p,c.length<=4398046510976):
  Calls Tryz.prog 22 #[pv,sv] w (Replayed p s w):=by
 have K:=ij H;have HI:=ij G;have ah:=ij Z;obtain⟨D,E,rfl⟩:=H.form;obtain⟨so,sc,rfl⟩:=G.form;clear H G Z;go_enter Tryz.func22,Tryz.ntmps22
 go_wp2_with fail
 have Y:∀ a b,w.grownBy ((w.alloc a).alloc b) none:=fun a b=>iq (iq (ir _ _))
 refine(kd p _ _ (K.out.pres (ip (Y _ _))) aj ah.out).mono ?_;rintro e j ⟨rfl,n⟩;have k:Hid (w.grownBy j none):=il (Y _ _) n;have hsz1:w.heap.size+2<=j.heap.size:=by have:=n.size;simpa using this
 have X:j.heap[w.heap.size]?=some (.cells #[.slice D p.length E] 37 (0,0)):=by
  rw [n.block w.heap.size (by simp;omega) (by simp),Below.heap_alloc _ _ _ (by simp)];exact heap_alloc_new w _
 have I:j.heap[w.heap.size+1]?=some (.cells #[.int .i64 0,.int .i64 0,.int .i64 0,.slice none 0 0,.int .i64 0,.int .i64 0,.int .i64 0,.int .i64 0,.slice none 0 0] 31 (0,0)):=by
  rw [n.block (w.heap.size+1) (by simp) (by simp)];have:=heap_alloc_new (w.alloc (.cells #[.slice D p.length E] 37)) (.cells #[.int .i64 0,.int .i64 0,.int .i64 0,.slice none 0 0,.int .i64 0,.int .i64 0,.int .i64 0,.int .i64 0,.slice none 0 0] 31);simpa using this
 have ad:=ij I;have c0:j.cell? ⟨w.heap.size,0,none⟩=some (.slice D p.length E):=by simp [World.cell?,X]
 clear X n;obtain⟨q,t,u,x,y,z,A,B,C,d⟩:=jl I;have N:=d 0;have f1:=d 1;have O:=d 2;have P:=d 3;have Q:=d 4;have R:=d 5;have S:=d 6;have T:=d 7;have U:=d 8;clear d I;by_cases i:vProg p=true
 ·have m:checkN p=0:=by simp [checkN,i]
  have F:=ij i;have hlen:=iW i;rw [m];clear m i;by_cases V:s.length<=500
  ·have ai:(s.length:Int)<=500:=by omega
   have h:Hid (checkRunN p s=0):=by unfold Hid checkRunN;simp [F.out,V]
   go_wp2_with fail
   have L:=ij (ms j D E p _ s F.out (K.out.pres (ip k.out)) ((HI.out.pres (ip k.out)).mono k.out.size) (by omega));refine(kI L).mono ?_;clear L q t u x y z A B C N f1 O P Q R S T U;rintro e J ⟨b,ab,rb,st,rfl,f⟩;obtain⟨x1,x2,x3,rfl⟩:=iw f.row;have M:=ij f;have ae:Hid (w.grownBy J none):=il k.out f.frame;have aa:J.heap[w.heap.size+1]?=some (.cells #[.int .i64 0,.int .i64 0,.int .i64 0,.slice none 0 0,.int .i64 0,.int .i64 0,.int .i64 0,.int .i64 0,.slice none 0 0] 31 (0,0)):=by
    rw [f.frame.block _ (by omega) (by simp)];exact ad.out
   obtain⟨c10,c11,c12,c13,_,_,_⟩:=f.vcells;have v0:=f.var (l:=0) (by omega);have v1:=f.var (l:=1) (by omega);have v2:=f.var (l:=2) (by omega);have v3:=f.var (l:=3) (by omega);have c2:J.cell? ⟨b,2,none⟩=some (.slice (some ⟨rb,0,none⟩) p.length p.length):=(f.cell 2).1;obtain⟨q,t,u,x,y,z,A,B,C,d⟩:=jl aa;have N:=d 0;have f1:=d 1;have O:=d 2;have P:=d 3;have Q:=d 4;have R:=d 5;have S:=d 6;have T:=d 7;have U:=d 8;have hab:=f.ab0;have habb:=f.abb;have hbw:b≠w.heap.size+1:=by omega
   have hbw':w.heap.size+1≠b:=by omega
   clear d aa f c0;generalize W:runS p s=o at*;have ag:=ij W;clear W;go_wp2_with fail
   go_region
   go_wp2
   refine bodyPost_ret (v:= .tuple #[.agg #[.int .i64 o.kind,.int .i64 o.thread,.int .i64 o.at_,.slice x1 x2 x3,.int .i64 (o.st.vars 0),.int .i64 (o.st.vars 1),.int .i64 (o.st.vars 2),.int .i64 (o.st.vars 3),.slice (some ⟨rb,0,none⟩) p.length p.length],.int .i64 0]) ?_ rfl ⟨?_,Or.inl ⟨h.out,_,rfl,?_⟩⟩
   ·simp [results,Tryz.results22,go_sem,q,t,u,x,y,z,A,B,C]
   ·refine iy ?_;iterate 9 refine iD ?_ (by omega)
    exact ae.out
   ·rw [ag.out];refine⟨_,_,rfl,?_,?_⟩
    ·refine iK (base:=b+1) ?_ (by omega);refine iC (r:=none) ?_ (iy (ir _ _)) (fun _ e=>by cases e);iterate 9 refine ownsRow_setCell_below ?_ (by simp;omega) _
     exact M.out.row
    ·refine iK (base:=j.heap.size) ?_ (by omega);refine iC (r:=none) ?_ (iy (ir _ _)) (fun _ e=>by cases e);iterate 9 refine ownsRow_setCell_below ?_ (by simp;omega) _
     exact M.out.regRow (by omega)
  ·have ai:(500:Int)<s.length:=by omega
   have h:Hid (checkRunN p s=2):=by unfold Hid checkRunN;simp [F.out,V]
   go_wp2_with fail
   refine bodyPost_ret (v:= .tuple #[.agg #[.int .i64 0,.int .i64 0,.int .i64 0,.slice none 0 0,.int .i64 0,.int .i64 0,.int .i64 0,.int .i64 0,.slice none 0 0],.int .i64 2]) ?_ rfl ⟨?_,Or.inr ⟨by rw [h.out];decide,by rw [h.out]⟩⟩
   ·simp [results,Tryz.results22,go_sem,q,t,u,x,y,z,A,B,C]
   ·iterate 9 refine iD ?_ (by omega)
    exact k.out
 ·have m:checkN p=1:=by simp [checkN,i]
  have h:Hid (checkRunN p s=1):=by unfold Hid checkRunN;simp [i]
  rw [m];clear m i;go_wp2_with fail
  refine bodyPost_ret (v:= .tuple #[.agg #[.int .i64 0,.int .i64 0,.int .i64 0,.slice none 0 0,.int .i64 0,.int .i64 0,.int .i64 0,.int .i64 0,.slice none 0 0],.int .i64 1]) ?_ rfl ⟨?_,Or.inr ⟨by rw [h.out];decide,by rw [h.out]⟩⟩
  ·simp [results,Tryz.results22,go_sem,q,t,u,x,y,z,A,B,C]
  ·iterate 9 refine iD ?_ (by omega)
   exact k.out
end
end Go.Proofs.YtklenjmfalljgabGreatDoor
