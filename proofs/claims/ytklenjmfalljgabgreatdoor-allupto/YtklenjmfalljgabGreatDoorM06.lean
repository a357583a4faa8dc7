/- The texts Rfg Rfh Ask Rdp Rfm Rfo. -/
import Derived.Test.YtklenjmfalljgabGreatDoorM02
import Derived.Test.YtklenjmfalljgabGreatDoorM03
import Derived.Test.YtklenjmfalljgabGreatDoorM04
import Derived.Test.YtklenjmfalljgabGreatDoorM05
namespace Go.Proofs.YtklenjmfalljgabGreatDoor
set_option maxRecDepth 100000
set_option maxHeartbeats 8000000
section
open Go.RowKit
attribute [local go_sem] Go.World.cell?_alloc_some
def Played(w:World)(n:Nat)(ps:Value)(o:Out)(e:Ending)(w':World):Prop:=
 ∃ b ab rb st,e= .returned (.pointer (some ⟨b,0,none⟩))/\RunAt w w' b ab rb n ps st o.st o.steps o.kind o.thread o.at_
theorem ms(w:World)(J:Option Addr)(K:Nat)(p:List (List Ins))(sv:Value)(c:List Int)(hp:vProg p=true)(hP:ProgAt w (.agg #[.slice J p.length K]) p)(hI:IntsAt w.heap.size w sv c)(h500:c.length<=1048576):
  Calls Tryz.prog 10 #[.agg #[.slice J p.length K],sv] w (Played w p.length (.slice J p.length K) (runS p c)):=by
 have hn:=iW hp;have P:=ij hP;have I:=ij hp;have HI:=ij hI;clear hp hP hI;go_enter Tryz.func10,Tryz.ntmps10
 go_upto_region 2 with fail
 go_cut [6] (fun pv w'=>∃ b u v x,pv= .pointer (some ⟨b,0,none⟩)/\RunAt w w' b u v p.length (.slice J p.length K) x St.zero [] 0 0 0)
 case first=>
  have hN:p.length=1\/p.length=2\/p.length=3\/p.length=4:=by omega
  clear P I;generalize p.length=n at*;obtain⟨hmA,hmB⟩:=Bu n hN;have n4:(n:Int)<=4:=by omega
  clear hN;go_region
  all_goals go_wp2
  all_goals go_meet
  ·first | exact⟨_,_,_,_,rfl,(pc w _ n _ _).like ⟨rfl,rfl,rfl,rfl⟩⟩ | exact⟨_,_,_,_,rfl,(pd w _ n _ _).like ⟨rfl,rfl,rfl,rfl⟩⟩
  ·first | exact⟨_,_,_,_,rfl,(pc w _ n _ _).like ⟨rfl,rfl,rfl,rfl⟩⟩ | exact⟨_,_,_,_,rfl,(pd w _ n _ _).like ⟨rfl,rfl,rfl,rfl⟩⟩
 case rest=>
  obtain⟨b,u,v,aW,rfl,aq⟩:=hcut;have aO:=ij aq;clear aq;obtain⟨so,sc,rfl,hsz,av⟩:=HI.out;have HC:=ij av;clear av HI;have q1:(c.length:Int)<=1048576:=by omega
  have q2:(p.length:Int)<=4:=by omega
  go_wp2_with fail
  go_loopw [7] (fun i w'=>∃ (k:Nat) (s:St) (m:List (Int × Int)) (x:Value),k<=c.length/\i= .int .i64 k/\Hid (m.length=k)/\Hid (RunAt w w' b u v p.length (.slice J p.length K) x s m 0 0 0)/\Hid (Inv p s)/\Hid (LkOk s)/\
   Hid (runS p c=follow p (c.drop k) k s m)) (fun i _=>c.length - (intOf i).toNat)
  case atStart=>exact⟨0,St.zero,[],aW,Nat.zero_le _,rfl,rfl,aO,Inv.zero p,LkOk.zero,rfl⟩
  case round=>
   obtain⟨k,s,m,x,hk,rfl,R,f,O,Z,B⟩:=hrel;obtain⟨w5,aC⟩:∃ w5,w5=wr:=⟨_,rfl⟩;rw [<-aC]at f ⊢;clear aC;by_cases Q:k<c.length
   ·obtain⟨gb,go,rfl,hgb,hc⟩:=HC.out k Q;have aa:=ip f.out.frame _ _ hc;clear hc;have l:Hid (c.drop k=c[k]::c.drop (k+1)):=List.drop_eq_getElem_cons Q;generalize c[k]=t at*;have hk0:(0:Int)<=(k:Int):=by omega
    have aS:(k:Int)<c.length:=by omega
    obtain⟨_,C,D,E,F,G,H⟩:=f.out.vcells;by_cases au:0<=t
    ·by_cases aR:t<p.length
     ·obtain⟨a,rfl⟩:=Int.eq_ofNat_of_zero_le au;have X:a<p.length:=by omega
      go_wp2_with fail
      refine(uZ I.out P.out f.out O.out Z.out X).mono ?_;rintro e w6 ⟨rfl,ac⟩;have T:=ij (f.out.grown ac);replace aa:=ip ac _ _ aa;clear ac C D E F G H f;obtain⟨_,C,D,E,F,G,H⟩:=T.out.vcells;cases hrd:readyB p s a
      ·have q:Hid (runS p c=⟨m,2,0,k,s⟩):=by
        unfold Hid;rw [B.out,l.out];exact jh _ _ _ _ _ _ (by simp [okAt,hrd])
       clear hrd;go_wp2_with fail
       go_ret;rw [q.out];exact⟨b,u,v,x,rfl,T.out.verdict 2 0 k⟩
      ·have HK:Hid (okAt p s a=true):=by
        unfold Hid okAt belowB;simp [hrd,X]
       have aj:Hid (doneB p s a=false):=by
        unfold Hid;cases hd:doneB p s a with
        | false=>rfl
        | true=>simp [readyB,hd]at hrd
       clear hrd C D E F G H;go_wp2_with fail
       refine(BT I.out P.out T.out O.out X aj.out (by rw [R.out];omega)).mono ?_;rintro e z ⟨aV,rfl,ar⟩;have y:=ij ar;clear ar T aa;cases hstp:(stepS p s a).1
       ·have q:Hid (runS p c=⟨m++[((a:Int),s.next a)],1,a,s.next a,(stepS p s a).2⟩):=by
         unfold Hid;rw [B.out,l.out];exact kk _ _ _ _ _ _ HK.out (by simpa using hstp)
        clear hstp;obtain⟨lg,lc,rfl,l1,l2⟩:=y.out.last;obtain⟨aQ,C,D,E,F,G,H⟩:=y.out.vcells;have aN:Hid (m.length<1048576):=by unfold Hid;rw [R.out];omega
        generalize aB:m.length=L at*;have HGL:=ij aB;clear aB;have hL:(L:Int)<1048576:=by have:=aN.out;omega
        go_wp2_with fail
        go_region
        have N:z.grownBy (z.alloc (.cells #[.int .i64 a,.int .i64 (s.next a)] 76)).drew none:=iy (iq (ir _ _));have V:(z.alloc (.cells #[.int .i64 a,.int .i64 (s.next a)] 76)).drew.heap[z.heap.size]?=some (.cells #[.int .i64 a,.int .i64 (s.next a)] 76 (0,0)):=heap_alloc_new z _;generalize (z.alloc (.cells #[.int .i64 a,.int .i64 (s.next a)] 76)).drew=w8 at N V ⊢;have U:=ij (y.out.grown N);have z0:w8.cell? ⟨z.heap.size,0,none⟩=some (.int .i64 a):=by simp [World.cell?,V]
        have z1:w8.cell? ⟨z.heap.size,1,none⟩=some (.int .i64 (s.next a)):=by simp [World.cell?,V]
        clear N V aQ C D E F G H l1 l2 y;obtain⟨_,C,D,E,F,G,H⟩:=U.out.vcells;go_wp2
        go_ret;rw [q.out];exact⟨b,u,v,_,rfl,U.out.verdict 1 a (s.next a)⟩
       ·have aK:Hid (runS p c=follow p (c.drop (k+1)) ((k+1:Nat):Int) (stepS p s a).2 (m++[((a:Int),s.next a)])):=by
         unfold Hid;rw [B.out,l.out,kS _ _ _ _ _ _ HK.out (by simpa using hstp)];simp
        have aL:=ij (O.out.step I.out X aj.out);have aM:=ij (Z.out.step p a);have aF:Hid ((m++[((a:Int),s.next a)]).length=k+1):=by unfold Hid;rw [List.length_append,R.out];rfl
        clear hstp;go_wp2_with fail
        go_roundw
        case rel=>exact⟨k+1,_,_,aV,by omega,by go_num,aF,y,aL,aM,aK⟩
        case measure=>simp [intOf];omega
     ·have hb1':(p.length:Int)<=t:=by omega
      have q:Hid (runS p c=⟨m,2,0,k,s⟩):=by
       unfold Hid;rw [B.out,l.out];exact jh _ _ _ _ _ _ (by simp [okAt,belowB,aR])
      go_wp2_with fail
      go_ret;rw [q.out];exact⟨b,u,v,x,rfl,f.out.verdict 2 0 k⟩
    ·have hb0':t<0:=by omega
     have q:Hid (runS p c=⟨m,2,0,k,s⟩):=by
      unfold Hid;rw [B.out,l.out];exact jh _ _ _ _ _ _ (by simp [okAt,belowB,au])
     go_wp2_with fail
     go_ret;rw [q.out];exact⟨b,u,v,x,rfl,f.out.verdict 2 0 k⟩
   ·have q:Hid (runS p c=⟨m,endingS p s,0,0,s⟩):=by
     unfold Hid;rw [B.out,List.drop_eq_nil_of_le (by omega)];rfl
    have aS:(c.length:Int)<=(k:Int):=by omega
    clear B R HC;go_wp2_with fail
    go_loopw [11,12,13] (fun dv rv tv w'=>∃ t d r:Nat,t<=p.length/\dv= .int .i64 d/\rv= .int .i64 r/\tv= .int .i64 t/\d<=t/\r<=t/\Hid (d=t↔∀ j,j<t->doneB p s j=true)/\Hid (r=0↔∀ j,j<t->readyB p s j=false)/\
     Hid (RunAt w w' b u v p.length (.slice J p.length K) x s m 0 0 0)) (fun _ _ tv _=>p.length - (intOf tv).toNat)
    case atStart=>exact⟨0,0,0,Nat.zero_le _,rfl,rfl,rfl,Nat.le_refl _,Nat.le_refl _,⟨fun _ j h=>absurd h (by omega),fun _=>rfl⟩,⟨fun _ j h=>absurd h (by omega),fun _=>rfl⟩,f⟩
    case round=>
     clear f;obtain⟨t,d,r,ht,rfl,rfl,rfl,hd,hr,l,A,f⟩:=hrel;obtain⟨w6,aD⟩:∃ w6,w6=wr:=⟨_,rfl⟩;rw [<-aD]at f ⊢;clear aD;by_cases Q:t<p.length
     ·have t0:(0:Int)<=(t:Int):=by omega
      have Y:(t:Int)<p.length:=by omega
      have d1:(d:Int)<=4:=by omega
      have r1:(r:Int)<=4:=by omega
      go_wp2_with fail
      refine(BQ I.out P.out f.out O.out Q).mono ?_;rintro e z ⟨rfl,aA⟩;have y:=ij (f.out.grown aA);clear aA f;go_wp2_with fail
      refine(uZ I.out P.out y.out O.out Z.out Q).mono ?_;rintro e w8 ⟨rfl,N⟩;have U:=ij (y.out.grown N);clear N y;have aG:Hid ((if doneB p s t=true then d+1 else d)=t+1↔∀ j,j<t+1->doneB p s j=true):=by
       unfold Hid;cases e:doneB p s t
       ·simp only [Bool.false_eq_true,if_false];constructor
        ·intro h;omega
        ·intro h;have:=h t (by omega);rw [e]at this;cases this
       ·simp only [if_true];constructor
        ·intro h j o;by_cases ad:j=t
         ·rw [ad];exact e
         ·exact l.out.1 (by omega) j (by omega)
        ·intro h;have:=l.out.2 (fun j o=>h j (by omega));omega
      have aP:Hid ((if readyB p s t=true then r+1 else r)=0↔∀ j,j<t+1->readyB p s j=false):=by
       unfold Hid;cases e:readyB p s t
       ·simp only [Bool.false_eq_true,if_false];constructor
        ·intro h j o;by_cases ad:j=t
         ·rw [ad];exact e
         ·exact A.out.1 h j (by omega)
        ·intro h;exact A.out.2 (fun j o=>h j (by omega))
       ·simp only [if_true];constructor
        ·intro h;omega
        ·intro h;have:=h t (by omega);rw [e]at this;cases this
      clear l A;generalize doneB p s t=db at*;generalize readyB p s t=rb' at*;cases db<;>cases rb'
      all_goals
       go_wp2_with fail
       go_roundw
       case rel=>exact⟨t+1,_,_,by omega,by go_num,by go_num,by go_num,by simp<;>omega,by simp<;>omega,aG,aP,U⟩
       case measure=>simp [intOf];omega
     ·have Y:(p.length:Int)<=(t:Int):=by omega
      obtain⟨_,C,D,E,F,G,H⟩:=f.out.vcells;obtain rfl:t=p.length:=by omega
      by_cases W:r=0
      ·have ae:=A.out.1 W;have S:=ij (oC ae);subst W;by_cases M:d=p.length
       ·have ax:=l.out.1 M;have aH:Hid (endingS p s=3):=by
         unfold Hid;rw [S.out,endTo,if_pos];rw [List.all_eq_true];intro j o;exact ax j (by simpa using o)
        have ay:((d:Int)==(p.length:Int))=true:=by simp;omega
        clear ae ax l A S M Y;go_wp2_with fail
        go_ret;rw [q.out,aH.out];exact⟨b,u,v,x,rfl,((f.out.kind 5).kind 4).kind 3⟩
       ·have aI:Hid (endingS p s=4):=by
         unfold Hid;rw [S.out,endTo,if_neg];intro h;rw [List.all_eq_true]at h;exact M (l.out.2 (fun j o=>h j (by simpa using o)))
        have ay:((d:Int)==(p.length:Int))=false:=by simp;omega
        clear ae l A S M Y;go_wp2_with fail
        go_ret;rw [q.out,aI.out];exact⟨b,u,v,x,rfl,(f.out.kind 5).kind 4⟩
      ·obtain⟨j,o,ag⟩:∃ j,j<p.length/\readyB p s j=true:=by
        by_cases az:∃ j,j<p.length/\readyB p s j=true
        ·exact az
        ·exfalso
         refine W (A.out.2 (fun j o=>?_));cases e:readyB p s j
         ·rfl
         ·exact absurd ⟨j,o,e⟩ az
       have aJ:=ij (nI o ag);have M:d≠p.length:=fun e=>by
        have:=l.out.1 e j o;simp [readyB,this]at ag
       have ay:((d:Int)==(p.length:Int))=false:=by simp;omega
       have hrb:((r:Int)==0)=false:=by simp;omega
       clear l A M W o ag Y;go_wp2_with fail
       go_ret;rw [q.out,aJ.out];exact⟨b,u,v,x,rfl,f.out.kind 5⟩
theorem RunAt.regRow{w0 w:World}{b ab rb n:Nat}{ps st:Value}{s:St}{acc:List (Int × Int)}{k th a:Int}(h:RunAt w0 w b ab rb n ps st s acc k th a)(hn:n<=4):
  w.ownsRow w0.heap.size 28 4 (.slice (some ⟨rb,0,none⟩) n n) n (regsF n s):=
 ⟨jg n s,Or.inr ⟨rb,n,(regsF n s).toArray,rfl,h.rb0,h.regs,Nat.le_refl _,by unfold maxLen;omega,by simp [jg],by rw [<-jg n s];simp⟩⟩
theorem sT(p:List (List Ins))(s:List Int)(pv sv:Value)(w:World)(H:ProgAt w pv p)(G:IntsAt w.heap.size w sv s)(aj:p.length<=5864062014634)(Z:∀ c∈p,c.length<=4398046510976):
  Calls Tryz.prog 22 #[pv,sv] w (Replayed p s w):=by
 have K:=ij H;have HI:=ij G;have ah:=ij Z;obtain⟨D,E,rfl⟩:=H.form;obtain⟨so,sc,rfl⟩:=G.form;clear H G Z;go_enter Tryz.func22,Tryz.ntmps22
 go_wp2_with fail
 have Y:∀ a b,w.grownBy ((w.alloc a).alloc b) none:=fun a b=>iq (iq (ir _ _))
 refine(kd p _ _ (K.out.pres (ip (Y _ _))) aj ah.out).mono ?_;rintro e j ⟨rfl,n⟩;have k:Hid (w.grownBy j none):=il (Y _ _) n;have hsz1:w.heap.size+2<=j.heap.size:=by have:=n.size;simpa using this
 have X:j.heap[w.heap.size]?=some (.cells #[.slice D p.length E] 37 (0,0)):=by
  rw [n.block w.heap.size (by simp;omega) (by simp),Below.heap_alloc _ _ _ (by simp)];exact heap_alloc_new w _
 have I:j.heap[w.heap.size+1]?=some (.cells #[.int .i64 0,.int .i64 0,.int .i64 0,.slice none 0 0,.int .i64 0,.int .i64 0,.int .i64 0,.int .i64 0,.slice none 0 0] 31 (0,0)):=by
  rw [n.block (w.heap.size+1) (by simp) (by simp)];have:=heap_alloc_new (w.alloc (.cells #[.slice D p.length E] 37)) (.cells #[.int .i64 0,.int .i64 0,.int .i64 0,.slice none 0 0,.int .i64 0,.int .i64 0,.int .i64 0,.int .i64 0,.slice none 0 0] 31);simpa using this
 have ad:=ij I;have c0:j.cell? ⟨w.heap.size,0,none⟩=some (.slice D p.length E):=by simp [World.cell?,X]
 clear X n;obtain⟨q,t,u,x,y,z,A,B,C,d⟩:=jl I;have N:=d 0;have f1:=d 1;have O:=d 2;have P:=d 3;have Q:=d 4;have R:=d 5;have S:=d 6;have T:=d 7;have U:=d 8;clear d I;by_cases i:vProg p=true
 ·have m:checkN p=0:=by simp [checkN,i]
  have F:=ij i;have hlen:=iW i;rw [m];clear m i;by_cases V:s.length<=500
  ·have ai:(s.length:Int)<=500:=by omega
   have h:Hid (checkRunN p s=0):=by unfold Hid checkRunN;simp [F.out,V]
   go_wp2_with fail
   have L:=ij (ms j D E p _ s F.out (K.out.pres (ip k.out)) ((HI.out.pres (ip k.out)).mono k.out.size) (by omega));refine(kI L).mono ?_;clear L q t u x y z A B C N f1 O P Q R S T U;rintro e J ⟨b,ab,rb,st,rfl,f⟩;obtain⟨x1,x2,x3,rfl⟩:=iw f.row;have M:=ij f;have ae:Hid (w.grownBy J none):=il k.out f.frame;have aa:J.heap[w.heap.size+1]?=some (.cells #[.int .i64 0,.int .i64 0,.int .i64 0,.slice none 0 0,.int .i64 0,.int .i64 0,.int .i64 0,.int .i64 0,.slice none 0 0] 31 (0,0)):=by
    rw [f.frame.block _ (by omega) (by simp)];exact ad.out
   obtain⟨c10,c11,c12,c13,_,_,_⟩:=f.vcells;have v0:=f.var (l:=0) (by omega);have v1:=f.var (l:=1) (by omega);have v2:=f.var (l:=2) (by omega);have v3:=f.var (l:=3) (by omega);have c2:J.cell? ⟨b,2,none⟩=some (.slice (some ⟨rb,0,none⟩) p.length p.length):=(f.cell 2).1;obtain⟨q,t,u,x,y,z,A,B,C,d⟩:=jl aa;have N:=d 0;have f1:=d 1;have O:=d 2;have P:=d 3;have Q:=d 4;have R:=d 5;have S:=d 6;have T:=d 7;have U:=d 8;have hab:=f.ab0;have habb:=f.abb;have hbw:b≠w.heap.size+1:=by omega
   have hbw':w.heap.size+1≠b:=by omega
   clear d aa f c0;generalize W:runS p s=o at*;have ag:=ij W;clear W;go_wp2_with fail
   go_region
   go_wp2
   refine bodyPost_ret (v:= .tuple #[.agg #[.int .i64 o.kind,.int .i64 o.thread,.int .i64 o.at_,.slice x1 x2 x3,.int .i64 (o.st.vars 0),.int .i64 (o.st.vars 1),.int .i64 (o.st.vars 2),.int .i64 (o.st.vars 3),.slice (some ⟨rb,0,none⟩) p.length p.length],.int .i64 0]) ?_ rfl ⟨?_,Or.inl ⟨h.out,_,rfl,?_⟩⟩
   ·simp [results,Tryz.results22,go_sem,q,t,u,x,y,z,A,B,C]
   ·refine iy ?_;iterate 9 refine iD ?_ (by omega)
    exact ae.out
   ·rw [ag.out];refine⟨_,_,rfl,?_,?_⟩
    ·refine iK (base:=b+1) ?_ (by omega);refine iC (r:=none) ?_ (iy (ir _ _)) (fun _ e=>by cases e);iterate 9 refine ownsRow_setCell_below ?_ (by simp;omega) _
     exact M.out.row
    ·refine iK (base:=j.heap.size) ?_ (by omega);refine iC (r:=none) ?_ (iy (ir _ _)) (fun _ e=>by cases e);iterate 9 refine ownsRow_setCell_below ?_ (by simp;omega) _
     exact M.out.regRow (by omega)
  ·have ai:(500:Int)<s.length:=by omega
   have h:Hid (checkRunN p s=2):=by unfold Hid checkRunN;simp [F.out,V]
   go_wp2_with fail
   refine bodyPost_ret (v:= .tuple #[.agg #[.int .i64 0,.int .i64 0,.int .i64 0,.slice none 0 0,.int .i64 0,.int .i64 0,.int .i64 0,.int .i64 0,.slice none 0 0],.int .i64 2]) ?_ rfl ⟨?_,Or.inr ⟨by rw [h.out];decide,by rw [h.out]⟩⟩
   ·simp [results,Tryz.results22,go_sem,q,t,u,x,y,z,A,B,C]
   ·iterate 9 refine iD ?_ (by omega)
    exact k.out
 ·have m:checkN p=1:=by simp [checkN,i]
  have h:Hid (checkRunN p s=1):=by unfold Hid checkRunN;simp [i]
  rw [m];clear m i;go_wp2_with fail
  refine bodyPost_ret (v:= .tuple #[.agg #[.int .i64 0,.int .i64 0,.int .i64 0,.slice none 0 0,.int .i64 0,.int .i64 0,.int .i64 0,.int .i64 0,.slice none 0 0],.int .i64 1]) ?_ rfl ⟨?_,Or.inr ⟨by rw [h.out];decide,by rw [h.out]⟩⟩
  ·simp [results,Tryz.results22,go_sem,q,t,u,x,y,z,A,B,C]
  ·iterate 9 refine iD ?_ (by omega)
   exact k.out
end
section
open Go.RowKit
attribute [local go_sem] Go.World.cell?_alloc_some nZ
theorem nu(n:Int)(w:World):Calls Tryz.prog 23 #[.int .i64 n] w fun e w'=>e= .returned (.int .i64 n)/\w'=w:=by
 go_enter Tryz.func23,Tryz.ntmps23
 go_wp2_with fail
 go_ret;exact⟨rfl,rfl⟩
def ResV(p:List (List Ins))(s:List Int)(B:Nat)(w:World)(rv:Value)(c:Int):Prop:=
 ∃ k t a v0 v1 v2 v3 x1 x3 y1 y3 m q,rv= .agg #[.int .i64 k,.int .i64 t,.int .i64 a,.slice x1 m x3,.int .i64 v0,.int .i64 v1,.int .i64 v2,.int .i64 v3,.slice y1 q y3]/\c=checkRunN p s/\
  ((c=0/\k=(runS p s).kind/\t=(runS p s).thread/\a=(runS p s).at_/\v0=(runS p s).st.vars 0/\v1=(runS p s).st.vars 1/\v2=(runS p s).st.vars 2/\v3=(runS p s).st.vars 3/\m=(runS p s).steps.length/\q=p.length/\
   w.ownsRow B 76 2 (.slice x1 m x3) (runS p s).steps.length (flatS (runS p s).steps)/\w.ownsRow B 28 4 (.slice y1 q y3) p.length (regsF p.length (runS p s).st))\/
   (c≠0/\k=0/\t=0/\a=0/\v0=0/\v1=0/\v2=0/\v3=0/\m=0/\q=0/\x1=none/\x3=0/\y1=none/\y3=0))
theorem qh{w:World}{base:Nat}{e:TypeId}{b:Nat}{a:Option Addr}{m c n:Nat}{xs:List Value}(h:w.ownsRow base e b (.slice a m c) n xs):m=n:=by
 rcases h.2 with ⟨e1,e2⟩ | ⟨g',cap',cur,hv,_⟩
 ·simp only [Value.slice.injEq]at e1;rw [e1.2.1];first | exact e2.symm | omega
 ·simp only [Value.slice.injEq]at hv;exact hv.2.1
theorem Replayed.form{p:List (List Ins)}{s:List Int}{w w':World}{e:Ending}(h:Replayed p s w e w'):w.grownBy w' none/\∃ rv c,e= .returned (.tuple #[rv,.int .i64 c])/\ResV p s w.heap.size w' rv c:=by
 obtain⟨a,h⟩:=h;refine⟨a,?_⟩;rcases h with ⟨h0,rv,rfl,sv,gv,rfl,h1,h2⟩ | ⟨h0,rfl⟩
 ·obtain⟨x1,m,x3,rfl⟩:=iw h1;obtain⟨y1,q,y3,rfl⟩:=iw h2;exact⟨_,_,rfl,_,_,_,_,_,_,_,_,_,_,_,_,_,rfl,h0.symm,Or.inl ⟨rfl,rfl,rfl,rfl,rfl,rfl,rfl,rfl,qh h1,qh h2,h1,h2⟩⟩
 ·exact⟨_,_,rfl,_,_,_,_,_,_,_,_,_,_,_,_,_,rfl,rfl,Or.inr ⟨h0,rfl,rfl,rfl,rfl,rfl,rfl,rfl,rfl,rfl,rfl,rfl,rfl,rfl⟩⟩
theorem ResV.same{p:List (List Ins)}{s:List Int}{B i:Nat}{w w':World}{rv f:Value}{c e:Int}(h:ResV p s B w rv c)(b:ResV p s i w' f e):
  c=e/\∃ k t a v0 v1 v2 v3 x1 x3 y1 y3 m q x1' x3' y1' y3',rv= .agg #[.int .i64 k,.int .i64 t,.int .i64 a,.slice x1 m x3,.int .i64 v0,.int .i64 v1,.int .i64 v2,.int .i64 v3,.slice y1 q y3]/\
   f= .agg #[.int .i64 k,.int .i64 t,.int .i64 a,.slice x1' m x3',.int .i64 v0,.int .i64 v1,.int .i64 v2,.int .i64 v3,.slice y1' q y3']:=by
 obtain⟨k,t,a,v0,v1,v2,v3,x1,x3,y1,y3,m,q,rfl,hc,h⟩:=h;obtain⟨k',t',a',v0',v1',v2',v3',x1',x3',y1',y3',m',q',rfl,d,b⟩:=b;refine⟨hc.trans d.symm,?_⟩;rcases h with ⟨h0,rfl,rfl,rfl,rfl,rfl,rfl,rfl,rfl,rfl,_⟩ | ⟨h0,rfl,rfl,rfl,rfl,rfl,rfl,rfl,rfl,rfl,_⟩
 ·rcases b with ⟨h0',rfl,rfl,rfl,rfl,rfl,rfl,rfl,rfl,rfl,_⟩ | ⟨h0',_⟩
  ·exact⟨_,_,_,_,_,_,_,_,_,_,_,_,_,_,_,_,_,rfl,rfl⟩
  ·exact absurd (d.trans (hc.symm.trans h0)) h0'
 ·rcases b with ⟨h0',_⟩ | ⟨h0',rfl,rfl,rfl,rfl,rfl,rfl,rfl,rfl,rfl,_⟩
  ·exact absurd (hc.trans (d.symm.trans h0')) h0
  ·exact⟨_,_,_,_,_,_,_,_,_,_,_,_,_,_,_,_,_,rfl,rfl⟩
end
section
open Go.RowKit
attribute [local go_sem] Go.World.cell?_alloc_some
def depR(i j:Ins):Bool:=
 if (i.op=9\/i.op=10)/\(j.op=9\/j.op=10) then i.a==j.a
 else if i.op=3/\j.op=3 then i.a==j.a
 else if i.op=3/\j.op=2 then i.a==j.b
 else if i.op=2/\j.op=3 then i.b==j.a
 else false
theorem tH{i j:Ins}(h1:0<=i.a)(h2:0<=i.b)(h3:0<=j.a)(h4:0<=j.b):depR i j=clash (tou i) (tou j):=by
 unfold depR clash tou;rw [Bool.eq_iff_iff];by_cases k:i.op=9\/i.op=10
 ·by_cases e:j.op=9\/j.op=10
  ·simp [k,e];omega
  ·have n:¬i.op=3:=by omega
   have m:¬i.op=2:=by omega
   by_cases c:j.op=2
   ·simp [k,n,m,c]
   ·by_cases d:j.op=3
    ·simp [k,n,m,d]
    ·simp [k,n,m,e,c,d]
 ·by_cases f:i.op=2
  ·by_cases e:j.op=9\/j.op=10
   ·have l:¬j.op=3:=by omega
    simp [f,e,l]
   ·by_cases c:j.op=2
    ·simp [f,c]
    ·by_cases d:j.op=3
     ·simp [f,d];omega
     ·simp [f,e,c,d]
  ·by_cases h:i.op=3
   ·by_cases e:j.op=9\/j.op=10
    ·have l:¬j.op=3:=by omega
     have o:¬j.op=2:=by omega
     simp [h,e,l,o]
    ·by_cases c:j.op=2
     ·simp [h,c];omega
     ·by_cases d:j.op=3
      ·simp [h,d];omega
      ·simp [h,e,c,d]
   ·simp [k,f,h]
theorem nJ{w:World}{g:Nat}{x0 x1 x2 x3:Value}{t:TypeId}(h:w.heap[g]?=some (.cells #[x0,x1,x2,x3] t (0,0))):
  w.cell? ⟨g,0,none⟩=some x0/\w.cell? ⟨g,1,none⟩=some x1/\w.cell? ⟨g,2,none⟩=some x2/\w.cell? ⟨g,3,none⟩=some x3/\w.frozen? ⟨g,0,none⟩=false/\w.frozen? ⟨g,1,none⟩=false/\w.frozen? ⟨g,2,none⟩=false/\w.frozen? ⟨g,3,none⟩=false:=by
 simp [World.cell?,World.frozen?,h]
theorem xM{p:List (List Ins)}(w:World)(pv:Value)(hP:ProgAt w pv p)(_hp:p.length<=4)(m k1 o k2:Nat)(h1:m<p.length)(h2:k1<(codeOf p m).length)(h3:o<p.length)(h4:k2<(codeOf p o).length)(_hl1:(codeOf p m).length<=16)(_hl2:(codeOf p o).length<=16):
  Calls Tryz.prog 88 #[pv,.agg #[.int .i64 (m:Int),.int .i64 (k1:Int)],.agg #[.int .i64 (o:Int),.int .i64 (k2:Int)]] w fun e w'=>e= .returned (.bool (m==o || depR (insAt p m k1) (insAt p o k2)))/\w.grownBy w' none:=by
 obtain⟨ao,T,rfl⟩:=hP.form;obtain⟨G,H,ca,cc,L,M,rfl,rfl,m0,m1,m2,m3,m4⟩:=tY hP h1 h2;obtain⟨pg',po',da,dc,N,O,l,rfl,n0,n1,n2,n3,n4⟩:=tY hP h3 h4;simp only [Option.some.injEq,Addr.mk.injEq,and_true]at l;obtain⟨rfl,rfl⟩:=l;have X:=ij (And.intro m0 (And.intro m1 (And.intro m2 (And.intro m3 m4))));have Y:=ij (And.intro n0 (And.intro n1 (And.intro n2 (And.intro n3 n4))));clear m0 m1 m2 m3 m4 n0 n1 n2 n3 n4 hP;generalize hcl:(codeOf p m).length=cl at*;generalize aW:(codeOf p o).length=dl at*;generalize aY:insAt p m (k1:Int)=i at*;generalize aZ:insAt p o (k2:Int)=j at*;clear hcl aW aY aZ;have q1:(m:Int)<p.length:=by omega
 have q2:(k1:Int)<cl:=by omega
 have q3:(o:Int)<p.length:=by omega
 have q4:(k2:Int)<dl:=by omega
 have q5:(0:Int)<=(m:Int):=by omega
 have q6:(0:Int)<=(k1:Int):=by omega
 have q7:(0:Int)<=(o:Int):=by omega
 have q8:(0:Int)<=(k2:Int):=by omega
 have HA:Hid (∀ a b c,w.grownBy (((w.alloc a).alloc b).alloc c) none):=fun a b c=>iq (iq (iq (ir _ _)))
 by_cases ht:m=o
 ·subst ht;go_enter Tryz.func88,Tryz.ntmps88
  go_wp2_with fail
  go_ret;exact⟨by simp,HA.out _ _ _⟩
 ·have hti:((m:Int)==(o:Int))=false:=by simp;omega
  have HT:Hid ((m==o)=false):=by unfold Hid;simpa using ht
  clear ht;go_enter Tryz.func88,Tryz.ntmps88
  go_upto_region 3 with fail
  obtain⟨d,U⟩:∃ d,d=((w.alloc (.cells #[.slice (some ⟨G,H,none⟩) p.length T] 37)).alloc (.cells #[.int .i64 (m:Int),.int .i64 (k1:Int)] 76)).alloc (.cells #[.int .i64 (o:Int),.int .i64 (k2:Int)] 76):=⟨_,rfl⟩;have aj:Hid (w.grownBy d none):=by unfold Hid;rw [U];exact HA.out _ _ _
  have a3:d.heap.size=w.heap.size+3:=by rw [U];simp
  have b0:d.heap[w.heap.size]?=some (.cells #[.slice (some ⟨G,H,none⟩) p.length T] 37 (0,0)):=by
   rw [U,Below.heap_alloc _ _ _ (by simp;omega),Below.heap_alloc _ _ _ (by simp)];exact heap_alloc_new _ _
  have b1:d.heap[w.heap.size+1]?=some (.cells #[.int .i64 (m:Int),.int .i64 (k1:Int)] 76 (0,0)):=by
   rw [U,Below.heap_alloc _ _ _ (by simp)];have:=heap_alloc_new (w.alloc (.cells #[.slice (some ⟨G,H,none⟩) p.length T] 37)) (.cells #[.int .i64 (m:Int),.int .i64 (k1:Int)] 76);simpa using this
  have b2:d.heap[w.heap.size+2]?=some (.cells #[.int .i64 (o:Int),.int .i64 (k2:Int)] 76 (0,0)):=by
   have:=heap_alloc_new ((w.alloc (.cells #[.slice (some ⟨G,H,none⟩) p.length T] 37)).alloc (.cells #[.int .i64 (m:Int),.int .i64 (k1:Int)] 76)) (.cells #[.int .i64 (o:Int),.int .i64 (k2:Int)] 76);rw [U];simpa using this
  rw [<-U];clear U;have ah:Hid (∀ u,d.grownBy u none->u.cell? ⟨w.heap.size+1,0,none⟩=some (.int .i64 (m:Int))/\u.cell? ⟨w.heap.size+1,1,none⟩=some (.int .i64 (k1:Int))/\u.cell? ⟨w.heap.size,0,none⟩=some (.slice (some ⟨G,H,none⟩) p.length T)/\u.cell? ⟨G,H+m,none⟩=some (.slice (some ⟨L,M,none⟩) cl cc)/\u.cell? ⟨L,M+k1*4,none⟩=some (.int .i64 i.op)/\u.cell? ⟨L,M+k1*4+1,none⟩=some (.int .i64 i.a)/\u.cell? ⟨L,M+k1*4+2,none⟩=some (.int .i64 i.b)/\u.cell? ⟨L,M+k1*4+3,none⟩=some (.int .i64 i.n)):=fun u hu=>by
   have K:∀ x v,w.cell? x=some v->u.cell? x=some v:=fun x v h=>ip (il aj.out hu) _ _ h
   have F:∀ k,k<d.heap.size->u.heap[k]?=d.heap[k]?:=fun k hk=>hu.block k hk (by simp)
   refine⟨?_,?_,?_,K _ _ X.out.1,K _ _ X.out.2.1,K _ _ X.out.2.2.1,K _ _ X.out.2.2.2.1,K _ _ X.out.2.2.2.2⟩
   ·simp only [World.cell?,F _ (by omega:w.heap.size+1<d.heap.size),b1];rfl
   ·simp only [World.cell?,F _ (by omega:w.heap.size+1<d.heap.size),b1];rfl
   ·simp only [World.cell?,F _ (by omega:w.heap.size<d.heap.size),b0];rfl
  have ai:Hid (∀ u,d.grownBy u none->u.cell? ⟨w.heap.size+2,0,none⟩=some (.int .i64 (o:Int))/\u.cell? ⟨w.heap.size+2,1,none⟩=some (.int .i64 (k2:Int))/\u.cell? ⟨w.heap.size,0,none⟩=some (.slice (some ⟨G,H,none⟩) p.length T)/\u.cell? ⟨G,H+o,none⟩=some (.slice (some ⟨N,O,none⟩) dl dc)/\u.cell? ⟨N,O+k2*4,none⟩=some (.int .i64 j.op)/\u.cell? ⟨N,O+k2*4+1,none⟩=some (.int .i64 j.a)/\u.cell? ⟨N,O+k2*4+2,none⟩=some (.int .i64 j.b)/\u.cell? ⟨N,O+k2*4+3,none⟩=some (.int .i64 j.n)):=fun u hu=>by
   have K:∀ x v,w.cell? x=some v->u.cell? x=some v:=fun x v h=>ip (il aj.out hu) _ _ h
   have F:∀ k,k<d.heap.size->u.heap[k]?=d.heap[k]?:=fun k hk=>hu.block k hk (by simp)
   refine⟨?_,?_,?_,K _ _ Y.out.1,K _ _ Y.out.2.1,K _ _ Y.out.2.2.1,K _ _ Y.out.2.2.2.1,K _ _ Y.out.2.2.2.2⟩
   ·simp only [World.cell?,F _ (by omega:w.heap.size+2<d.heap.size),b2];rfl
   ·simp only [World.cell?,F _ (by omega:w.heap.size+2<d.heap.size),b2];rfl
   ·simp only [World.cell?,F _ (by omega:w.heap.size<d.heap.size),b0];rfl
  clear b0 b1 b2 a3 X Y HA;refine iz (fun u=>u.cell? ⟨w.heap.size+1,0,none⟩=some (.int .i64 (m:Int))/\u.cell? ⟨w.heap.size+1,1,none⟩=some (.int .i64 (k1:Int))/\u.cell? ⟨w.heap.size,0,none⟩=some (.slice (some ⟨G,H,none⟩) p.length T)/\u.cell? ⟨G,H+m,none⟩=some (.slice (some ⟨L,M,none⟩) cl cc)/\u.cell? ⟨L,M+k1*4,none⟩=some (.int .i64 i.op)/\u.cell? ⟨L,M+k1*4+1,none⟩=some (.int .i64 i.a)/\u.cell? ⟨L,M+k1*4+2,none⟩=some (.int .i64 i.b)/\u.cell? ⟨L,M+k1*4+3,none⟩=some (.int .i64 i.n)) 11 (by kernel_rfl) (by kernel_rfl) (ah.out d.drew (iy (ir _ _))) ?_;intro f;refine ie 0 ?va0 rfl (by kernel_rfl) (fun _ _ _ h=>h) (by rfl) ?ya0 f ?_
  case ya0=>(rintro u ⟨r,s,t,y,z,A,B,C⟩;go_simp;try rfl)
  simp only [Act.put,List.setIfInBounds_toArray];refine ie 1 ?va1 rfl (by kernel_rfl) (fun _ _ _ h=>h) (by rfl) ?ya1 f ?_
  case ya1=>(rintro u ⟨r,s,t,y,z,A,B,C⟩;go_simp;try rfl)
  simp only [Act.put];refine ie 2 ?va2 rfl (by kernel_rfl) (fun _ _ _ h=>h) (by rfl) ?ya2 f ?_
  case ya2=>(rintro u ⟨r,s,t,y,z,A,B,C⟩;go_simp;try rfl)
  simp only [Act.put];refine ie 3 ?va3 rfl (by kernel_rfl) (fun _ _ _ h=>h) (by rfl) ?ya3 f ?_
  case ya3=>(rintro u ⟨r,s,t,y,z,A,B,C⟩;go_simp;try rfl)
  simp only [Act.put];refine ie 4 ?va4 rfl (by kernel_rfl) (fun _ _ _ h=>h) (by rfl) ?ya4 f ?_
  case ya4=>(rintro u ⟨r,s,t,y,z,A,B,C⟩;go_simp;try rfl)
  simp only [Act.put];refine ie 5 ?va5 rfl (by kernel_rfl) (fun _ _ _ h=>h) (by rfl) ?ya5 f ?_
  case ya5=>(rintro u ⟨r,s,t,y,z,A,B,C⟩;go_simp;try rfl)
  simp only [Act.put];refine ie 6 ?va6 rfl (by kernel_rfl) (fun _ _ _ h=>h) (by rfl) ?ya6 f ?_
  case ya6=>(rintro u ⟨r,s,t,y,z,A,B,C⟩;go_simp;try rfl)
  simp only [Act.put];refine ie 7 ?va7 rfl (by kernel_rfl) (fun _ _ _ h=>h) (by rfl) ?ya7 f ?_
  case ya7=>(rintro u ⟨r,s,t,y,z,A,B,C⟩;go_simp;try rfl)
  simp only [Act.put];refine ie 8 ?va8 rfl (by kernel_rfl) (fun _ _ _ h=>h) (by rfl) ?ya8 f ?_
  case ya8=>(rintro u ⟨r,s,t,y,z,A,B,C⟩;go_simp;try rfl)
  simp only [Act.put];refine ie 9 ?va9 rfl (by kernel_rfl) (fun _ _ _ h=>h) (by rfl) ?ya9 f ?_
  case ya9=>(rintro u ⟨r,s,t,y,z,A,B,C⟩;go_simp;try rfl)
  simp only [Act.put];refine iu (i:=10) rfl (by kernel_rfl) (by kernel_rfl) (by rfl) ?_;intro Ka az;have aq:=ij az;clear az;go_simp;refine aq.out _ _ (ah.out (d.drew.alloc (.cells #[.int .i64 0,.int .i64 0,.int .i64 0,.int .i64 0] 65)) (il (ir _ _) (il (iy (ir _ _)) (iq (ir _ _))))) ?_;clear aq;try simp only [Act.put,List.setIfInBounds_toArray]
  refine iF rfl (by kernel_rfl) (by kernel_rfl) (by rfl) ?_;go_simp;clear f;have au:Hid ((d.alloc (.cells #[.int .i64 i.op,.int .i64 i.a,.int .i64 i.b,.int .i64 i.n] 65)).drew.heap[d.heap.size]?=some (.cells #[.int .i64 i.op,.int .i64 i.a,.int .i64 i.b,.int .i64 i.n] 65 (0,0))):=heap_alloc_new d (.cells #[.int .i64 i.op,.int .i64 i.a,.int .i64 i.b,.int .i64 i.n] 65);have ag:Hid (d.grownBy (d.alloc (.cells #[.int .i64 i.op,.int .i64 i.a,.int .i64 i.b,.int .i64 i.n] 65)).drew none):=iy (iq (ir _ _));generalize (d.alloc (.cells #[.int .i64 i.op,.int .i64 i.a,.int .i64 i.b,.int .i64 i.n] 65)).drew=w4 at*;go_wp2_with fail
  refine iz (fun u=>u.cell? ⟨w.heap.size+2,0,none⟩=some (.int .i64 (o:Int))/\u.cell? ⟨w.heap.size+2,1,none⟩=some (.int .i64 (k2:Int))/\u.cell? ⟨w.heap.size,0,none⟩=some (.slice (some ⟨G,H,none⟩) p.length T)/\u.cell? ⟨G,H+o,none⟩=some (.slice (some ⟨N,O,none⟩) dl dc)/\u.cell? ⟨N,O+k2*4,none⟩=some (.int .i64 j.op)/\u.cell? ⟨N,O+k2*4+1,none⟩=some (.int .i64 j.a)/\u.cell? ⟨N,O+k2*4+2,none⟩=some (.int .i64 j.b)/\u.cell? ⟨N,O+k2*4+3,none⟩=some (.int .i64 j.n)) 11 (by kernel_rfl) (by kernel_rfl) (ai.out w4.drew (iy ag.out)) ?_;intro f;refine ie 0 ?vb0 rfl (by kernel_rfl) (fun _ _ _ h=>h) (by rfl) ?yb0 f ?_
  case yb0=>(rintro u ⟨r,s,t,y,z,A,B,C⟩;go_simp;try rfl)
  simp only [Act.put,List.setIfInBounds_toArray];refine ie 1 ?vb1 rfl (by kernel_rfl) (fun _ _ _ h=>h) (by rfl) ?yb1 f ?_
  case yb1=>(rintro u ⟨r,s,t,y,z,A,B,C⟩;go_simp;try rfl)
  simp only [Act.put];refine ie 2 ?vb2 rfl (by kernel_rfl) (fun _ _ _ h=>h) (by rfl) ?yb2 f ?_
  case yb2=>(rintro u ⟨r,s,t,y,z,A,B,C⟩;go_simp;try rfl)
  simp only [Act.put];refine ie 3 ?vb3 rfl (by kernel_rfl) (fun _ _ _ h=>h) (by rfl) ?yb3 f ?_
  case yb3=>(rintro u ⟨r,s,t,y,z,A,B,C⟩;go_simp;try rfl)
  simp only [Act.put];refine ie 4 ?vb4 rfl (by kernel_rfl) (fun _ _ _ h=>h) (by rfl) ?yb4 f ?_
  case yb4=>(rintro u ⟨r,s,t,y,z,A,B,C⟩;go_simp;try rfl)
  simp only [Act.put];refine ie 5 ?vb5 rfl (by kernel_rfl) (fun _ _ _ h=>h) (by rfl) ?yb5 f ?_
  case yb5=>(rintro u ⟨r,s,t,y,z,A,B,C⟩;go_simp;try rfl)
  simp only [Act.put];refine ie 6 ?vb6 rfl (by kernel_rfl) (fun _ _ _ h=>h) (by rfl) ?yb6 f ?_
  case yb6=>(rintro u ⟨r,s,t,y,z,A,B,C⟩;go_simp;try rfl)
  simp only [Act.put];refine ie 7 ?vb7 rfl (by kernel_rfl) (fun _ _ _ h=>h) (by rfl) ?yb7 f ?_
  case yb7=>(rintro u ⟨r,s,t,y,z,A,B,C⟩;go_simp;try rfl)
  simp only [Act.put];refine ie 8 ?vb8 rfl (by kernel_rfl) (fun _ _ _ h=>h) (by rfl) ?yb8 f ?_
  case yb8=>(rintro u ⟨r,s,t,y,z,A,B,C⟩;go_simp;try rfl)
  simp only [Act.put];refine ie 9 ?vb9 rfl (by kernel_rfl) (fun _ _ _ h=>h) (by rfl) ?yb9 f ?_
  case yb9=>(rintro u ⟨r,s,t,y,z,A,B,C⟩;go_simp;try rfl)
  simp only [Act.put];refine iu (i:=10) rfl (by kernel_rfl) (by kernel_rfl) (by rfl) ?_;intro Kb aA;have ar:=ij aA;clear aA;go_simp;refine ar.out _ _ (ai.out (w4.drew.alloc (.cells #[.int .i64 0,.int .i64 0,.int .i64 0,.int .i64 0] 65)) (il ag.out (il (iy (ir _ _)) (iq (ir _ _))))) ?_;clear ar;try simp only [Act.put,List.setIfInBounds_toArray]
  refine iF rfl (by kernel_rfl) (by kernel_rfl) (by rfl) ?_;go_simp;clear f;have aO:Hid ((w4.alloc (.cells #[.int .i64 j.op,.int .i64 j.a,.int .i64 j.b,.int .i64 j.n] 65)).drew.heap[w4.heap.size]?=some (.cells #[.int .i64 j.op,.int .i64 j.a,.int .i64 j.b,.int .i64 j.n] 65 (0,0))):=heap_alloc_new w4 (.cells #[.int .i64 j.op,.int .i64 j.a,.int .i64 j.b,.int .i64 j.n] 65);have ap:Hid (w4.grownBy (w4.alloc (.cells #[.int .i64 j.op,.int .i64 j.a,.int .i64 j.b,.int .i64 j.n] 65)).drew none):=iy (iq (ir _ _));generalize (w4.alloc (.cells #[.int .i64 j.op,.int .i64 j.a,.int .i64 j.b,.int .i64 j.n] 65)).drew=w5 at*;have aM:Hid (w5.heap[d.heap.size]?=some (.cells #[.int .i64 i.op,.int .i64 i.a,.int .i64 i.b,.int .i64 i.n] 65 (0,0))):=by
   unfold Hid;rw [ap.out.block _ (Array.getElem?_eq_some_iff.1 au.out).1 (by simp)];exact au.out
  have I:Hid (w.grownBy w5 none):=il aj.out (il ag.out ap.out);obtain⟨i0,i1,i2,V, -⟩:=nJ aM.out;obtain⟨W,j1,j2,P, -⟩:=nJ aO.out;clear ah ai;have J:Hid ((m==o || depR i j)=depR i j):=by unfold Hid;rw [HT.out];rfl
  go_upto_region 5 with fail
  obtain⟨F,aB⟩:∃ F:Bool,F=decide ((i.op=9\/i.op=10)/\(j.op=9\/j.op=10)):=⟨_,rfl⟩;have Q:=ij aB;clear aB;go_cut [51] (fun q w'=>q= .bool F/\w'=w5)
  case first=>
   by_cases i9:i.op=9
   ·rw [i9]at i0;by_cases S:j.op=9
    ·rw [S]at W;go_wp2_with fail
     go_meet
     exact⟨by rw [Q.out];simp [i9,S],rfl⟩
    ·have e9:(j.op==9)=false:=by simpa using S
     by_cases R:j.op=10
     ·rw [R]at W;go_wp2_with fail
      go_meet
      exact⟨by rw [Q.out];simp [i9,R],rfl⟩
     ·have aR:(j.op==10)=false:=by simpa using R
      go_wp2_with fail
      go_meet
      exact⟨by rw [Q.out];simp [S,R],rfl⟩
   ·have d9:(i.op==9)=false:=by simpa using i9
    by_cases Z:i.op=10
    ·rw [Z]at i0;clear d9;by_cases S:j.op=9
     ·rw [S]at W;go_wp2_with fail
      go_meet
      exact⟨by rw [Q.out];simp [Z,S],rfl⟩
     ·have e9:(j.op==9)=false:=by simpa using S
      by_cases R:j.op=10
      ·rw [R]at W;clear e9;go_wp2_with fail
       go_meet
       exact⟨by rw [Q.out];simp [Z,R],rfl⟩
      ·have aR:(j.op==10)=false:=by simpa using R
       go_wp2_with fail
       go_meet
       exact⟨by rw [Q.out];simp [S,R],rfl⟩
    ·have d10:(i.op==10)=false:=by simpa using Z
     go_wp2_with fail
     go_meet
     exact⟨by rw [Q.out];simp [i9,Z],rfl⟩
  case rest=>
  obtain⟨rfl,a1⟩:=hcut;have a2:=a1.symm;subst a2;cases F with
  | true=>
   have hh:(i.op=9\/i.op=10)/\(j.op=9\/j.op=10):=by have:=Q.out.symm;simpa using this
   have D:Hid (depR i j=(i.a==j.a)):=by unfold Hid depR;simp [hh]
   by_cases l:i.a=j.a
   ·have E:(i.a==j.a)=true:=by simpa using l
    clear l;go_wp2_with fail
    all_goals (go_ret;exact⟨by rw [J.out,D.out,E];first | rfl | simp [*],I.out⟩)
   ·have E:(i.a==j.a)=false:=by simpa using l
    clear l;go_wp2_with fail
    all_goals (go_ret;exact⟨by rw [J.out,D.out,E];first | rfl | simp [*],I.out⟩)
  | false=>
   have hn:¬((i.op=9\/i.op=10)/\(j.op=9\/j.op=10)):=by have:=Q.out.symm;simpa using this
   by_cases V:i.op=3
   ·rw [V]at i0;by_cases P:j.op=3
    ·rw [P]at W;have D:Hid (depR i j=(i.a==j.a)):=by unfold Hid depR;simp [V,P]
     by_cases l:i.a=j.a
     ·have E:(i.a==j.a)=true:=by simpa using l
      clear l;go_wp2_with fail
      all_goals (go_ret;exact⟨by rw [J.out,D.out,E];first | rfl | simp [*],I.out⟩)
     ·have E:(i.a==j.a)=false:=by simpa using l
      clear l;go_wp2_with fail
      all_goals (go_ret;exact⟨by rw [J.out,D.out,E];first | rfl | simp [*],I.out⟩)
    ·have e3:(j.op==3)=false:=by simpa using P
     by_cases j2:j.op=2
     ·rw [j2]at W;clear e3;have D:Hid (depR i j=(i.a==j.b)):=by unfold Hid depR;simp [V,j2]
      by_cases l:i.a=j.b
      ·have E:(i.a==j.b)=true:=by simpa using l
       clear l;go_wp2_with fail
       all_goals (go_ret;exact⟨by rw [J.out,D.out,E];first | rfl | simp [*],I.out⟩)
      ·have E:(i.a==j.b)=false:=by simpa using l
       clear l;go_wp2_with fail
       all_goals (go_ret;exact⟨by rw [J.out,D.out,E];first | rfl | simp [*],I.out⟩)
     ·have e2:(j.op==2)=false:=by simpa using j2
      have D:Hid (depR i j=false):=by unfold Hid depR;simp [V,P,j2]
      go_wp2_with fail
      go_ret;exact⟨by rw [J.out,D.out];rfl,I.out⟩
   ·have d3:(i.op==3)=false:=by simpa using V
    by_cases aa:i.op=2
    ·rw [aa]at i0;clear d3;by_cases P:j.op=3
     ·rw [P]at W;have D:Hid (depR i j=(i.b==j.a)):=by unfold Hid depR;simp [aa,P]
      by_cases l:i.b=j.a
      ·have E:(i.b==j.a)=true:=by simpa using l
       clear l;go_wp2_with fail
       all_goals (go_ret;exact⟨by rw [J.out,D.out,E];first | rfl | simp [*],I.out⟩)
      ·have E:(i.b==j.a)=false:=by simpa using l
       clear l;go_wp2_with fail
       all_goals (go_ret;exact⟨by rw [J.out,D.out,E];first | rfl | simp [*],I.out⟩)
     ·have e3:(j.op==3)=false:=by simpa using P
      have D:Hid (depR i j=false):=by unfold Hid depR;simp [aa,P]
      go_wp2_with fail
      go_ret;exact⟨by rw [J.out,D.out];rfl,I.out⟩
    ·have d2:(i.op==2)=false:=by simpa using aa
     have D:Hid (depR i j=false):=by unfold Hid depR;rw [if_neg hn];simp [V,aa]
     go_wp2_with fail
     go_ret;exact⟨by rw [J.out,D.out];rfl,I.out⟩
end
section
theorem wu(d:Ev->Ev->Bool)(L:List (Ev × Nat))(x:Ev)(k:Nat)(b:k<L.length):layIn d (L.take (k+1)) x=if d L[k].1 x=true then max (layIn d (L.take k) x) (L[k].2+1) else layIn d (L.take k) x:=by
 rw [List.take_succ_eq_append_getElem b,qV];have e:layIn d [L[k]] x=if d L[k].1 x=true then L[k].2+1 else 0:=by simp [layIn]
 rw [e];by_cases h:d L[k].1 x=true
 ·rw [if_pos h,if_pos h]
 ·rw [if_neg h,if_neg h];omega
theorem qW(p:List (List Ins))(xs:List Ev)(x:Ev)(k:Nat):layIn (depE p) ((tl (depE p) [] xs).take k) x<=xs.length:=by
 apply mN;intro q b _;have c:q∈tl (depE p) [] xs:=List.mem_of_mem_take b;obtain⟨j,a,rfl⟩:=List.getElem_of_mem c;have:=lC (depE p) xs [] 0 (by simp) j _ (List.getElem?_eq_getElem a);rw [iX]at a;omega
theorem vL{p:List (List Ins)}{o:Out}{xs:List Ev}(h:Stood p o xs){k i:Nat}(hki:k<i)(d:i<xs.length):
  depE p (xs[k]'(by omega)) xs[i]=((decide (o.kind=1) && decide (i+1=xs.length)) || ((xs[k]'(by omega)).t==xs[i].t || clash (tou (insAt p (xs[k]'(by omega)).t (xs[k]'(by omega)).k)) (tou (insAt p xs[i].t xs[i].k)))):=by
 have b:=h.gd k (by omega);have c:=h.gd i d;have a:(xs[k]'(by omega)).bad=false:=by rw [b];simp;intro _;omega
 unfold depE;rw [a,c];simp [Bool.or_assoc]
end
section
open Go.RowKit
attribute [local go_sem] Go.World.cell?_alloc_some
structure OtIn(W w':World)(v:Value)(L:List Int):Prop where
 row:w'.ownsRow W.heap.size 3 1 v L.length (ints L)
 gr:W.grownBy w' none
theorem AO{p:List (List Ins)}{xs:List Ev}(h500:xs.length<=500){W:World}{b C gc sc:Nat}{S:Option Addr}(L:W.cell? ⟨b,10,none⟩=some (.slice S xs.length sc))
  (Z:Hid (∀ i,i<xs.length->∃ g h j,(keysE p xs)[i]?=some (h,j)/\S=some ⟨g,0,none⟩/\W.cell? ⟨C,i,none⟩=some (.int .i64 (h:Int))/\W.cell? ⟨g,i*2,none⟩=some (.int .i64 (j:Int))/\h<=500/\j<4))
  {Q:Exit->Act->World->Prop} {c1 c2 c5 c6 c7 c8 c9 af au aC aD aE aF aG aH aI aJ aL aM aN aO aP aQ aR aS aT aU aV aW aX aY aZ a0 a1 a2 a3 a4 a5 a6 a7 a8 a9 ba bb bc bd be bg bh bi bj bk bl bm bn bo bp bq br bt bu bv bw bx bz bA bB bD bE bF bG bH bI bJ bK bL bM bO bP bQ bR bS bT bU bV bW bX bZ b0 b1 b2 b3 b4 b5 b6 b7 b8 ag ah ai aj ak al am ap aq ar av aw ax ay az aA aB:Value}
  (HQ:Hid (∀ {z0 z1 z3 z4 z5 z6 z7 z8 z9 cu cF cN cO cP cQ cR cS cT cU cV cW cX cY cZ c3 c4 da db dc de df dg dh di dj dk dl dm dn dq dr ds dt du dv dw dx dy dz dB dC dD dE dF dG dH dI dJ dK dM dN dO dP dQ dR dS dT dU dV dX dY dZ d0 d4 d5 d6 d7 d8 d9 eb ec ed ee ef eg eh ei ej ek em en eo ep eq er es et eu ev cv cw cx cy cz cA cB cC cD cE cG cH cI cJ cK cL cM:Value} (v:Value) (w':World),OtIn W w' v (thrL (goThrough xs.length (keysE p xs)))->Q .ret ⟨#[z0,z1,v,z3,z4,z5,z6,z7,z8,z9,cu,cF,cN,cO,cP,cQ,cR,cS,cT,cU,cV,cW,cX,cY,cZ,c3,c4,da,db,dc,de,df,dg,dh,di,dj,dk,dl,dm,dn,dq,dr,ds,dt,du,dv,dw,dx,dy,dz,dB,dC,dD,dE,dF,dG,dH,dI,dJ,dK,dM,dN,dO,dP,dQ,dR,dS,dT,dU,dV,dX,dY,dZ,d0,d4,d5,d6,d7,d8,d9,eb,ec,ed,ee,ef,eg,eh,ei,ej,ek,em,en,eo,ep,eq,er,es,et,eu,ev,cv,cw,cx,cy,cz,cA,cB,cC,cD,cE,cG,cH,cI,cJ,cK,cL,cM],[]⟩ w')):
  Code.wp Tryz.prog (tailOf Tryz.f57 14) Q ⟨#[.pointer (some ⟨b,0,none⟩),c1,c2,.int .i64 (xs.length:Int),.slice (some ⟨C,0,none⟩) xs.length gc,c5,c6,c7,c8,c9,af,au,aC,aD,aE,aF,aG,aH,aI,aJ,aL,aM,aN,aO,aP,aQ,aR,aS,aT,aU,aV,aW,aX,aY,aZ,a0,a1,a2,a3,a4,a5,a6,a7,a8,a9,ba,bb,bc,bd,be,bg,bh,bi,bj,bk,bl,bm,bn,bo,bp,bq,br,bt,bu,bv,bw,bx,bz,bA,bB,bD,bE,bF,bG,bH,bI,bJ,bK,bL,bM,bO,bP,bQ,bR,bS,bT,bU,bV,bW,bX,bZ,b0,b1,b2,b3,b4,b5,b6,b7,b8,ag,ah,ai,aj,ak,al,am,ap,aq,ar,av,aw,ax,ay,az,aA,aB],[]⟩ W:=by
 conv=>arg 2;whnf
 obtain⟨i0,ce,cj,ck,cl⟩:=info_parts nk;have q0:(xs.length:Int)<=500:=by omega
 have q1:(0:Int)<=(xs.length:Int):=by omega
 have I:=np p xs;have A:=ij I;have Y:=ij (fun l t i J M=>Ad (keysE p xs) l t i J M (by omega));have z:Hid (OtIn W W (.slice none 0 0) (thrL (goAt (keysE p xs) 0 0 0))):=⟨by rw [vV];exact⟨rfl,Or.inl ⟨rfl,rfl⟩⟩,ir _ _⟩;have V:=ij L;clear I L;go_wp2_with fail
 go_loopw [8,9] (fun ov lv w'=>∃ l:Nat,l<=xs.length/\lv= .int .i64 l/\Hid (OtIn W w' ov (thrL (goAt (keysE p xs) l 0 0)))) (fun _ lv _=>xs.length - (intOf lv).toNat)
 case atStart=>exact⟨0,Nat.zero_le _,rfl,z⟩
 case round=>
  clear z;obtain⟨l,J,rfl,s⟩:=hrel;obtain⟨T,O⟩:∃ T,T=wr:=⟨_,rfl⟩;rw [<-O]at s ⊢;clear O;by_cases hlt:l<xs.length
  ·have t0:(0:Int)<=(l:Int):=by omega
   have t1:(l:Int)<xs.length:=by omega
   go_wp2_with fail
   go_loopw [8,10] (fun ov tv w'=>∃ t:Nat,t<=4/\tv= .int .i64 t/\Hid (OtIn W w' ov (thrL (goAt (keysE p xs) l t 0)))) (fun _ tv _=>4 - (intOf tv).toNat)
   case atStart=>exact⟨0,Nat.zero_le _,rfl,s⟩
   case round=>
    clear s;obtain⟨t,M,rfl,u⟩:=hrel;obtain⟨U,P⟩:∃ U,U=wr:=⟨_,rfl⟩;rw [<-P]at u ⊢;clear P;by_cases htl:t<4
    ·have t2:(t:Int)<4:=by omega
     go_wp2_with fail
     go_loopw [8,11] (fun ov iv w'=>∃ i:Nat,i<=xs.length/\iv= .int .i64 i/\Hid (OtIn W w' ov (thrL (goAt (keysE p xs) l t i)))) (fun _ iv _=>xs.length - (intOf iv).toNat)
     case atStart=>exact⟨0,Nat.zero_le _,rfl,u⟩
     case round=>
      clear u;obtain⟨i,hi,rfl,a⟩:=hrel;obtain⟨k,R⟩:∃ k,k=wr:=⟨_,rfl⟩;rw [<-R]at a ⊢;clear R;by_cases cf:i<xs.length
      ·have t3:(0:Int)<=(i:Int):=by omega
       have t4:(i:Int)<xs.length:=by omega
       obtain⟨g,h,j,w,ci,D,E,x,y⟩:=Z.out i cf;subst ci;have B:=ip a.out.gr _ _ D;have d2:=ip a.out.gr _ _ E;have d3:=ip a.out.gr _ _ V.out;have G:i<(keysE p xs).length:=by have:=A.out;omega
       have H:(keysE p xs)[i]=(h,j):=by rw [List.getElem?_eq_getElem G]at w;simpa using w
       have d:=ij (zq (keysE p xs) l t i G);rw [H]at d;clear w H D E;obtain⟨ao,an,ac,ch⟩:=iw a.out.row;subst ch;have cc:=iB a.out.row;subst cc;by_cases f:h=l
       ·by_cases o:j=t
        ·have c:thrL (goAt (keysE p xs) l t (i+1))=thrL (goAt (keysE p xs) l t i)++[(t:Int)]:=by rw [d.out,f,o];simp
         have n:=ij c;have r:=Y.out l t i (by omega) (by omega);have hle2:(thrL (goAt (keysE p xs) l t i)).length<=2000000:=by unfold thrL;rw [List.length_map];exact r
         have cb:(thrL (goAt (keysE p xs) l t i)).length+1<=maxLen:=by unfold maxLen;omega
         have hsz:W.heap.size<=k.heap.size:=a.out.gr.size;rw [f]at B;rw [o]at d2;clear d c r f o x y;go_wp2_with (at_builtin;refine wpList_append_lies _ rfl _ _ _ rfl W.heap.size 3 i0 _ 1 8 Tryz.underlying39 ce cj ck cl rfl (by omega) (.slice ao (thrL (goAt (keysE p xs) l t i)).length ac) (thrL (goAt (keysE p xs) l t i)).length (ints (thrL (goAt (keysE p xs) l t i))) rfl (iG a.out.row) ⟨k.heap.size,0,none⟩ 1 1 [.int .i64 (t:Int)] rfl rfl (World.news_of_block (cs:= #[.int .i64 (t:Int)]) (t:=3) (fr:=(0,0)) (heap_alloc_new k _)) (by simp [Value.oneCell']) (by omega) cb (by omega) (by simp;omega) (k.heap.size+1) (by simp) ?_;intro g8 cap8 w8 K F cd cg;have aa:=ij K;have X:Hid (W.grownBy w8 none):=iZ (iq a.out.gr) F (fun q e=>iA a.out.row q e);clear K F cd cg)
         go_roundw
         case rel=>exact⟨i+1,by omega,by go_num,⟨by rw [n.out,List.length_append];simpa [ints]using aa.out,X.out⟩⟩
         case measure=>simp [intOf];omega
        ·have c:thrL (goAt (keysE p xs) l t (i+1))=thrL (goAt (keysE p xs) l t i):=by rw [d.out];simp [o]
         have n:=ij c;have e2':((j:Int)==(t:Int))=false:=by simp;omega
         rw [f]at B;clear d c f o x y;go_wp2_with fail
         go_roundw
         case rel=>exact⟨i+1,by omega,by go_num,by rw [n.out];exact a.out⟩
         case measure=>simp [intOf];omega
       ·have c:thrL (goAt (keysE p xs) l t (i+1))=thrL (goAt (keysE p xs) l t i):=by rw [d.out];simp [f]
        have n:=ij c;have e1':((h:Int)==(l:Int))=false:=by simp;omega
        clear d c f x y;go_wp2_with fail
        go_roundw
        case rel=>exact⟨i+1,by omega,by go_num,by rw [n.out];exact a.out⟩
        case measure=>simp [intOf];omega
      ·have t4:(xs.length:Int)<=(i:Int):=by omega
       have m:Hid (goAt (keysE p xs) l t i=goAt (keysE p xs) l (t+1) 0):=si _ _ _ _ (by rw [A.out];omega);go_wp2_with fail
       go_roundw
       case rel=>exact⟨t+1,by omega,by go_num,by rw [<-m.out];exact a.out⟩
       case measure=>simp [intOf];omega
    ·have t2:(4:Int)<=(t:Int):=by omega
     have N:t=4:=by omega
     have m:Hid (goAt (keysE p xs) l t 0=goAt (keysE p xs) (l+1) 0 0):=by unfold Hid;rw [N];exact tT _ _
     clear N;go_wp2_with fail
     go_roundw
     case rel=>exact⟨l+1,by omega,by go_num,by rw [<-m.out];exact u.out⟩
     case measure=>simp [intOf];omega
  ·have t1:(xs.length:Int)<=(l:Int):=by omega
   have r:l=xs.length:=by omega
   have m:Hid (goAt (keysE p xs) l 0 0=goThrough xs.length (keysE p xs)):=by unfold Hid;rw [r];exact x8 _ _
   clear r;go_wp2_with fail
   exact HQ.out _ _ (by rw [<-m.out];exact s.out)
end
end Go.Proofs.YtklenjmfalljgabGreatDoor
