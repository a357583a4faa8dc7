/- The texts Rfg Rfh Ask Rdp Rfm Rfo. -/
import Derived.Test.YtklenjmfalljgabGreatDoorM02
import Derived.Test.YtklenjmfalljgabGreatDoorM03
import Derived.Test.YtklenjmfalljgabGreatDoorM04
import Derived.Test.YtklenjmfalljgabGreatDoorM05
namespace Go.Proofs.YtklenjmfalljgabGreatDoor
set_option maxRecDepth 100000
set_option maxHeartbeats 8000000
section
open Go.RowKit
attribute [local go_sem] Go.World.cell?_alloc_some
def FU(w:World)(n:Nat)(ps:Value)(o:Out)(e:Ending)(w':World):Prop:=
 ∃ b ab rb st,e= .returned (.pointer (some ⟨b,0,none⟩))/\RunAt w w' b ab rb n ps st o.st o.steps o.kind o.thread o.at_
theorem pF(w:World)(N:Option Addr)(J:Nat)(p:List (List Ins))(sv:Value)(c:List Int)(hp:iV p=true)(hP:ProgAt w (.agg #[.slice N p.length J]) p)(hI:IntsAt w.heap.size w sv c)(h500:c.length<=1048576):
  Calls Tryz.prog 10 #[.agg #[.slice N p.length J],sv] w (FU w p.length (.slice N p.length J) (iJ p c)):=by
 have hn:=jA hp;have P:=il hP;have K:=il hp;have HI:=il hI;clear hp hP hI;go_enter Tryz.func10,Tryz.ntmps10
 go_upto_region 2 with fail
 go_cut [6] (fun pv w'=>∃ b x u v,pv= .pointer (some ⟨b,0,none⟩)/\RunAt w w' b x u p.length (.slice N p.length J) v St.zero [] 0 0 0)
 case first=>
  have hN:p.length=1\/p.length=2\/p.length=3\/p.length=4:=by omega
  clear P K;generalize p.length=n at*;obtain⟨hmA,hmB⟩:=E7 n hN;have n4:(n:Int)<=4:=by omega
  clear hN;go_region
  all_goals go_wp2
  all_goals go_meet
  ·first | exact⟨_,_,_,_,rfl,(sP w _ n _ _).like ⟨rfl,rfl,rfl,rfl⟩⟩ | exact⟨_,_,_,_,rfl,(sN w _ n _ _).like ⟨rfl,rfl,rfl,rfl⟩⟩
  ·first | exact⟨_,_,_,_,rfl,(sP w _ n _ _).like ⟨rfl,rfl,rfl,rfl⟩⟩ | exact⟨_,_,_,_,rfl,(sN w _ n _ _).like ⟨rfl,rfl,rfl,rfl⟩⟩
 case rest=>
  obtain⟨b,x,u,aL,rfl,aB⟩:=hcut;have aN:=il aB;clear aB;obtain⟨so,sc,rfl,hsz,au⟩:=HI.out;have HC:=il au;clear au HI;have q1:(c.length:Int)<=1048576:=by omega
  have q2:(p.length:Int)<=4:=by omega
  go_wp2_with fail
  go_loopw [7] (fun i w'=>∃ (k:Nat) (s:St) (m:List (Int × Int)) (v:Value),k<=c.length/\i= .int .i64 k/\Hid (m.length=k)/\Hid (RunAt w w' b x u p.length (.slice N p.length J) v s m 0 0 0)/\Hid (Inv p s)/\Hid (LkOk s)/\
   Hid (iJ p c=je p (c.drop k) k s m)) (fun i _=>c.length - (intOf i).toNat)
  case atStart=>exact⟨0,St.zero,[],aL,Nat.zero_le _,rfl,rfl,aN,Inv.zero p,LkOk.zero,rfl⟩
  case round=>
   obtain⟨k,s,m,v,hk,rfl,T,f,O,aa,H⟩:=hrel;obtain⟨w5,aw⟩:∃ w5,w5=wr:=⟨_,rfl⟩;rw [<-aw]at f ⊢;clear aw;by_cases Q:k<c.length
   ·obtain⟨gb,go,rfl,hgb,hc⟩:=HC.out k Q;have ac:=iq f.out.frame _ _ hc;clear hc;have l:Hid (c.drop k=c[k]::c.drop (k+1)):=List.drop_eq_getElem_cons Q;generalize c[k]=t at*;have hk0:(0:Int)<=(k:Int):=by omega
    have aW:(k:Int)<c.length:=by omega
    obtain⟨_,F,B,E,C,D,G⟩:=f.out.vcells;by_cases ay:0<=t
    ·by_cases aH:t<p.length
     ·obtain⟨a,rfl⟩:=Int.eq_ofNat_of_zero_le ay;have V:a<p.length:=by omega
      go_wp2_with fail
      refine(zx K.out P.out f.out O.out aa.out V).mono ?_;rintro e w6 ⟨rfl,ag⟩;have Y:=il (f.out.grown ag);replace ac:=iq ag _ _ ac;clear ag F B E C D G f;obtain⟨_,F,B,E,C,D,G⟩:=Y.out.vcells;cases hrd:jF p s a
      ·have q:Hid (iJ p c=⟨m,2,0,k,s⟩):=by
        unfold Hid;rw [H.out,l.out];exact kq _ _ _ _ _ _ (by simp [mZ,hrd])
       clear hrd;go_wp2_with fail
       go_ret;rw [q.out];exact⟨b,x,u,v,rfl,Y.out.verdict 2 0 k⟩
      ·have HK:Hid (mZ p s a=true):=by
        unfold Hid mZ jE;simp [hrd,V]
       have ai:Hid (jS p s a=false):=by
        unfold Hid;cases hd:jS p s a with
        | false=>rfl
        | true=>simp [jF,hd]at hrd
       clear hrd F B E C D G;go_wp2_with fail
       refine(Fv K.out P.out Y.out O.out V ai.out (by rw [T.out];omega)).mono ?_;rintro e y ⟨aR,rfl,aq⟩;have z:=il aq;clear aq Y ac;cases hstp:(jQ p s a).1
       ·have q:Hid (iJ p c=⟨m++[((a:Int),s.next a)],1,a,s.next a,(jQ p s a).2⟩):=by
         unfold Hid;rw [H.out,l.out];exact mT _ _ _ _ _ _ HK.out (by simpa using hstp)
        clear hstp;obtain⟨lg,lc,rfl,l1,l2⟩:=z.out.last;obtain⟨aF,F,B,E,C,D,G⟩:=z.out.vcells;have aV:Hid (m.length<1048576):=by unfold Hid;rw [T.out];omega
        generalize ax:m.length=L at*;have HGL:=il ax;clear ax;have hL:(L:Int)<1048576:=by have:=aV.out;omega
        go_wp2_with fail
        go_region
        have I:y.grownBy (y.alloc (.cells #[.int .i64 a,.int .i64 (s.next a)] 76)).drew none:=iz (ir (iu _ _));have S:(y.alloc (.cells #[.int .i64 a,.int .i64 (s.next a)] 76)).drew.heap[y.heap.size]?=some (.cells #[.int .i64 a,.int .i64 (s.next a)] 76 (0,0)):=heap_alloc_new y _;generalize (y.alloc (.cells #[.int .i64 a,.int .i64 (s.next a)] 76)).drew=w8 at I S ⊢;have X:=il (z.out.grown I);have z0:w8.cell? ⟨y.heap.size,0,none⟩=some (.int .i64 a):=by simp [World.cell?,S]
        have z1:w8.cell? ⟨y.heap.size,1,none⟩=some (.int .i64 (s.next a)):=by simp [World.cell?,S]
        clear I S aF F B E C D G l1 l2 z;obtain⟨_,F,B,E,C,D,G⟩:=X.out.vcells;go_wp2
        go_ret;rw [q.out];exact⟨b,x,u,_,rfl,X.out.verdict 1 a (s.next a)⟩
       ·have aT:Hid (iJ p c=je p (c.drop (k+1)) ((k+1:Nat):Int) (jQ p s a).2 (m++[((a:Int),s.next a)])):=by
         unfold Hid;rw [H.out,l.out,nU _ _ _ _ _ _ HK.out (by simpa using hstp)];simp
        have aG:=il (O.out.step K.out V ai.out);have aQ:=il (aa.out.step p a);have aP:Hid ((m++[((a:Int),s.next a)]).length=k+1):=by unfold Hid;rw [List.length_append,T.out];rfl
        clear hstp;go_wp2_with fail
        go_roundw
        case rel=>exact⟨k+1,_,_,aR,by omega,by go_num,aP,z,aG,aQ,aT⟩
        case measure=>simp [intOf];omega
     ·have hb1':(p.length:Int)<=t:=by omega
      have q:Hid (iJ p c=⟨m,2,0,k,s⟩):=by
       unfold Hid;rw [H.out,l.out];exact kq _ _ _ _ _ _ (by simp [mZ,jE,aH])
      go_wp2_with fail
      go_ret;rw [q.out];exact⟨b,x,u,v,rfl,f.out.verdict 2 0 k⟩
    ·have hb0':t<0:=by omega
     have q:Hid (iJ p c=⟨m,2,0,k,s⟩):=by
      unfold Hid;rw [H.out,l.out];exact kq _ _ _ _ _ _ (by simp [mZ,jE,ay])
     go_wp2_with fail
     go_ret;rw [q.out];exact⟨b,x,u,v,rfl,f.out.verdict 2 0 k⟩
   ·have q:Hid (iJ p c=⟨m,jR p s,0,0,s⟩):=by
     unfold Hid;rw [H.out,List.drop_eq_nil_of_le (by omega)];rfl
    have aW:(c.length:Int)<=(k:Int):=by omega
    clear H T HC;go_wp2_with fail
    go_loopw [11,12,13] (fun dv rv tv w'=>∃ t d r:Nat,t<=p.length/\dv= .int .i64 d/\rv= .int .i64 r/\tv= .int .i64 t/\d<=t/\r<=t/\Hid (d=t↔∀ j,j<t->jS p s j=true)/\Hid (r=0↔∀ j,j<t->jF p s j=false)/\
     Hid (RunAt w w' b x u p.length (.slice N p.length J) v s m 0 0 0)) (fun _ _ tv _=>p.length - (intOf tv).toNat)
    case atStart=>exact⟨0,0,0,Nat.zero_le _,rfl,rfl,rfl,Nat.le_refl _,Nat.le_refl _,⟨fun _ j h=>absurd h (by omega),fun _=>rfl⟩,⟨fun _ j h=>absurd h (by omega),fun _=>rfl⟩,f⟩
    case round=>
     clear f;obtain⟨t,d,r,ht,rfl,rfl,rfl,hd,hr,l,A,f⟩:=hrel;obtain⟨w6,ak⟩:∃ w6,w6=wr:=⟨_,rfl⟩;rw [<-ak]at f ⊢;clear ak;by_cases Q:t<p.length
     ·have t0:(0:Int)<=(t:Int):=by omega
      have W:(t:Int)<p.length:=by omega
      have d1:(d:Int)<=4:=by omega
      have r1:(r:Int)<=4:=by omega
      go_wp2_with fail
      refine(Fl K.out P.out f.out O.out Q).mono ?_;rintro e y ⟨rfl,av⟩;have z:=il (f.out.grown av);clear av f;go_wp2_with fail
      refine(zx K.out P.out z.out O.out aa.out Q).mono ?_;rintro e w8 ⟨rfl,I⟩;have X:=il (z.out.grown I);clear I z;have aK:Hid ((if jS p s t=true then d+1 else d)=t+1↔∀ j,j<t+1->jS p s j=true):=by
       unfold Hid;cases e:jS p s t
       ·simp only [Bool.false_eq_true,if_false];constructor
        ·intro h;omega
        ·intro h;have:=h t (by omega);rw [e]at this;cases this
       ·simp only [if_true];constructor
        ·intro h j o;by_cases af:j=t
         ·rw [af];exact e
         ·exact l.out.1 (by omega) j (by omega)
        ·intro h;have:=l.out.2 (fun j o=>h j (by omega));omega
      have aS:Hid ((if jF p s t=true then r+1 else r)=0↔∀ j,j<t+1->jF p s j=false):=by
       unfold Hid;cases e:jF p s t
       ·simp only [Bool.false_eq_true,if_false];constructor
        ·intro h j o;by_cases af:j=t
         ·rw [af];exact e
         ·exact A.out.1 h j (by omega)
        ·intro h;exact A.out.2 (fun j o=>h j (by omega))
       ·simp only [if_true];constructor
        ·intro h;omega
        ·intro h;have:=h t (by omega);rw [e]at this;cases this
      clear l A;generalize jS p s t=db at*;generalize jF p s t=rb' at*;cases db<;>cases rb'
      all_goals
       go_wp2_with fail
       go_roundw
       case rel=>exact⟨t+1,_,_,by omega,by go_num,by go_num,by go_num,by simp<;>omega,by simp<;>omega,aK,aS,X⟩
       case measure=>simp [intOf];omega
     ·have W:(p.length:Int)<=(t:Int):=by omega
      obtain⟨_,F,B,E,C,D,G⟩:=f.out.vcells;obtain rfl:t=p.length:=by omega
      by_cases U:r=0
      ·have Z:=A.out.1 U;have R:=il (tu Z);subst U;by_cases M:d=p.length
       ·have an:=l.out.1 M;have aI:Hid (jR p s=3):=by
         unfold Hid;rw [R.out,oL,if_pos];rw [List.all_eq_true];intro j o;exact an j (by simpa using o)
        have aj:((d:Int)==(p.length:Int))=true:=by simp;omega
        clear Z an l A R M W;go_wp2_with fail
        go_ret;rw [q.out,aI.out];exact⟨b,x,u,v,rfl,((f.out.kind 5).kind 4).kind 3⟩
       ·have aO:Hid (jR p s=4):=by
         unfold Hid;rw [R.out,oL,if_neg];intro h;rw [List.all_eq_true]at h;exact M (l.out.2 (fun j o=>h j (by simpa using o)))
        have aj:((d:Int)==(p.length:Int))=false:=by simp;omega
        clear Z l A R M W;go_wp2_with fail
        go_ret;rw [q.out,aO.out];exact⟨b,x,u,v,rfl,(f.out.kind 5).kind 4⟩
      ·obtain⟨j,o,ad⟩:∃ j,j<p.length/\jF p s j=true:=by
        by_cases ap:∃ j,j<p.length/\jF p s j=true
        ·exact ap
        ·exfalso
         refine U (A.out.2 (fun j o=>?_));cases e:jF p s j
         ·rfl
         ·exact absurd ⟨j,o,e⟩ ap
       have aM:=il (rK o ad);have M:d≠p.length:=fun e=>by
        have:=l.out.1 e j o;simp [jF,this]at ad
       have aj:((d:Int)==(p.length:Int))=false:=by simp;omega
       have hrb:((r:Int)==0)=false:=by simp;omega
       clear l A M U o ad W;go_wp2_with fail
       go_ret;rw [q.out,aM.out];exact⟨b,x,u,v,rfl,f.out.kind 5⟩
theorem RunAt.regRow{w0 w:World}{b ab rb n:Nat}{ps st:Value}{s:St}{acc:List (Int × Int)}{k th a:Int}(h:RunAt w0 w b ab rb n ps st s acc k th a)(hn:n<=4):
  w.ownsRow w0.heap.size 28 4 (.slice (some ⟨rb,0,none⟩) n n) n (jq n s):=
 ⟨kk n s,Or.inr ⟨rb,n,(jq n s).toArray,rfl,h.rb0,h.regs,Nat.le_refl _,by unfold maxLen;omega,by simp [kk],by rw [<-kk n s];simp⟩⟩
theorem wI(p:List (List Ins))(s:List Int)(pv sv:Value)(w:World)(J:ProgAt w pv p)(G:IntsAt w.heap.size w sv s)(ag:p.length<=5864062014634)(T:∀ c∈p,c.length<=4398046510976):
  Calls Tryz.prog 22 #[pv,sv] w (Replayed p s w):=by
 have L:=il J;have HI:=il G;have aj:=il T;obtain⟨E,D,rfl⟩:=J.form;obtain⟨so,sc,rfl⟩:=G.form;clear J G T;go_enter Tryz.func22,Tryz.ntmps22
 go_wp2_with fail
 have V:∀ a b,w.grownBy ((w.alloc a).alloc b) none:=fun a b=>ir (ir (iu _ _))
 refine(mD p _ _ (L.out.pres (iq (V _ _))) ag aj.out).mono ?_;rintro e i ⟨rfl,m⟩;have k:Hid (w.grownBy i none):=ip (V _ _) m;have hsz1:w.heap.size+2<=i.heap.size:=by have:=m.size;simpa using this
 have Q:i.heap[w.heap.size]?=some (.cells #[.slice E p.length D] 37 (0,0)):=by
  rw [m.block w.heap.size (by simp;omega) (by simp),Below.heap_alloc _ _ _ (by simp)];exact heap_alloc_new w _
 have H:i.heap[w.heap.size+1]?=some (.cells #[.int .i64 0,.int .i64 0,.int .i64 0,.slice none 0 0,.int .i64 0,.int .i64 0,.int .i64 0,.int .i64 0,.slice none 0 0] 31 (0,0)):=by
  rw [m.block (w.heap.size+1) (by simp) (by simp)];have:=heap_alloc_new (w.alloc (.cells #[.slice E p.length D] 37)) (.cells #[.int .i64 0,.int .i64 0,.int .i64 0,.slice none 0 0,.int .i64 0,.int .i64 0,.int .i64 0,.int .i64 0,.slice none 0 0] 31);simpa using this
 have ad:=il H;have c0:i.cell? ⟨w.heap.size,0,none⟩=some (.slice E p.length D):=by simp [World.cell?,Q]
 clear Q m;obtain⟨z,A,u,C,q,B,n,t,x,d⟩:=kw H;have f0:=d 0;have f1:=d 1;have U:=d 2;have Z:=d 3;have W:=d 4;have O:=d 5;have K:=d 6;have N:=d 7;have Y:=d 8;clear d H;by_cases h:iV p=true
 ·have y:jh p=0:=by simp [jh,h]
  have I:=il h;have hlen:=jA h;rw [y];clear y h;by_cases P:s.length<=500
  ·have ae:(s.length:Int)<=500:=by omega
   have j:Hid (iD p s=0):=by unfold Hid iD;simp [I.out,P]
   go_wp2_with fail
   have ac:=il (pF i E D p _ s I.out (L.out.pres (iq k.out)) ((HI.out.pres (iq k.out)).mono k.out.size) (by omega));refine(nk ac).mono ?_;clear ac z A u C q B n t x f0 f1 U Z W O K N Y;rintro e F ⟨b,ab,X,st,rfl,f⟩;obtain⟨x1,x2,x3,rfl⟩:=iy f.row;have R:=il f;have af:Hid (w.grownBy F none):=ip k.out f.frame;have S:F.heap[w.heap.size+1]?=some (.cells #[.int .i64 0,.int .i64 0,.int .i64 0,.slice none 0 0,.int .i64 0,.int .i64 0,.int .i64 0,.int .i64 0,.slice none 0 0] 31 (0,0)):=by
    rw [f.frame.block _ (by omega) (by simp)];exact ad.out
   obtain⟨c10,c11,c12,c13,_,_,_⟩:=f.vcells;have v0:=f.var (l:=0) (by omega);have v1:=f.var (l:=1) (by omega);have v2:=f.var (l:=2) (by omega);have v3:=f.var (l:=3) (by omega);have c2:F.cell? ⟨b,2,none⟩=some (.slice (some ⟨X,0,none⟩) p.length p.length):=(f.cell 2).1;obtain⟨z,A,u,C,q,B,n,t,x,d⟩:=kw S;have f0:=d 0;have f1:=d 1;have U:=d 2;have Z:=d 3;have W:=d 4;have O:=d 5;have K:=d 6;have N:=d 7;have Y:=d 8;have hab:=f.ab0;have habb:=f.abb;have hbw:b≠w.heap.size+1:=by omega
   have hbw':w.heap.size+1≠b:=by omega
   clear d S f c0;generalize M:iJ p s=o at*;have ai:=il M;clear M;go_wp2_with fail
   go_region
   go_wp2
   refine bodyPost_ret (v:= .tuple #[.agg #[.int .i64 o.kind,.int .i64 o.thread,.int .i64 o.at_,.slice x1 x2 x3,.int .i64 (o.st.vars 0),.int .i64 (o.st.vars 1),.int .i64 (o.st.vars 2),.int .i64 (o.st.vars 3),.slice (some ⟨X,0,none⟩) p.length p.length],.int .i64 0]) ?_ rfl ⟨?_,Or.inl ⟨j.out,_,rfl,?_⟩⟩
   ·simp [results,Tryz.results22,go_sem,z,A,u,C,q,B,n,t,x]
   ·refine iz ?_;iterate 9 refine iG ?_ (by omega)
    exact af.out
   ·rw [ai.out];refine⟨_,_,rfl,?_,?_⟩
    ·refine iR (base:=b+1) ?_ (by omega);refine iE (r:=none) ?_ (iz (iu _ _)) (fun _ e=>by cases e);iterate 9 refine ownsRow_setCell_below ?_ (by simp;omega) _
     exact R.out.row
    ·refine iR (base:=i.heap.size) ?_ (by omega);refine iE (r:=none) ?_ (iz (iu _ _)) (fun _ e=>by cases e);iterate 9 refine ownsRow_setCell_below ?_ (by simp;omega) _
     exact R.out.regRow (by omega)
  ·have ae:(500:Int)<s.length:=by omega
   have j:Hid (iD p s=2):=by unfold Hid iD;simp [I.out,P]
   go_wp2_with fail
   refine bodyPost_ret (v:= .tuple #[.agg #[.int .i64 0,.int .i64 0,.int .i64 0,.slice none 0 0,.int .i64 0,.int .i64 0,.int .i64 0,.int .i64 0,.slice none 0 0],.int .i64 2]) ?_ rfl ⟨?_,Or.inr ⟨by rw [j.out];decide,by rw [j.out]⟩⟩
   ·simp [results,Tryz.results22,go_sem,z,A,u,C,q,B,n,t,x]
   ·iterate 9 refine iG ?_ (by omega)
    exact k.out
 ·have y:jh p=1:=by simp [jh,h]
  have j:Hid (iD p s=1):=by unfold Hid iD;simp [h]
  rw [y];clear y h;go_wp2_with fail
  refine bodyPost_ret (v:= .tuple #[.agg #[.int .i64 0,.int .i64 0,.int .i64 0,.slice none 0 0,.int .i64 0,.int .i64 0,.int .i64 0,.int .i64 0,.slice none 0 0],.int .i64 1]) ?_ rfl ⟨?_,Or.inr ⟨by rw [j.out];decide,by rw [j.out]⟩⟩
  ·simp [results,Tryz.results22,go_sem,z,A,u,C,q,B,n,t,x]
  ·iterate 9 refine iG ?_ (by omega)
   exact k.out
end
section
open Go.RowKit
attribute [local go_sem] Go.World.cell?_alloc_some se
theorem re(n:Int)(w:World):Calls Tryz.prog 23 #[.int .i64 n] w fun e w'=>e= .returned (.int .i64 n)/\w'=w:=by
 go_enter Tryz.func23,Tryz.ntmps23
 go_wp2_with fail
 go_ret;exact⟨rfl,rfl⟩
def ResV(p:List (List Ins))(s:List Int)(B:Nat)(w:World)(rv:Value)(c:Int):Prop:=
 ∃ k t a v0 v1 v2 v3 x1 x3 y1 y3 m q,rv= .agg #[.int .i64 k,.int .i64 t,.int .i64 a,.slice x1 m x3,.int .i64 v0,.int .i64 v1,.int .i64 v2,.int .i64 v3,.slice y1 q y3]/\c=iD p s/\
  ((c=0/\k=(iJ p s).kind/\t=(iJ p s).thread/\a=(iJ p s).at_/\v0=(iJ p s).st.vars 0/\v1=(iJ p s).st.vars 1/\v2=(iJ p s).st.vars 2/\v3=(iJ p s).st.vars 3/\m=(iJ p s).steps.length/\q=p.length/\
   w.ownsRow B 76 2 (.slice x1 m x3) (iJ p s).steps.length (iS (iJ p s).steps)/\w.ownsRow B 28 4 (.slice y1 q y3) p.length (jq p.length (iJ p s).st))\/
   (c≠0/\k=0/\t=0/\a=0/\v0=0/\v1=0/\v2=0/\v3=0/\m=0/\q=0/\x1=none/\x3=0/\y1=none/\y3=0))
theorem uq{w:World}{base:Nat}{e:TypeId}{a:Nat}{b:Option Addr}{m c n:Nat}{xs:List Value}(h:w.ownsRow base e a (.slice b m c) n xs):m=n:=by
 rcases h.2 with ⟨e1,e2⟩ | ⟨g',cap',cur,hv,_⟩
 ·simp only [Value.slice.injEq]at e1;rw [e1.2.1];first | exact e2.symm | omega
 ·simp only [Value.slice.injEq]at hv;exact hv.2.1
theorem Replayed.form{p:List (List Ins)}{s:List Int}{w w':World}{e:Ending}(h:Replayed p s w e w'):w.grownBy w' none/\∃ rv c,e= .returned (.tuple #[rv,.int .i64 c])/\ResV p s w.heap.size w' rv c:=by
 obtain⟨a,h⟩:=h;refine⟨a,?_⟩;rcases h with ⟨h0,rv,rfl,sv,gv,rfl,h1,h2⟩ | ⟨h0,rfl⟩
 ·obtain⟨x1,m,x3,rfl⟩:=iy h1;obtain⟨y1,q,y3,rfl⟩:=iy h2;exact⟨_,_,rfl,_,_,_,_,_,_,_,_,_,_,_,_,_,rfl,h0.symm,Or.inl ⟨rfl,rfl,rfl,rfl,rfl,rfl,rfl,rfl,uq h1,uq h2,h1,h2⟩⟩
 ·exact⟨_,_,rfl,_,_,_,_,_,_,_,_,_,_,_,_,_,rfl,rfl,Or.inr ⟨h0,rfl,rfl,rfl,rfl,rfl,rfl,rfl,rfl,rfl,rfl,rfl,rfl,rfl⟩⟩
theorem ResV.same{p:List (List Ins)}{s:List Int}{B i:Nat}{w w':World}{rv f:Value}{c e:Int}(h:ResV p s B w rv c)(b:ResV p s i w' f e):
  c=e/\∃ k t a v0 v1 v2 v3 x1 x3 y1 y3 m q x1' x3' y1' y3',rv= .agg #[.int .i64 k,.int .i64 t,.int .i64 a,.slice x1 m x3,.int .i64 v0,.int .i64 v1,.int .i64 v2,.int .i64 v3,.slice y1 q y3]/\
   f= .agg #[.int .i64 k,.int .i64 t,.int .i64 a,.slice x1' m x3',.int .i64 v0,.int .i64 v1,.int .i64 v2,.int .i64 v3,.slice y1' q y3']:=by
 obtain⟨k,t,a,v0,v1,v2,v3,x1,x3,y1,y3,m,q,rfl,hc,h⟩:=h;obtain⟨k',t',a',v0',v1',v2',v3',x1',x3',y1',y3',m',q',rfl,d,b⟩:=b;refine⟨hc.trans d.symm,?_⟩;rcases h with ⟨h0,rfl,rfl,rfl,rfl,rfl,rfl,rfl,rfl,rfl,_⟩ | ⟨h0,rfl,rfl,rfl,rfl,rfl,rfl,rfl,rfl,rfl,_⟩
 ·rcases b with ⟨h0',rfl,rfl,rfl,rfl,rfl,rfl,rfl,rfl,rfl,_⟩ | ⟨h0',_⟩
  ·exact⟨_,_,_,_,_,_,_,_,_,_,_,_,_,_,_,_,_,rfl,rfl⟩
  ·exact absurd (d.trans (hc.symm.trans h0)) h0'
 ·rcases b with ⟨h0',_⟩ | ⟨h0',rfl,rfl,rfl,rfl,rfl,rfl,rfl,rfl,rfl,_⟩
  ·exact absurd (hc.trans (d.symm.trans h0')) h0
  ·exact⟨_,_,_,_,_,_,_,_,_,_,_,_,_,_,_,_,_,rfl,rfl⟩
end
section
open Go.RowKit
attribute [local go_sem] Go.World.cell?_alloc_some
def nP(i j:Ins):Bool:=
 if (i.op=9\/i.op=10)/\(j.op=9\/j.op=10) then i.a==j.a
 else if i.op=3/\j.op=3 then i.a==j.a
 else if i.op=3/\j.op=2 then i.a==j.b
 else if i.op=2/\j.op=3 then i.b==j.a
 else false
theorem xW{i j:Ins}(h1:0<=i.a)(h2:0<=i.b)(h3:0<=j.a)(h4:0<=j.b):nP i j=md (tou i) (tou j):=by
 unfold nP md tou;rw [Bool.eq_iff_iff];by_cases f:i.op=9\/i.op=10
 ·by_cases c:j.op=9\/j.op=10
  ·simp [f,c];omega
  ·have l:¬i.op=3:=by omega
   have m:¬i.op=2:=by omega
   by_cases e:j.op=2
   ·simp [f,l,m,e]
   ·by_cases d:j.op=3
    ·simp [f,l,m,d]
    ·simp [f,l,m,c,e,d]
 ·by_cases k:i.op=2
  ·by_cases c:j.op=9\/j.op=10
   ·have n:¬j.op=3:=by omega
    simp [k,c,n]
   ·by_cases e:j.op=2
    ·simp [k,e]
    ·by_cases d:j.op=3
     ·simp [k,d];omega
     ·simp [k,c,e,d]
  ·by_cases h:i.op=3
   ·by_cases c:j.op=9\/j.op=10
    ·have n:¬j.op=3:=by omega
     have o:¬j.op=2:=by omega
     simp [h,c,n,o]
    ·by_cases e:j.op=2
     ·simp [h,e];omega
     ·by_cases d:j.op=3
      ·simp [h,d];omega
      ·simp [h,c,e,d]
   ·simp [f,k,h]
theorem rB{w:World}{g:Nat}{x0 x1 x2 x3:Value}{t:TypeId}(h:w.heap[g]?=some (.cells #[x0,x1,x2,x3] t (0,0))):
  w.cell? ⟨g,0,none⟩=some x0/\w.cell? ⟨g,1,none⟩=some x1/\w.cell? ⟨g,2,none⟩=some x2/\w.cell? ⟨g,3,none⟩=some x3/\w.frozen? ⟨g,0,none⟩=false/\w.frozen? ⟨g,1,none⟩=false/\w.frozen? ⟨g,2,none⟩=false/\w.frozen? ⟨g,3,none⟩=false:=by
 simp [World.cell?,World.frozen?,h]
theorem Dg{p:List (List Ins)}(w:World)(pv:Value)(hP:ProgAt w pv p)(_hp:p.length<=4)(l k1 o k2:Nat)(h1:l<p.length)(h2:k1<(iP p l).length)(h3:o<p.length)(h4:k2<(iP p o).length)(_hl1:(iP p l).length<=16)(_hl2:(iP p o).length<=16):
  Calls Tryz.prog 88 #[pv,.agg #[.int .i64 (l:Int),.int .i64 (k1:Int)],.agg #[.int .i64 (o:Int),.int .i64 (k2:Int)]] w fun e w'=>e= .returned (.bool (l==o || nP (jw p l k1) (jw p o k2)))/\w.grownBy w' none:=by
 obtain⟨ao,T,rfl⟩:=hP.form;obtain⟨H,F,ca,cc,P,M,rfl,rfl,m0,m1,m2,m3,m4⟩:=yt hP h1 h2;obtain⟨pg',po',da,dc,L,O,m,rfl,n0,n1,n2,n3,n4⟩:=yt hP h3 h4;simp only [Option.some.injEq,Addr.mk.injEq,and_true]at m;obtain⟨rfl,rfl⟩:=m;have Z:=il (U.intro m0 (U.intro m1 (U.intro m2 (U.intro m3 m4))));have Y:=il (U.intro n0 (U.intro n1 (U.intro n2 (U.intro n3 n4))));clear m0 m1 m2 m3 m4 n0 n1 n2 n3 n4 hP;generalize hcl:(iP p l).length=cl at*;generalize a0:(iP p o).length=dl at*;generalize aV:jw p l (k1:Int)=i at*;generalize aU:jw p o (k2:Int)=j at*;clear hcl a0 aV aU;have q1:(l:Int)<p.length:=by omega
 have q2:(k1:Int)<cl:=by omega
 have q3:(o:Int)<p.length:=by omega
 have q4:(k2:Int)<dl:=by omega
 have q5:(0:Int)<=(l:Int):=by omega
 have q6:(0:Int)<=(k1:Int):=by omega
 have q7:(0:Int)<=(o:Int):=by omega
 have q8:(0:Int)<=(k2:Int):=by omega
 have HA:Hid (∀ a b c,w.grownBy (((w.alloc a).alloc b).alloc c) none):=fun a b c=>ir (ir (ir (iu _ _)))
 by_cases ht:l=o
 ·subst ht;go_enter Tryz.func88,Tryz.ntmps88
  go_wp2_with fail
  go_ret;exact⟨by simp,HA.out _ _ _⟩
 ·have hti:((l:Int)==(o:Int))=false:=by simp;omega
  have HT:Hid ((l==o)=false):=by unfold Hid;simpa using ht
  clear ht;go_enter Tryz.func88,Tryz.ntmps88
  go_upto_region 3 with fail
  obtain⟨d,V⟩:∃ d,d=((w.alloc (.cells #[.slice (some ⟨H,F,none⟩) p.length T] 37)).alloc (.cells #[.int .i64 (l:Int),.int .i64 (k1:Int)] 76)).alloc (.cells #[.int .i64 (o:Int),.int .i64 (k2:Int)] 76):=⟨_,rfl⟩;have ag:Hid (w.grownBy d none):=by unfold Hid;rw [V];exact HA.out _ _ _
  have aY:d.heap.size=w.heap.size+3:=by rw [V];simp
  have b0:d.heap[w.heap.size]?=some (.cells #[.slice (some ⟨H,F,none⟩) p.length T] 37 (0,0)):=by
   rw [V,Below.heap_alloc _ _ _ (by simp;omega),Below.heap_alloc _ _ _ (by simp)];exact heap_alloc_new _ _
  have b1:d.heap[w.heap.size+1]?=some (.cells #[.int .i64 (l:Int),.int .i64 (k1:Int)] 76 (0,0)):=by
   rw [V,Below.heap_alloc _ _ _ (by simp)];have:=heap_alloc_new (w.alloc (.cells #[.slice (some ⟨H,F,none⟩) p.length T] 37)) (.cells #[.int .i64 (l:Int),.int .i64 (k1:Int)] 76);simpa using this
  have b2:d.heap[w.heap.size+2]?=some (.cells #[.int .i64 (o:Int),.int .i64 (k2:Int)] 76 (0,0)):=by
   have:=heap_alloc_new ((w.alloc (.cells #[.slice (some ⟨H,F,none⟩) p.length T] 37)).alloc (.cells #[.int .i64 (l:Int),.int .i64 (k1:Int)] 76)) (.cells #[.int .i64 (o:Int),.int .i64 (k2:Int)] 76);rw [V];simpa using this
  rw [<-V];clear V;have ak:Hid (∀ u,d.grownBy u none->u.cell? ⟨w.heap.size+1,0,none⟩=some (.int .i64 (l:Int))/\u.cell? ⟨w.heap.size+1,1,none⟩=some (.int .i64 (k1:Int))/\u.cell? ⟨w.heap.size,0,none⟩=some (.slice (some ⟨H,F,none⟩) p.length T)/\u.cell? ⟨H,F+l,none⟩=some (.slice (some ⟨P,M,none⟩) cl cc)/\u.cell? ⟨P,M+k1*4,none⟩=some (.int .i64 i.op)/\u.cell? ⟨P,M+k1*4+1,none⟩=some (.int .i64 i.a)/\u.cell? ⟨P,M+k1*4+2,none⟩=some (.int .i64 i.b)/\u.cell? ⟨P,M+k1*4+3,none⟩=some (.int .i64 i.n)):=fun u hu=>by
   have K:∀ x v,w.cell? x=some v->u.cell? x=some v:=fun x v h=>iq (ip ag.out hu) _ _ h
   have G:∀ k,k<d.heap.size->u.heap[k]?=d.heap[k]?:=fun k hk=>hu.block k hk (by simp)
   refine⟨?_,?_,?_,K _ _ Z.out.1,K _ _ Z.out.2.1,K _ _ Z.out.2.2.1,K _ _ Z.out.2.2.2.1,K _ _ Z.out.2.2.2.2⟩
   ·simp only [World.cell?,G _ (by omega:w.heap.size+1<d.heap.size),b1];rfl
   ·simp only [World.cell?,G _ (by omega:w.heap.size+1<d.heap.size),b1];rfl
   ·simp only [World.cell?,G _ (by omega:w.heap.size<d.heap.size),b0];rfl
  have ah:Hid (∀ u,d.grownBy u none->u.cell? ⟨w.heap.size+2,0,none⟩=some (.int .i64 (o:Int))/\u.cell? ⟨w.heap.size+2,1,none⟩=some (.int .i64 (k2:Int))/\u.cell? ⟨w.heap.size,0,none⟩=some (.slice (some ⟨H,F,none⟩) p.length T)/\u.cell? ⟨H,F+o,none⟩=some (.slice (some ⟨L,O,none⟩) dl dc)/\u.cell? ⟨L,O+k2*4,none⟩=some (.int .i64 j.op)/\u.cell? ⟨L,O+k2*4+1,none⟩=some (.int .i64 j.a)/\u.cell? ⟨L,O+k2*4+2,none⟩=some (.int .i64 j.b)/\u.cell? ⟨L,O+k2*4+3,none⟩=some (.int .i64 j.n)):=fun u hu=>by
   have K:∀ x v,w.cell? x=some v->u.cell? x=some v:=fun x v h=>iq (ip ag.out hu) _ _ h
   have G:∀ k,k<d.heap.size->u.heap[k]?=d.heap[k]?:=fun k hk=>hu.block k hk (by simp)
   refine⟨?_,?_,?_,K _ _ Y.out.1,K _ _ Y.out.2.1,K _ _ Y.out.2.2.1,K _ _ Y.out.2.2.2.1,K _ _ Y.out.2.2.2.2⟩
   ·simp only [World.cell?,G _ (by omega:w.heap.size+2<d.heap.size),b2];rfl
   ·simp only [World.cell?,G _ (by omega:w.heap.size+2<d.heap.size),b2];rfl
   ·simp only [World.cell?,G _ (by omega:w.heap.size<d.heap.size),b0];rfl
  clear b0 b1 b2 aY Z Y HA;refine iA (fun u=>u.cell? ⟨w.heap.size+1,0,none⟩=some (.int .i64 (l:Int))/\u.cell? ⟨w.heap.size+1,1,none⟩=some (.int .i64 (k1:Int))/\u.cell? ⟨w.heap.size,0,none⟩=some (.slice (some ⟨H,F,none⟩) p.length T)/\u.cell? ⟨H,F+l,none⟩=some (.slice (some ⟨P,M,none⟩) cl cc)/\u.cell? ⟨P,M+k1*4,none⟩=some (.int .i64 i.op)/\u.cell? ⟨P,M+k1*4+1,none⟩=some (.int .i64 i.a)/\u.cell? ⟨P,M+k1*4+2,none⟩=some (.int .i64 i.b)/\u.cell? ⟨P,M+k1*4+3,none⟩=some (.int .i64 i.n)) 11 (by kernel_rfl) (by kernel_rfl) (ak.out d.drew (iz (iu _ _))) ?_;intro f;refine ij 0 ?va0 rfl (by kernel_rfl) (fun _ _ _ h=>h) (by rfl) ?ya0 f ?_
  case ya0=>(rintro u ⟨y,s,C,r,t,z,B,A⟩;go_simp;try rfl)
  simp only [Act.put,List.setIfInBounds_toArray];refine ij 1 ?va1 rfl (by kernel_rfl) (fun _ _ _ h=>h) (by rfl) ?ya1 f ?_
  case ya1=>(rintro u ⟨y,s,C,r,t,z,B,A⟩;go_simp;try rfl)
  simp only [Act.put];refine ij 2 ?va2 rfl (by kernel_rfl) (fun _ _ _ h=>h) (by rfl) ?ya2 f ?_
  case ya2=>(rintro u ⟨y,s,C,r,t,z,B,A⟩;go_simp;try rfl)
  simp only [Act.put];refine ij 3 ?va3 rfl (by kernel_rfl) (fun _ _ _ h=>h) (by rfl) ?ya3 f ?_
  case ya3=>(rintro u ⟨y,s,C,r,t,z,B,A⟩;go_simp;try rfl)
  simp only [Act.put];refine ij 4 ?va4 rfl (by kernel_rfl) (fun _ _ _ h=>h) (by rfl) ?ya4 f ?_
  case ya4=>(rintro u ⟨y,s,C,r,t,z,B,A⟩;go_simp;try rfl)
  simp only [Act.put];refine ij 5 ?va5 rfl (by kernel_rfl) (fun _ _ _ h=>h) (by rfl) ?ya5 f ?_
  case ya5=>(rintro u ⟨y,s,C,r,t,z,B,A⟩;go_simp;try rfl)
  simp only [Act.put];refine ij 6 ?va6 rfl (by kernel_rfl) (fun _ _ _ h=>h) (by rfl) ?ya6 f ?_
  case ya6=>(rintro u ⟨y,s,C,r,t,z,B,A⟩;go_simp;try rfl)
  simp only [Act.put];refine ij 7 ?va7 rfl (by kernel_rfl) (fun _ _ _ h=>h) (by rfl) ?ya7 f ?_
  case ya7=>(rintro u ⟨y,s,C,r,t,z,B,A⟩;go_simp;try rfl)
  simp only [Act.put];refine ij 8 ?va8 rfl (by kernel_rfl) (fun _ _ _ h=>h) (by rfl) ?ya8 f ?_
  case ya8=>(rintro u ⟨y,s,C,r,t,z,B,A⟩;go_simp;try rfl)
  simp only [Act.put];refine ij 9 ?va9 rfl (by kernel_rfl) (fun _ _ _ h=>h) (by rfl) ?ya9 f ?_
  case ya9=>(rintro u ⟨y,s,C,r,t,z,B,A⟩;go_simp;try rfl)
  simp only [Act.put];refine iw (i:=10) rfl (by kernel_rfl) (by kernel_rfl) (by rfl) ?_;intro Ka ax;have ar:=il ax;clear ax;go_simp;refine ar.out _ _ (ak.out (d.drew.alloc (.cells #[.int .i64 0,.int .i64 0,.int .i64 0,.int .i64 0] 65)) (ip (iu _ _) (ip (iz (iu _ _)) (ir (iu _ _))))) ?_;clear ar;try simp only [Act.put,List.setIfInBounds_toArray]
  refine iI rfl (by kernel_rfl) (by kernel_rfl) (by rfl) ?_;go_simp;clear f;have aq:Hid ((d.alloc (.cells #[.int .i64 i.op,.int .i64 i.a,.int .i64 i.b,.int .i64 i.n] 65)).drew.heap[d.heap.size]?=some (.cells #[.int .i64 i.op,.int .i64 i.a,.int .i64 i.b,.int .i64 i.n] 65 (0,0))):=heap_alloc_new d (.cells #[.int .i64 i.op,.int .i64 i.a,.int .i64 i.b,.int .i64 i.n] 65);have am:Hid (d.grownBy (d.alloc (.cells #[.int .i64 i.op,.int .i64 i.a,.int .i64 i.b,.int .i64 i.n] 65)).drew none):=iz (ir (iu _ _));generalize (d.alloc (.cells #[.int .i64 i.op,.int .i64 i.a,.int .i64 i.b,.int .i64 i.n] 65)).drew=w4 at*;go_wp2_with fail
  refine iA (fun u=>u.cell? ⟨w.heap.size+2,0,none⟩=some (.int .i64 (o:Int))/\u.cell? ⟨w.heap.size+2,1,none⟩=some (.int .i64 (k2:Int))/\u.cell? ⟨w.heap.size,0,none⟩=some (.slice (some ⟨H,F,none⟩) p.length T)/\u.cell? ⟨H,F+o,none⟩=some (.slice (some ⟨L,O,none⟩) dl dc)/\u.cell? ⟨L,O+k2*4,none⟩=some (.int .i64 j.op)/\u.cell? ⟨L,O+k2*4+1,none⟩=some (.int .i64 j.a)/\u.cell? ⟨L,O+k2*4+2,none⟩=some (.int .i64 j.b)/\u.cell? ⟨L,O+k2*4+3,none⟩=some (.int .i64 j.n)) 11 (by kernel_rfl) (by kernel_rfl) (ah.out w4.drew (iz am.out)) ?_;intro f;refine ij 0 ?vb0 rfl (by kernel_rfl) (fun _ _ _ h=>h) (by rfl) ?yb0 f ?_
  case yb0=>(rintro u ⟨y,s,C,r,t,z,B,A⟩;go_simp;try rfl)
  simp only [Act.put,List.setIfInBounds_toArray];refine ij 1 ?vb1 rfl (by kernel_rfl) (fun _ _ _ h=>h) (by rfl) ?yb1 f ?_
  case yb1=>(rintro u ⟨y,s,C,r,t,z,B,A⟩;go_simp;try rfl)
  simp only [Act.put];refine ij 2 ?vb2 rfl (by kernel_rfl) (fun _ _ _ h=>h) (by rfl) ?yb2 f ?_
  case yb2=>(rintro u ⟨y,s,C,r,t,z,B,A⟩;go_simp;try rfl)
  simp only [Act.put];refine ij 3 ?vb3 rfl (by kernel_rfl) (fun _ _ _ h=>h) (by rfl) ?yb3 f ?_
  case yb3=>(rintro u ⟨y,s,C,r,t,z,B,A⟩;go_simp;try rfl)
  simp only [Act.put];refine ij 4 ?vb4 rfl (by kernel_rfl) (fun _ _ _ h=>h) (by rfl) ?yb4 f ?_
  case yb4=>(rintro u ⟨y,s,C,r,t,z,B,A⟩;go_simp;try rfl)
  simp only [Act.put];refine ij 5 ?vb5 rfl (by kernel_rfl) (fun _ _ _ h=>h) (by rfl) ?yb5 f ?_
  case yb5=>(rintro u ⟨y,s,C,r,t,z,B,A⟩;go_simp;try rfl)
  simp only [Act.put];refine ij 6 ?vb6 rfl (by kernel_rfl) (fun _ _ _ h=>h) (by rfl) ?yb6 f ?_
  case yb6=>(rintro u ⟨y,s,C,r,t,z,B,A⟩;go_simp;try rfl)
  simp only [Act.put];refine ij 7 ?vb7 rfl (by kernel_rfl) (fun _ _ _ h=>h) (by rfl) ?yb7 f ?_
  case yb7=>(rintro u ⟨y,s,C,r,t,z,B,A⟩;go_simp;try rfl)
  simp only [Act.put];refine ij 8 ?vb8 rfl (by kernel_rfl) (fun _ _ _ h=>h) (by rfl) ?yb8 f ?_
  case yb8=>(rintro u ⟨y,s,C,r,t,z,B,A⟩;go_simp;try rfl)
  simp only [Act.put];refine ij 9 ?vb9 rfl (by kernel_rfl) (fun _ _ _ h=>h) (by rfl) ?yb9 f ?_
  case yb9=>(rintro u ⟨y,s,C,r,t,z,B,A⟩;go_simp;try rfl)
  simp only [Act.put];refine iw (i:=10) rfl (by kernel_rfl) (by kernel_rfl) (by rfl) ?_;intro Kb aD;have ay:=il aD;clear aD;go_simp;refine ay.out _ _ (ah.out (w4.drew.alloc (.cells #[.int .i64 0,.int .i64 0,.int .i64 0,.int .i64 0] 65)) (ip am.out (ip (iz (iu _ _)) (ir (iu _ _))))) ?_;clear ay;try simp only [Act.put,List.setIfInBounds_toArray]
  refine iI rfl (by kernel_rfl) (by kernel_rfl) (by rfl) ?_;go_simp;clear f;have a4:Hid ((w4.alloc (.cells #[.int .i64 j.op,.int .i64 j.a,.int .i64 j.b,.int .i64 j.n] 65)).drew.heap[w4.heap.size]?=some (.cells #[.int .i64 j.op,.int .i64 j.a,.int .i64 j.b,.int .i64 j.n] 65 (0,0))):=heap_alloc_new w4 (.cells #[.int .i64 j.op,.int .i64 j.a,.int .i64 j.b,.int .i64 j.n] 65);have aw:Hid (w4.grownBy (w4.alloc (.cells #[.int .i64 j.op,.int .i64 j.a,.int .i64 j.b,.int .i64 j.n] 65)).drew none):=iz (ir (iu _ _));generalize (w4.alloc (.cells #[.int .i64 j.op,.int .i64 j.a,.int .i64 j.b,.int .i64 j.n] 65)).drew=w5 at*;have aX:Hid (w5.heap[d.heap.size]?=some (.cells #[.int .i64 i.op,.int .i64 i.a,.int .i64 i.b,.int .i64 i.n] 65 (0,0))):=by
   unfold Hid;rw [aw.out.block _ (Array.getElem?_eq_some_iff.1 aq.out).1 (by simp)];exact aq.out
  have J:Hid (w.grownBy w5 none):=ip ag.out (ip am.out aw.out);obtain⟨i0,i1,i2,X, -⟩:=rB aX.out;obtain⟨W,j1,j2,N, -⟩:=rB a4.out;clear ak ah;have I:Hid ((l==o || nP i j)=nP i j):=by unfold Hid;rw [HT.out];rfl
  go_upto_region 5 with fail
  obtain⟨G,aI⟩:∃ G:Bool,G=decide ((i.op=9\/i.op=10)/\(j.op=9\/j.op=10)):=⟨_,rfl⟩;have R:=il aI;clear aI;go_cut [51] (fun q w'=>q= .bool G/\w'=w5)
  case first=>
   by_cases i9:i.op=9
   ·rw [i9]at i0;by_cases S:j.op=9
    ·rw [S]at W;go_wp2_with fail
     go_meet
     exact⟨by rw [R.out];simp [i9,S],rfl⟩
    ·have e9:(j.op==9)=false:=by simpa using S
     by_cases Q:j.op=10
     ·rw [Q]at W;go_wp2_with fail
      go_meet
      exact⟨by rw [R.out];simp [i9,Q],rfl⟩
     ·have aT:(j.op==10)=false:=by simpa using Q
      go_wp2_with fail
      go_meet
      exact⟨by rw [R.out];simp [S,Q],rfl⟩
   ·have d9:(i.op==9)=false:=by simpa using i9
    by_cases ad:i.op=10
    ·rw [ad]at i0;clear d9;by_cases S:j.op=9
     ·rw [S]at W;go_wp2_with fail
      go_meet
      exact⟨by rw [R.out];simp [ad,S],rfl⟩
     ·have e9:(j.op==9)=false:=by simpa using S
      by_cases Q:j.op=10
      ·rw [Q]at W;clear e9;go_wp2_with fail
       go_meet
       exact⟨by rw [R.out];simp [ad,Q],rfl⟩
      ·have aT:(j.op==10)=false:=by simpa using Q
       go_wp2_with fail
       go_meet
       exact⟨by rw [R.out];simp [S,Q],rfl⟩
    ·have d10:(i.op==10)=false:=by simpa using ad
     go_wp2_with fail
     go_meet
     exact⟨by rw [R.out];simp [i9,ad],rfl⟩
  case rest=>
  obtain⟨rfl,a1⟩:=hcut;have aS:=a1.symm;subst aS;cases G with
  | true=>
   have hh:(i.op=9\/i.op=10)/\(j.op=9\/j.op=10):=by have:=R.out.symm;simpa using this
   have D:Hid (nP i j=(i.a==j.a)):=by unfold Hid nP;simp [hh]
   by_cases m:i.a=j.a
   ·have E:(i.a==j.a)=true:=by simpa using m
    clear m;go_wp2_with fail
    all_goals (go_ret;exact⟨by rw [I.out,D.out,E];first | rfl | simp [*],J.out⟩)
   ·have E:(i.a==j.a)=false:=by simpa using m
    clear m;go_wp2_with fail
    all_goals (go_ret;exact⟨by rw [I.out,D.out,E];first | rfl | simp [*],J.out⟩)
  | false=>
   have hn:¬((i.op=9\/i.op=10)/\(j.op=9\/j.op=10)):=by have:=R.out.symm;simpa using this
   by_cases X:i.op=3
   ·rw [X]at i0;by_cases N:j.op=3
    ·rw [N]at W;have D:Hid (nP i j=(i.a==j.a)):=by unfold Hid nP;simp [X,N]
     by_cases m:i.a=j.a
     ·have E:(i.a==j.a)=true:=by simpa using m
      clear m;go_wp2_with fail
      all_goals (go_ret;exact⟨by rw [I.out,D.out,E];first | rfl | simp [*],J.out⟩)
     ·have E:(i.a==j.a)=false:=by simpa using m
      clear m;go_wp2_with fail
      all_goals (go_ret;exact⟨by rw [I.out,D.out,E];first | rfl | simp [*],J.out⟩)
    ·have e3:(j.op==3)=false:=by simpa using N
     by_cases j2:j.op=2
     ·rw [j2]at W;clear e3;have D:Hid (nP i j=(i.a==j.b)):=by unfold Hid nP;simp [X,j2]
      by_cases m:i.a=j.b
      ·have E:(i.a==j.b)=true:=by simpa using m
       clear m;go_wp2_with fail
       all_goals (go_ret;exact⟨by rw [I.out,D.out,E];first | rfl | simp [*],J.out⟩)
      ·have E:(i.a==j.b)=false:=by simpa using m
       clear m;go_wp2_with fail
       all_goals (go_ret;exact⟨by rw [I.out,D.out,E];first | rfl | simp [*],J.out⟩)
     ·have e2:(j.op==2)=false:=by simpa using j2
      have D:Hid (nP i j=false):=by unfold Hid nP;simp [X,N,j2]
      go_wp2_with fail
      go_ret;exact⟨by rw [I.out,D.out];rfl,J.out⟩
   ·have d3:(i.op==3)=false:=by simpa using X
    by_cases ac:i.op=2
    ·rw [ac]at i0;clear d3;by_cases N:j.op=3
     ·rw [N]at W;have D:Hid (nP i j=(i.b==j.a)):=by unfold Hid nP;simp [ac,N]
      by_cases m:i.b=j.a
      ·have E:(i.b==j.a)=true:=by simpa using m
       clear m;go_wp2_with fail
       all_goals (go_ret;exact⟨by rw [I.out,D.out,E];first | rfl | simp [*],J.out⟩)
      ·have E:(i.b==j.a)=false:=by simpa using m
       clear m;go_wp2_with fail
       all_goals (go_ret;exact⟨by rw [I.out,D.out,E];first | rfl | simp [*],J.out⟩)
     ·have e3:(j.op==3)=false:=by simpa using N
      have D:Hid (nP i j=false):=by unfold Hid nP;simp [ac,N]
      go_wp2_with fail
      go_ret;exact⟨by rw [I.out,D.out];rfl,J.out⟩
    ·have d2:(i.op==2)=false:=by simpa using ac
     have D:Hid (nP i j=false):=by unfold Hid nP;rw [if_neg hn];simp [X,ac]
     go_wp2_with fail
     go_ret;exact⟨by rw [I.out,D.out];rfl,J.out⟩
end
section
theorem zX(d:Ev->Ev->Bool)(L:List (Ev × Nat))(x:Ev)(k:Nat)(b:k<L.length):jj d (L.take (k+1)) x=if d L[k].1 x=true then max (jj d (L.take k) x) (L[k].2+1) else jj d (L.take k) x:=by
 rw [List.take_succ_eq_append_getElem b,uY];have e:jj d [L[k]] x=if d L[k].1 x=true then L[k].2+1 else 0:=by simp [jj]
 rw [e];by_cases h:d L[k].1 x=true
 ·rw [if_pos h,if_pos h]
 ·rw [if_neg h,if_neg h];omega
theorem vj(p:List (List Ins))(xs:List Ev)(x:Ev)(k:Nat):jj (jb p) ((tl (jb p) [] xs).take k) x<=xs.length:=by
 apply ql;intro q c _;have b:q∈tl (jb p) [] xs:=List.mem_of_mem_take c;obtain⟨j,a,rfl⟩:=List.getElem_of_mem b;have:=oN (jb p) xs [] 0 (by simp) j _ (List.getElem?_eq_getElem a);rw [jB]at a;omega
theorem AM{p:List (List Ins)}{o:Out}{xs:List Ev}(h:rx p o xs){k i:Nat}(hki:k<i)(c:i<xs.length):
  jb p (xs[k]'(by omega)) xs[i]=((decide (o.kind=1) && decide (i+1=xs.length)) || ((xs[k]'(by omega)).t==xs[i].t || md (tou (jw p (xs[k]'(by omega)).t (xs[k]'(by omega)).k)) (tou (jw p xs[i].t xs[i].k)))):=by
 have a:=h.gd k (by omega);have b:=h.gd i c;have d:(xs[k]'(by omega)).bad=false:=by rw [a];simp;intro _;omega
 unfold jb;rw [d,b];simp [Bool.or_assoc]
end
section
open Go.RowKit
attribute [local go_sem] Go.World.cell?_alloc_some
structure B2(W w':World)(v:Value)(L:List Int):Prop where
 row:w'.ownsRow W.heap.size 3 1 v L.length (iM L)
 gr:W.grownBy w' none
theorem Ej{p:List (List Ins)}{xs:List Ev}(h500:xs.length<=500){W:World}{b N gc sc:Nat}{C:Option Addr}(O:W.cell? ⟨b,10,none⟩=some (.slice C xs.length sc))
  (HL:Hid (∀ i,i<xs.length->∃ g j d,(jy p xs)[i]?=some (j,d)/\C=some ⟨g,0,none⟩/\W.cell? ⟨N,i,none⟩=some (.int .i64 (j:Int))/\W.cell? ⟨g,i*2,none⟩=some (.int .i64 (d:Int))/\j<=500/\d<4))
  {Q:Exit->Act->World->Prop} {c1 c2 c5 c6 c7 c8 c9 bh ef dx aW aY cx V cy cK a3 b8 aL ck b5 co bZ eu ev aA cS ae ec bR bi dC dM bq br dB dK cj a1 cv dk eh cN bF ek bu aJ af dc cU cZ cf dN X aa bl dy cX cT bH cE cd bC cC bk cp ed bU bG eg dL aP cG ax dh es bz a9 aX aB dr bX a5 ci dU bS d9 dq bO aR ca cl ct bm dt cn aq bt bJ d5 bT cL am dJ ad aj aw aM ak el ar Y cm ab:Value}
  (HQ:Hid (∀ {z0 z1 z3 z4 z5 z6 z7 z8 z9 Z cD b3 cQ cF a8 dm cB du ee a6 bY en dI eo df b7 dY a4 bp ay bA aQ dH bc dD aC ce cY dw bD d0 bK ai dZ bg bd db aU b4 d6 c3 ag dW bv bW cw cM dd bw er bE dj et cV cW eb b1 dQ dX dg da bx di au ch cR ea ei cO aH aD dz b9 em cH dO az cz bB aK ah bN dA d8 dR d4 eq ap cI a7 bQ aT cJ bM b0 dE de cc aE cP ba aF be bf b2 cA:Value} (v:Value) (w':World),B2 W w' v (nx (jT xs.length (jy p xs)))->Q .ret ⟨#[z0,z1,v,z3,z4,z5,z6,z7,z8,z9,Z,cD,b3,cQ,cF,a8,dm,cB,du,ee,a6,bY,en,dI,eo,df,b7,dY,a4,bp,ay,bA,aQ,dH,bc,dD,aC,ce,cY,dw,bD,d0,bK,ai,dZ,bg,bd,db,aU,b4,d6,c3,ag,dW,bv,bW,cw,cM,dd,bw,er,bE,dj,et,cV,cW,eb,b1,dQ,dX,dg,da,bx,di,au,ch,cR,ea,ei,cO,aH,aD,dz,b9,em,cH,dO,az,cz,bB,aK,ah,bN,dA,d8,dR,d4,eq,ap,cI,a7,bQ,aT,cJ,bM,b0,dE,de,cc,aE,cP,ba,aF,be,bf,b2,cA],[]⟩ w')):
  Code.wp Tryz.prog (oO Tryz.f57 14) Q ⟨#[.pointer (some ⟨b,0,none⟩),c1,c2,.int .i64 (xs.length:Int),.slice (some ⟨N,0,none⟩) xs.length gc,c5,c6,c7,c8,c9,bh,ef,dx,aW,aY,cx,V,cy,cK,a3,b8,aL,ck,b5,co,bZ,eu,ev,aA,cS,ae,ec,bR,bi,dC,dM,bq,br,dB,dK,cj,a1,cv,dk,eh,cN,bF,ek,bu,aJ,af,dc,cU,cZ,cf,dN,X,aa,bl,dy,cX,cT,bH,cE,cd,bC,cC,bk,cp,ed,bU,bG,eg,dL,aP,cG,ax,dh,es,bz,a9,aX,aB,dr,bX,a5,ci,dU,bS,d9,dq,bO,aR,ca,cl,ct,bm,dt,cn,aq,bt,bJ,d5,bT,cL,am,dJ,ad,aj,aw,aM,ak,el,ar,Y,cm,ab],[]⟩ W:=by
 conv=>arg 2;whnf
 obtain⟨i0,cq,dn,bP,cu⟩:=info_parts qZ;have q0:(xs.length:Int)<=500:=by omega
 have q1:(0:Int)<=(xs.length:Int):=by omega
 have H:=qV p xs;have J:=il H;have bI:=il (fun l t i U D=>E0 (jy p xs) l t i U D (by omega));have A:Hid (B2 W W (.slice none 0 0) (nx (kS (jy p xs) 0 0 0))):=⟨by rw [zQ];exact⟨rfl,Or.inl ⟨rfl,rfl⟩⟩,iu _ _⟩;have dl:=il O;clear H O;go_wp2_with fail
 go_loopw [8,9] (fun ov lv w'=>∃ l:Nat,l<=xs.length/\lv= .int .i64 l/\Hid (B2 W w' ov (nx (kS (jy p xs) l 0 0)))) (fun _ lv _=>xs.length - (intOf lv).toNat)
 case atStart=>exact⟨0,Nat.zero_le _,rfl,A⟩
 case round=>
  clear A;obtain⟨l,U,rfl,s⟩:=hrel;obtain⟨B,F⟩:∃ B,B=wr:=⟨_,rfl⟩;rw [<-F]at s ⊢;clear F;by_cases hlt:l<xs.length
  ·have t0:(0:Int)<=(l:Int):=by omega
   have t1:(l:Int)<xs.length:=by omega
   go_wp2_with fail
   go_loopw [8,10] (fun ov tv w'=>∃ t:Nat,t<=4/\tv= .int .i64 t/\Hid (B2 W w' ov (nx (kS (jy p xs) l t 0)))) (fun _ tv _=>4 - (intOf tv).toNat)
   case atStart=>exact⟨0,Nat.zero_le _,rfl,s⟩
   case round=>
    clear s;obtain⟨t,D,rfl,u⟩:=hrel;obtain⟨E,S⟩:∃ E,E=wr:=⟨_,rfl⟩;rw [<-S]at u ⊢;clear S;by_cases htl:t<4
    ·have t2:(t:Int)<4:=by omega
     go_wp2_with fail
     go_loopw [8,11] (fun ov iv w'=>∃ i:Nat,i<=xs.length/\iv= .int .i64 i/\Hid (B2 W w' ov (nx (kS (jy p xs) l t i)))) (fun _ iv _=>xs.length - (intOf iv).toNat)
     case atStart=>exact⟨0,Nat.zero_le _,rfl,u⟩
     case round=>
      clear u;obtain⟨i,hi,rfl,a⟩:=hrel;obtain⟨k,z⟩:∃ k,k=wr:=⟨_,rfl⟩;rw [<-z]at a ⊢;clear z;by_cases dF:i<xs.length
      ·have t3:(0:Int)<=(i:Int):=by omega
       have t4:(i:Int)<xs.length:=by omega
       obtain⟨g,j,d,w,dp,P,R,y,x⟩:=HL.out i dF;subst dp;have T:=iq a.out.gr _ _ P;have d2:=iq a.out.gr _ _ R;have d3:=iq a.out.gr _ _ dl.out;have L:i<(jy p xs).length:=by have:=J.out;omega
       have I:(jy p xs)[i]=(j,d):=by rw [List.getElem?_eq_getElem L]at w;simpa using w
       have h:=il (B4 (jy p xs) l t i L);rw [I]at h;clear w I P R;obtain⟨ao,an,ac,a0⟩:=iy a.out.row;subst a0;have bL:=iC a.out.row;subst bL;by_cases f:j=l
       ·by_cases o:d=t
        ·have c:nx (kS (jy p xs) l t (i+1))=nx (kS (jy p xs) l t i)++[(t:Int)]:=by rw [h.out,f,o];simp
         have n:=il c;have r:=bI.out l t i (by omega) (by omega);have hle2:(nx (kS (jy p xs) l t i)).length<=2000000:=by unfold nx;rw [List.length_map];exact r
         have aO:(nx (kS (jy p xs) l t i)).length+1<=maxLen:=by unfold maxLen;omega
         have hsz:W.heap.size<=k.heap.size:=a.out.gr.size;rw [f]at T;rw [o]at d2;clear h c r f o y x;go_wp2_with (at_builtin;refine wpList_append_lies _ rfl _ _ _ rfl W.heap.size 3 i0 _ 1 8 Tryz.underlying39 cq dn bP cu rfl (by omega) (.slice ao (nx (kS (jy p xs) l t i)).length ac) (nx (kS (jy p xs) l t i)).length (iM (nx (kS (jy p xs) l t i))) rfl (iK a.out.row) ⟨k.heap.size,0,none⟩ 1 1 [.int .i64 (t:Int)] rfl rfl (World.news_of_block (cs:= #[.int .i64 (t:Int)]) (t:=3) (fr:=(0,0)) (heap_alloc_new k _)) (by simp [Value.oneCell']) (by omega) aO (by omega) (by simp;omega) (k.heap.size+1) (by simp) ?_;intro g8 cap8 w8 M K cr cg;have a2:=il M;have dV:Hid (W.grownBy w8 none):=jH (ir a.out.gr) K (fun q e=>iB a.out.row q e);clear M K cr cg)
         go_roundw
         case rel=>exact⟨i+1,by omega,by go_num,⟨by rw [n.out,List.length_append];simpa [iM]using a2.out,dV.out⟩⟩
         case measure=>simp [intOf];omega
        ·have c:nx (kS (jy p xs) l t (i+1))=nx (kS (jy p xs) l t i):=by rw [h.out];simp [o]
         have n:=il c;have e2':((d:Int)==(t:Int))=false:=by simp;omega
         rw [f]at T;clear h c f o y x;go_wp2_with fail
         go_roundw
         case rel=>exact⟨i+1,by omega,by go_num,by rw [n.out];exact a.out⟩
         case measure=>simp [intOf];omega
       ·have c:nx (kS (jy p xs) l t (i+1))=nx (kS (jy p xs) l t i):=by rw [h.out];simp [f]
        have n:=il c;have e1':((j:Int)==(l:Int))=false:=by simp;omega
        clear h c f y x;go_wp2_with fail
        go_roundw
        case rel=>exact⟨i+1,by omega,by go_num,by rw [n.out];exact a.out⟩
        case measure=>simp [intOf];omega
      ·have t4:(xs.length:Int)<=(i:Int):=by omega
       have m:Hid (kS (jy p xs) l t i=kS (jy p xs) l (t+1) 0):=wK _ _ _ _ (by rw [J.out];omega);go_wp2_with fail
       go_roundw
       case rel=>exact⟨t+1,by omega,by go_num,by rw [<-m.out];exact a.out⟩
       case measure=>simp [intOf];omega
    ·have t2:(4:Int)<=(t:Int):=by omega
     have G:t=4:=by omega
     have m:Hid (kS (jy p xs) l t 0=kS (jy p xs) (l+1) 0 0):=by unfold Hid;rw [G];exact yX _ _
     clear G;go_wp2_with fail
     go_roundw
     case rel=>exact⟨l+1,by omega,by go_num,by rw [<-m.out];exact u.out⟩
     case measure=>simp [intOf];omega
  ·have t1:(xs.length:Int)<=(l:Int):=by omega
   have r:l=xs.length:=by omega
   have m:Hid (kS (jy p xs) l 0 0=jT xs.length (jy p xs)):=by unfold Hid;rw [r];exact Cn _ _
   clear r;go_wp2_with fail
   exact HQ.out _ _ (by rw [<-m.out];exact s.out)
end
end Go.Proofs.YtklenjmfalljgabGreatDoor
