/- The texts Rff Rfg Rfh Eq4 Ask PureC Hnd Hnd2 Hnd3 Hnd4 Hga Hgb Hgc Hge Hgf. -/
import Derived.Test.YtklenjmfalljgabGreatDoorMB
import Derived.ChangeKeysEq
import Derived.Laws.CopyOwn
namespace Go.Proofs.YtklenjmfalljgabGreatDoor
set_option maxRecDepth 100000
set_option maxHeartbeats 8000000
section
open Go.RowKit
attribute [local go_sem] Go.World.cell?_alloc_some
theorem Fe(n:Nat)(b:n=1\/n=2\/n=3\/n=4):
  (∀ u:World,(Instr.makeSlice 39 (.int .i64 n) (.int .i64 n)).run Tryz.prog u= .ok (.slice (some ⟨u.heap.size,0,none⟩) n n) (u.alloc (.cells (atF n St.zero).toArray 3)))/\
  (∀ u:World,(Instr.makeSlice 29 (.int .i64 n) (.int .i64 n)).run Tryz.prog u= .ok (.slice (some ⟨u.heap.size,0,none⟩) n n) (u.alloc (.cells (jp n St.zero).toArray 28))):=by
 obtain⟨f,h,d,a,i⟩:=info_parts ko;obtain⟨m,k,j,c,l⟩:=info_parts wu;constructor
 ·intro u;have:=run_makeSlice (P:=Tryz.prog) u 39 3 f _ Tryz.underlying39 h d .i64 .i64 n n (by omega) (Int.le_refl _) (by rw [a];omega) (by rw [i];omega) (by omega);rw [this,a];have e:madeCells (Value.int .i64 0).cells ((n:Int).toNat*1)=(atF n St.zero).toArray:=by
   rcases b with rfl | rfl | rfl | rfl<;>first | kernel_rfl | simp [madeCells,atF,Value.cells,St.zero,Array.range,List.range_succ]
  rw [e];rfl
 ·intro u;have:=run_makeSlice (P:=Tryz.prog) u 29 28 m _ Tryz.underlying29 k j .i64 .i64 n n (by omega) (Int.le_refl _) (by rw [c];omega) (by rw [l];omega) (by omega);rw [this,c];have e:madeCells (Value.agg #[.int .i64 0,.int .i64 0,.int .i64 0,.int .i64 0]).cells ((n:Int).toNat*4)=(jp n St.zero).toArray:=by
   rcases b with rfl | rfl | rfl | rfl<;>first | kernel_rfl | simp [madeCells,jp,Value.cells,St.zero,Array.range,List.range_succ]
  rw [e];rfl
theorem sn(w:World)(X:Obj)(n:Nat)(b:Value)(a:TypeId):RunAt w ((((w.alloc X).alloc (.cells (atF n St.zero).toArray a)).alloc (.cells (jp n St.zero).toArray 28)).alloc (.cells (wO b (w.heap.size+1) (w.heap.size+1+1) n (.slice none 0 0) St.zero 0 0 0) 51))
  (w.heap.size+1+1+1) (w.heap.size+1) (w.heap.size+1+1) n b (.slice none 0 0) St.zero [] 0 0 0:=by
 refine⟨?_,⟨a,?_⟩,?_,⟨rfl,Or.inl ⟨rfl,rfl⟩⟩,iq (iq (iq (iq (ir _ _)))),by omega,by omega,by omega,by omega,by omega⟩
 ·have:=heap_alloc_new (((w.alloc X).alloc (.cells (atF n St.zero).toArray a)).alloc (.cells (jp n St.zero).toArray 28)) (.cells (wO b (w.heap.size+1) (w.heap.size+1+1) n (.slice none 0 0) St.zero 0 0 0) 51);simpa using this
 ·rw [Below.heap_alloc _ _ _ (by simp),Below.heap_alloc _ _ _ (by simp)];have:=heap_alloc_new (w.alloc X) (.cells (atF n St.zero).toArray a);simpa using this
 ·rw [Below.heap_alloc _ _ _ (by simp)];have:=heap_alloc_new ((w.alloc X).alloc (.cells (atF n St.zero).toArray a)) (.cells (jp n St.zero).toArray 28);simpa using this
theorem ti(w:World)(X:Obj)(n:Nat)(b:Value)(a:TypeId):RunAt w ((((w.alloc X).alloc (.cells (jp n St.zero).toArray 28)).alloc (.cells (atF n St.zero).toArray a)).alloc (.cells (wO b (w.heap.size+1+1) (w.heap.size+1) n (.slice none 0 0) St.zero 0 0 0) 51))
  (w.heap.size+1+1+1) (w.heap.size+1+1) (w.heap.size+1) n b (.slice none 0 0) St.zero [] 0 0 0:=by
 refine⟨?_,⟨a,?_⟩,?_,⟨rfl,Or.inl ⟨rfl,rfl⟩⟩,iq (iq (iq (iq (ir _ _)))),by omega,by omega,by omega,by omega,by omega⟩
 ·have:=heap_alloc_new (((w.alloc X).alloc (.cells (jp n St.zero).toArray 28)).alloc (.cells (atF n St.zero).toArray a)) (.cells (wO b (w.heap.size+1+1) (w.heap.size+1) n (.slice none 0 0) St.zero 0 0 0) 51);simpa using this
 ·rw [Below.heap_alloc _ _ _ (by simp)];have:=heap_alloc_new ((w.alloc X).alloc (.cells (jp n St.zero).toArray 28)) (.cells (atF n St.zero).toArray a);simpa using this
 ·rw [Below.heap_alloc _ _ _ (by simp),Below.heap_alloc _ _ _ (by simp)];have:=heap_alloc_new (w.alloc X) (.cells (jp n St.zero).toArray 28);simpa using this
theorem RunAt.verdict{l w:World}{b f m n:Nat}{j e:Value}{s:St}{i:List (Int × Int)}{k r a:Int}(h:RunAt l w b f m n j e s i k r a)(c d q:Int):
  RunAt l (((w.setCell ⟨b,11,none⟩ (.int .i64 c)).setCell ⟨b,12,none⟩ (.int .i64 d)).setCell ⟨b,13,none⟩ (.int .i64 q)) b f m n j e s i c d q:=by
 have o:RunAt l (w.setCell ⟨b,11,none⟩ (.int .i64 c)) b f m n j e s i c r a:=h.setMain rfl rfl rfl h.row;have p:RunAt l ((w.setCell ⟨b,11,none⟩ (.int .i64 c)).setCell ⟨b,12,none⟩ (.int .i64 d)) b f m n j e s i c d a:=o.setMain rfl rfl rfl o.row;exact p.setMain rfl rfl rfl p.row
theorem RunAt.vcells{w0 w:World}{b ab rb n:Nat}{ps st:Value}{s:St}{acc:List (Int × Int)}{k th a:Int}(h:RunAt w0 w b ab rb n ps st s acc k th a):
  w.cell? ⟨b,10,none⟩=some st/\w.cell? ⟨b,11,none⟩=some (.int .i64 k)/\w.cell? ⟨b,12,none⟩=some (.int .i64 th)/\w.cell? ⟨b,13,none⟩=some (.int .i64 a)/\w.frozen? ⟨b,11,none⟩=false/\w.frozen? ⟨b,12,none⟩=false/\w.frozen? ⟨b,13,none⟩=false:=
 ⟨(h.cell 10).1,(h.cell 11).1,(h.cell 12).1,(h.cell 13).1,(h.cell 11).2,(h.cell 12).2,(h.cell 13).2⟩
theorem RunAt.kind{w0 w:World}{b ab rb n:Nat}{ps st:Value}{s:St}{acc:List (Int × Int)}{k th a:Int}(h:RunAt w0 w b ab rb n ps st s acc k th a)(k':Int):
  RunAt w0 (w.setCell ⟨b,11,none⟩ (.int .i64 k')) b ab rb n ps st s acc k' th a:=h.setMain rfl rfl rfl h.row
theorem RunAt.last{t w:World}{b m p n:Nat}{r i:Value}{s:St}{c:List (Int × Int)}{k o a:Int}{x:Int × Int}(h:RunAt t w b m p n r i s (c++[x]) k o a):
  ∃ g cap,i= .slice (some ⟨g,0,none⟩) (c.length+1) cap/\w.cell? ⟨g,c.length*2,none⟩=some (.int .i64 x.1)/\w.cell? ⟨g,c.length*2+1,none⟩=some (.int .i64 x.2):=by
 have l:=h.row;rw [List.length_append]at l;have d:∀ q:List (Int × Int),(iR q).length=q.length*2:=fun q=>by
  induction q with
  | nil=>rfl
  | cons y q ih=>
   have:iR (y::q)= .int .i64 y.1:: .int .i64 y.2::iR q:=rfl;rw [this];simp [ih];omega
 rcases l.2 with ⟨_,e2⟩ | ⟨g,cap,cur,hv,hb,hh,hx⟩
 ·simp at e2
 ·have key:∀ j v,(iR (c++[x]))[j]?=some v->w.cell? ⟨g,j,none⟩=some v:=fun j v e=>by
   rw [<-hx.2.2.2,List.getElem?_take]at e;by_cases f:j<(c.length+[x].length)*2
   ·rw [if_pos f]at e;simp only [World.cell?,hh];simpa using e
   ·rw [if_neg f]at e;cases e
  refine⟨g,cap,hv,key _ _ ?_,key _ _ ?_⟩
  ·rw [nj,List.getElem?_append_right (by rw [d];omega),d];simp
  ·rw [nj,List.getElem?_append_right (by rw [d];omega),d];simp
def Fx(w:World)(n:Nat)(ps:Value)(o:Out)(e:Ending)(w':World):Prop:=
 ∃ b ab rb st,e= .returned (.pointer (some ⟨b,0,none⟩))/\RunAt w w' b ab rb n ps st o.st o.steps o.kind o.thread o.at_
theorem pD(w:World)(J:Option Addr)(N:Nat)(p:List (List Ins))(sv:Value)(c:List Int)(Z:iU p=true)(hP:ProgAt w (.agg #[.slice J p.length N]) p)(hI:IntsAt w.heap.size w sv c)(h500:c.length<=1048576):
  Calls Tryz.prog 10 #[.agg #[.slice J p.length N],sv] w (Fx w p.length (.slice J p.length N) (iI p c)):=by
 have hn:=jz Z;have O:=ij hP;have K:=ij Z;have HI:=ij hI;clear Z hP hI;go_enter Tryz.func10,Tryz.ntmps10
 go_upto_region 2 with fail
 go_cut [6] (fun pv w'=>∃ b u v q,pv= .pointer (some ⟨b,0,none⟩)/\RunAt w w' b u v p.length (.slice J p.length N) q St.zero [] 0 0 0)
 case first=>
  have hN:p.length=1\/p.length=2\/p.length=3\/p.length=4:=by omega
  clear O K;generalize p.length=n at*;obtain⟨hmA,hmB⟩:=Fe n hN;have n4:(n:Int)<=4:=by omega
  clear hN;go_region
  all_goals go_wp2
  all_goals go_meet
  ·first | exact⟨_,_,_,_,rfl,(sn w _ n _ _).like ⟨rfl,rfl,rfl,rfl⟩⟩ | exact⟨_,_,_,_,rfl,(ti w _ n _ _).like ⟨rfl,rfl,rfl,rfl⟩⟩
  ·first | exact⟨_,_,_,_,rfl,(sn w _ n _ _).like ⟨rfl,rfl,rfl,rfl⟩⟩ | exact⟨_,_,_,_,rfl,(ti w _ n _ _).like ⟨rfl,rfl,rfl,rfl⟩⟩
 case rest=>
  obtain⟨b,u,v,aS,rfl,ak⟩:=hcut;have aP:=ij ak;clear ak;obtain⟨so,sc,rfl,hsz,al⟩:=HI.out;have HC:=ij al;clear al HI;have q1:(c.length:Int)<=1048576:=by omega
  have q2:(p.length:Int)<=4:=by omega
  go_wp2_with fail
  go_loopw [7] (fun i w'=>∃ (k:Nat) (s:St) (m:List (Int × Int)) (q:Value),k<=c.length/\i= .int .i64 k/\Hid (m.length=k)/\Hid (RunAt w w' b u v p.length (.slice J p.length N) q s m 0 0 0)/\Hid (Inv p s)/\Hid (LkOk s)/\
   Hid (iI p c=jd p (c.drop k) k s m)) (fun i _=>c.length - (intOf i).toNat)
  case atStart=>exact⟨0,St.zero,[],aS,Nat.zero_le _,rfl,rfl,aP,Inv.zero p,LkOk.zero,rfl⟩
  case round=>
   obtain⟨k,s,m,q,hk,rfl,W,f,Q,aa,H⟩:=hrel;obtain⟨w5,aC⟩:∃ w5,w5=wr:=⟨_,rfl⟩;rw [<-aC]at f ⊢;clear aC;by_cases P:k<c.length
   ·obtain⟨gb,go,rfl,hgb,hc⟩:=HC.out k P;have ac:=ip f.out.frame _ _ hc;clear hc;have l:Hid (c.drop k=c[k]::c.drop (k+1)):=List.drop_eq_getElem_cons P;generalize c[k]=t at*;have hk0:(0:Int)<=(k:Int):=by omega
    have aM:(k:Int)<c.length:=by omega
    obtain⟨_,G,D,C,E,F,B⟩:=f.out.vcells;by_cases ar:0<=t
    ·by_cases aK:t<p.length
     ·obtain⟨a,rfl⟩:=Int.eq_ofNat_of_zero_le ar;have R:a<p.length:=by omega
      go_wp2_with fail
      refine(zC K.out O.out f.out Q.out aa.out R).mono ?_;rintro e w6 ⟨rfl,ag⟩;have T:=ij (f.out.grown ag);replace ac:=ip ag _ _ ac;clear ag G D C E F B f;obtain⟨_,G,D,C,E,F,B⟩:=T.out.vcells;cases hrd:jE p s a
      ·have x:Hid (iI p c=⟨m,2,0,k,s⟩):=by
        unfold Hid;rw [H.out,l.out];exact kn _ _ _ _ _ _ (by simp [m8,hrd])
       clear hrd;go_wp2_with fail
       go_ret;rw [x.out];exact⟨b,u,v,q,rfl,T.out.verdict 2 0 k⟩
      ·have HK:Hid (m8 p s a=true):=by
        unfold Hid m8 jD;simp [hrd,R]
       have ai:Hid (jR p s a=false):=by
        unfold Hid;cases hd:jR p s a with
        | false=>rfl
        | true=>simp [jE,hd]at hrd
       clear hrd G D C E F B;go_wp2_with fail
       refine(Fu K.out O.out T.out Q.out R ai.out (by rw [W.out];omega)).mono ?_;rintro e y ⟨aI,rfl,az⟩;have z:=ij az;clear az T ac;cases hstp:(jP p s a).1
       ·have x:Hid (iI p c=⟨m++[((a:Int),s.next a)],1,a,s.next a,(jP p s a).2⟩):=by
         unfold Hid;rw [H.out,l.out];exact mQ _ _ _ _ _ _ HK.out (by simpa using hstp)
        clear hstp;obtain⟨lg,lc,rfl,l1,l2⟩:=z.out.last;obtain⟨aU,G,D,C,E,F,B⟩:=z.out.vcells;have aN:Hid (m.length<1048576):=by unfold Hid;rw [W.out];omega
        generalize aq:m.length=L at*;have HGL:=ij aq;clear aq;have hL:(L:Int)<1048576:=by have:=aN.out;omega
        go_wp2_with fail
        go_region
        have I:y.grownBy (y.alloc (.cells #[.int .i64 a,.int .i64 (s.next a)] 76)).drew none:=iy (iq (ir _ _));have S:(y.alloc (.cells #[.int .i64 a,.int .i64 (s.next a)] 76)).drew.heap[y.heap.size]?=some (.cells #[.int .i64 a,.int .i64 (s.next a)] 76 (0,0)):=heap_alloc_new y _;generalize (y.alloc (.cells #[.int .i64 a,.int .i64 (s.next a)] 76)).drew=w8 at I S ⊢;have U:=ij (z.out.grown I);have z0:w8.cell? ⟨y.heap.size,0,none⟩=some (.int .i64 a):=by simp [World.cell?,S]
        have z1:w8.cell? ⟨y.heap.size,1,none⟩=some (.int .i64 (s.next a)):=by simp [World.cell?,S]
        clear I S aU G D C E F B l1 l2 z;obtain⟨_,G,D,C,E,F,B⟩:=U.out.vcells;go_wp2
        go_ret;rw [x.out];exact⟨b,u,v,_,rfl,U.out.verdict 1 a (s.next a)⟩
       ·have aT:Hid (iI p c=jd p (c.drop (k+1)) ((k+1:Nat):Int) (jP p s a).2 (m++[((a:Int),s.next a)])):=by
         unfold Hid;rw [H.out,l.out,nO _ _ _ _ _ _ HK.out (by simpa using hstp)];simp
        have aF:=ij (Q.out.step K.out R ai.out);have aV:=ij (aa.out.step p a);have aJ:Hid ((m++[((a:Int),s.next a)]).length=k+1):=by unfold Hid;rw [List.length_append,W.out];rfl
        clear hstp;go_wp2_with fail
        go_roundw
        case rel=>exact⟨k+1,_,_,aI,by omega,by go_num,aJ,z,aF,aV,aT⟩
        case measure=>simp [intOf];omega
     ·have hb1':(p.length:Int)<=t:=by omega
      have x:Hid (iI p c=⟨m,2,0,k,s⟩):=by
       unfold Hid;rw [H.out,l.out];exact kn _ _ _ _ _ _ (by simp [m8,jD,aK])
      go_wp2_with fail
      go_ret;rw [x.out];exact⟨b,u,v,q,rfl,f.out.verdict 2 0 k⟩
    ·have hb0':t<0:=by omega
     have x:Hid (iI p c=⟨m,2,0,k,s⟩):=by
      unfold Hid;rw [H.out,l.out];exact kn _ _ _ _ _ _ (by simp [m8,jD,ar])
     go_wp2_with fail
     go_ret;rw [x.out];exact⟨b,u,v,q,rfl,f.out.verdict 2 0 k⟩
   ·have x:Hid (iI p c=⟨m,jQ p s,0,0,s⟩):=by
     unfold Hid;rw [H.out,List.drop_eq_nil_of_le (by omega)];rfl
    have aM:(c.length:Int)<=(k:Int):=by omega
    clear H W HC;go_wp2_with fail
    go_loopw [11,12,13] (fun dv rv tv w'=>∃ t d r:Nat,t<=p.length/\dv= .int .i64 d/\rv= .int .i64 r/\tv= .int .i64 t/\d<=t/\r<=t/\Hid (d=t↔∀ j,j<t->jR p s j=true)/\Hid (r=0↔∀ j,j<t->jE p s j=false)/\
     Hid (RunAt w w' b u v p.length (.slice J p.length N) q s m 0 0 0)) (fun _ _ tv _=>p.length - (intOf tv).toNat)
    case atStart=>exact⟨0,0,0,Nat.zero_le _,rfl,rfl,rfl,Nat.le_refl _,Nat.le_refl _,⟨fun _ j h=>absurd h (by omega),fun _=>rfl⟩,⟨fun _ j h=>absurd h (by omega),fun _=>rfl⟩,f⟩
    case round=>
     clear f;obtain⟨t,d,r,ht,rfl,rfl,rfl,hd,hr,l,A,f⟩:=hrel;obtain⟨w6,av⟩:∃ w6,w6=wr:=⟨_,rfl⟩;rw [<-av]at f ⊢;clear av;by_cases P:t<p.length
     ·have t0:(0:Int)<=(t:Int):=by omega
      have X:(t:Int)<p.length:=by omega
      have d1:(d:Int)<=4:=by omega
      have r1:(r:Int)<=4:=by omega
      go_wp2_with fail
      refine(FU K.out O.out f.out Q.out P).mono ?_;rintro e y ⟨rfl,au⟩;have z:=ij (f.out.grown au);clear au f;go_wp2_with fail
      refine(zC K.out O.out z.out Q.out aa.out P).mono ?_;rintro e w8 ⟨rfl,I⟩;have U:=ij (z.out.grown I);clear I z;have aQ:Hid ((if jR p s t=true then d+1 else d)=t+1↔∀ j,j<t+1->jR p s j=true):=by
       unfold Hid;cases e:jR p s t
       ·simp only [Bool.false_eq_true,if_false];constructor
        ·intro h;omega
        ·intro h;have:=h t (by omega);rw [e]at this;cases this
       ·simp only [if_true];constructor
        ·intro h j o;by_cases ah:j=t
         ·rw [ah];exact e
         ·exact l.out.1 (by omega) j (by omega)
        ·intro h;have:=l.out.2 (fun j o=>h j (by omega));omega
      have aL:Hid ((if jE p s t=true then r+1 else r)=0↔∀ j,j<t+1->jE p s j=false):=by
       unfold Hid;cases e:jE p s t
       ·simp only [Bool.false_eq_true,if_false];constructor
        ·intro h j o;by_cases ah:j=t
         ·rw [ah];exact e
         ·exact A.out.1 h j (by omega)
        ·intro h;exact A.out.2 (fun j o=>h j (by omega))
       ·simp only [if_true];constructor
        ·intro h;omega
        ·intro h;have:=h t (by omega);rw [e]at this;cases this
      clear l A;generalize jR p s t=db at*;generalize jE p s t=rb' at*;cases db<;>cases rb'
      all_goals
       go_wp2_with fail
       go_roundw
       case rel=>exact⟨t+1,_,_,by omega,by go_num,by go_num,by go_num,by simp<;>omega,by simp<;>omega,aQ,aL,U⟩
       case measure=>simp [intOf];omega
     ·have X:(p.length:Int)<=(t:Int):=by omega
      obtain⟨_,G,D,C,E,F,B⟩:=f.out.vcells;obtain rfl:t=p.length:=by omega
      by_cases Y:r=0
      ·have ad:=A.out.1 Y;have V:=ij (sU ad);subst Y;by_cases M:d=p.length
       ·have aE:=l.out.1 M;have aO:Hid (jQ p s=3):=by
         unfold Hid;rw [V.out,oQ,if_pos];rw [List.all_eq_true];intro j o;exact aE j (by simpa using o)
        have aj:((d:Int)==(p.length:Int))=true:=by simp;omega
        clear ad aE l A V M X;go_wp2_with fail
        go_ret;rw [x.out,aO.out];exact⟨b,u,v,q,rfl,((f.out.kind 5).kind 4).kind 3⟩
       ·have aR:Hid (jQ p s=4):=by
         unfold Hid;rw [V.out,oQ,if_neg];intro h;rw [List.all_eq_true]at h;exact M (l.out.2 (fun j o=>h j (by simpa using o)))
        have aj:((d:Int)==(p.length:Int))=false:=by simp;omega
        clear ad l A V M X;go_wp2_with fail
        go_ret;rw [x.out,aR.out];exact⟨b,u,v,q,rfl,(f.out.kind 5).kind 4⟩
      ·obtain⟨j,o,ae⟩:∃ j,j<p.length/\jE p s j=true:=by
        by_cases aB:∃ j,j<p.length/\jE p s j=true
        ·exact aB
        ·exfalso
         refine Y (A.out.2 (fun j o=>?_));cases e:jE p s j
         ·rfl
         ·exact absurd ⟨j,o,e⟩ aB
       have aW:=ij (rN o ae);have M:d≠p.length:=fun e=>by
        have:=l.out.1 e j o;simp [jE,this]at ae
       have aj:((d:Int)==(p.length:Int))=false:=by simp;omega
       have hrb:((r:Int)==0)=false:=by simp;omega
       clear l A M Y o ae X;go_wp2_with fail
       go_ret;rw [x.out,aW.out];exact⟨b,u,v,q,rfl,f.out.kind 5⟩
theorem RunAt.regRow{w0 w:World}{b ab rb n:Nat}{ps st:Value}{s:St}{acc:List (Int × Int)}{k th a:Int}(h:RunAt w0 w b ab rb n ps st s acc k th a)(hn:n<=4):
  w.ownsRow w0.heap.size 28 4 (.slice (some ⟨rb,0,none⟩) n n) n (jp n s):=
 ⟨kk n s,Or.inr ⟨rb,n,(jp n s).toArray,rfl,h.rb0,h.regs,Nat.le_refl _,by unfold maxLen;omega,by simp [kk],by rw [<-kk n s];simp⟩⟩
theorem wD(p:List (List Ins))(s:List Int)(pv sv:Value)(w:World)(H:ProgAt w pv p)(I:IntsAt w.heap.size w sv s)(ah:p.length<=5864062014634)(L:∀ c∈p,c.length<=4398046510976):
  Calls Tryz.prog 22 #[pv,sv] w (Replayed p s w):=by
 have S:=ij H;have HI:=ij I;have ae:=ij L;obtain⟨E,D,rfl⟩:=H.form;obtain⟨so,sc,rfl⟩:=I.form;clear H I L;go_enter Tryz.func22,Tryz.ntmps22
 go_wp2_with fail
 have W:∀ a b,w.grownBy ((w.alloc a).alloc b) none:=fun a b=>iq (iq (ir _ _))
 refine(mG p _ _ (S.out.pres (ip (W _ _))) ah ae.out).mono ?_;rintro e j ⟨rfl,y⟩;have k:Hid (w.grownBy j none):=il (W _ _) y;have hsz1:w.heap.size+2<=j.heap.size:=by have:=y.size;simpa using this
 have N:j.heap[w.heap.size]?=some (.cells #[.slice E p.length D] 37 (0,0)):=by
  rw [y.block w.heap.size (by simp;omega) (by simp),Below.heap_alloc _ _ _ (by simp)];exact heap_alloc_new w _
 have G:j.heap[w.heap.size+1]?=some (.cells #[.int .i64 0,.int .i64 0,.int .i64 0,.slice none 0 0,.int .i64 0,.int .i64 0,.int .i64 0,.int .i64 0,.slice none 0 0] 31 (0,0)):=by
  rw [y.block (w.heap.size+1) (by simp) (by simp)];have:=heap_alloc_new (w.alloc (.cells #[.slice E p.length D] 37)) (.cells #[.int .i64 0,.int .i64 0,.int .i64 0,.slice none 0 0,.int .i64 0,.int .i64 0,.int .i64 0,.int .i64 0,.slice none 0 0] 31);simpa using this
 have ad:=ij G;have c0:j.cell? ⟨w.heap.size,0,none⟩=some (.slice E p.length D):=by simp [World.cell?,N]
 clear N y;obtain⟨t,A,q,n,u,z,x,C,m,d⟩:=kw G;have M:=d 0;have f1:=d 1;have R:=d 2;have f3:=d 3;have X:=d 4;have K:=d 5;have T:=d 6;have Z:=d 7;have O:=d 8;clear d G;by_cases h:iU p=true
 ·have B:jh p=0:=by simp [jh,h]
  have F:=ij h;have hlen:=jz h;rw [B];clear B h;by_cases P:s.length<=500
  ·have af:(s.length:Int)<=500:=by omega
   have i:Hid (iC p s=0):=by unfold Hid iC;simp [F.out,P]
   go_wp2_with fail
   have Y:=ij (pD j E D p _ s F.out (S.out.pres (ip k.out)) ((HI.out.pres (ip k.out)).mono k.out.size) (by omega));refine(ns Y).mono ?_;clear Y t A q n u z x C m M f1 R f3 X K T Z O;rintro e J ⟨b,ab,V,st,rfl,f⟩;obtain⟨x1,x2,x3,rfl⟩:=iw f.row;have U:=ij f;have ag:Hid (w.grownBy J none):=il k.out f.frame;have Q:J.heap[w.heap.size+1]?=some (.cells #[.int .i64 0,.int .i64 0,.int .i64 0,.slice none 0 0,.int .i64 0,.int .i64 0,.int .i64 0,.int .i64 0,.slice none 0 0] 31 (0,0)):=by
    rw [f.frame.block _ (by omega) (by simp)];exact ad.out
   obtain⟨c10,c11,c12,c13,_,_,_⟩:=f.vcells;have v0:=f.var (l:=0) (by omega);have v1:=f.var (l:=1) (by omega);have v2:=f.var (l:=2) (by omega);have v3:=f.var (l:=3) (by omega);have c2:J.cell? ⟨b,2,none⟩=some (.slice (some ⟨V,0,none⟩) p.length p.length):=(f.cell 2).1;obtain⟨t,A,q,n,u,z,x,C,m,d⟩:=kw Q;have M:=d 0;have f1:=d 1;have R:=d 2;have f3:=d 3;have X:=d 4;have K:=d 5;have T:=d 6;have Z:=d 7;have O:=d 8;have hab:=f.ab0;have habb:=f.abb;have hbw:b≠w.heap.size+1:=by omega
   have hbw':w.heap.size+1≠b:=by omega
   clear d Q f c0;generalize hO:iI p s=o at*;have ai:=ij hO;clear hO;go_wp2_with fail
   go_region
   go_wp2
   refine bodyPost_ret (v:= .tuple #[.agg #[.int .i64 o.kind,.int .i64 o.thread,.int .i64 o.at_,.slice x1 x2 x3,.int .i64 (o.st.vars 0),.int .i64 (o.st.vars 1),.int .i64 (o.st.vars 2),.int .i64 (o.st.vars 3),.slice (some ⟨V,0,none⟩) p.length p.length],.int .i64 0]) ?_ rfl ⟨?_,Or.inl ⟨i.out,_,rfl,?_⟩⟩
   ·simp [results,Tryz.results22,go_sem,t,A,q,n,u,z,x,C,m]
   ·refine iy ?_;iterate 9 refine iF ?_ (by omega)
    exact ag.out
   ·rw [ai.out];refine⟨_,_,rfl,?_,?_⟩
    ·refine iQ (base:=b+1) ?_ (by omega);refine iD (r:=none) ?_ (iy (ir _ _)) (fun _ e=>by cases e);iterate 9 refine ownsRow_setCell_below ?_ (by simp;omega) _
     exact U.out.row
    ·refine iQ (base:=j.heap.size) ?_ (by omega);refine iD (r:=none) ?_ (iy (ir _ _)) (fun _ e=>by cases e);iterate 9 refine ownsRow_setCell_below ?_ (by simp;omega) _
     exact U.out.regRow (by omega)
  ·have af:(500:Int)<s.length:=by omega
   have i:Hid (iC p s=2):=by unfold Hid iC;simp [F.out,P]
   go_wp2_with fail
   refine bodyPost_ret (v:= .tuple #[.agg #[.int .i64 0,.int .i64 0,.int .i64 0,.slice none 0 0,.int .i64 0,.int .i64 0,.int .i64 0,.int .i64 0,.slice none 0 0],.int .i64 2]) ?_ rfl ⟨?_,Or.inr ⟨by rw [i.out];decide,by rw [i.out]⟩⟩
   ·simp [results,Tryz.results22,go_sem,t,A,q,n,u,z,x,C,m]
   ·iterate 9 refine iF ?_ (by omega)
    exact k.out
 ·have B:jh p=1:=by simp [jh,h]
  have i:Hid (iC p s=1):=by unfold Hid iC;simp [h]
  rw [B];clear B h;go_wp2_with fail
  refine bodyPost_ret (v:= .tuple #[.agg #[.int .i64 0,.int .i64 0,.int .i64 0,.slice none 0 0,.int .i64 0,.int .i64 0,.int .i64 0,.int .i64 0,.slice none 0 0],.int .i64 1]) ?_ rfl ⟨?_,Or.inr ⟨by rw [i.out];decide,by rw [i.out]⟩⟩
  ·simp [results,Tryz.results22,go_sem,t,A,q,n,u,z,x,C,m]
  ·iterate 9 refine iF ?_ (by omega)
   exact k.out
end
section
open Go.RowKit
theorem rZ(a b c d:Int)(w:World):(Op.equalIn 10000 28 (.agg #[.int .i64 a,.int .i64 b,.int .i64 c,.int .i64 d]) (.agg #[.int .i64 a,.int .i64 b,.int .i64 c,.int .i64 d])).run Tryz.prog w= .ok true w:=by
 obtain⟨i0,h,hz0,k,hz2⟩:=info_parts ko;have hc:Tryz.prog.cellsOf 3=1:=by simp [Program.cellsOf,h,k]
 have f:Tryz.prog.plainKey 3=true:=by simp [Program.plainKey,Tryz.underlying3]
 rw [show (10000:Nat)=9999+1 from rfl,run_equalIn_array w 9999 _ _ (n:=4) (e:=3) (by first | exact Tryz.underlying28 | kernel_rfl) h,hc];have o:∀ (d:Nat) (v:Int),(Op.equalIn (d+1) 3 (.int .i64 v) (.int .i64 v)).run Tryz.prog w= .ok true w:=fun d v=>by
  rw [run_equalIn_int w d _ _ .i64 v v Tryz.underlying3];simp
 have i:=o 9998;simp only [Nat.reduceAdd]at i;have j:=run_part_plain w f (xs:= #[.int .i64 a,.int .i64 b,.int .i64 c,.int .i64 d]) (off:=0) rfl;have m:=run_part_plain w f (xs:= #[.int .i64 a,.int .i64 b,.int .i64 c,.int .i64 d]) (off:=1) rfl;have p:=run_part_plain w f (xs:= #[.int .i64 a,.int .i64 b,.int .i64 c,.int .i64 d]) (off:=2) rfl;have l:=run_part_plain w f (xs:= #[.int .i64 a,.int .i64 b,.int .i64 c,.int .i64 d]) (off:=3) rfl;simp [List.range,List.range.loop,Op.eqItems,Sem.run_bind,j,m,p,l,i,Result.andThen_ok]
end
section
open Go.RowKit
attribute [local go_sem] Go.World.cell?_alloc_some rZ
theorem qP(n:Int)(w:World):Calls Tryz.prog 23 #[.int .i64 n] w fun e w'=>e= .returned (.int .i64 n)/\w'=w:=by
 go_enter Tryz.func23,Tryz.ntmps23
 go_wp2_with fail
 go_ret;exact⟨rfl,rfl⟩
def ResV(p:List (List Ins))(s:List Int)(B:Nat)(w:World)(rv:Value)(c:Int):Prop:=
 ∃ k t a v0 v1 v2 v3 x1 x3 y1 y3 m q,rv= .agg #[.int .i64 k,.int .i64 t,.int .i64 a,.slice x1 m x3,.int .i64 v0,.int .i64 v1,.int .i64 v2,.int .i64 v3,.slice y1 q y3]/\c=iC p s/\
  ((c=0/\k=(iI p s).kind/\t=(iI p s).thread/\a=(iI p s).at_/\v0=(iI p s).st.vars 0/\v1=(iI p s).st.vars 1/\v2=(iI p s).st.vars 2/\v3=(iI p s).st.vars 3/\m=(iI p s).steps.length/\q=p.length/\
   w.ownsRow B 76 2 (.slice x1 m x3) (iI p s).steps.length (iR (iI p s).steps)/\w.ownsRow B 28 4 (.slice y1 q y3) p.length (jp p.length (iI p s).st))\/
   (c≠0/\k=0/\t=0/\a=0/\v0=0/\v1=0/\v2=0/\v3=0/\m=0/\q=0/\x1=none/\x3=0/\y1=none/\y3=0))
theorem un{w:World}{base:Nat}{e:TypeId}{a:Nat}{b:Option Addr}{m c n:Nat}{xs:List Value}(h:w.ownsRow base e a (.slice b m c) n xs):m=n:=by
 rcases h.2 with ⟨e1,e2⟩ | ⟨g',cap',cur,hv,_⟩
 ·simp only [Value.slice.injEq]at e1;rw [e1.2.1];first | exact e2.symm | omega
 ·simp only [Value.slice.injEq]at hv;exact hv.2.1
theorem Replayed.form{p:List (List Ins)}{s:List Int}{w w':World}{e:Ending}(h:Replayed p s w e w'):w.grownBy w' none/\∃ rv c,e= .returned (.tuple #[rv,.int .i64 c])/\ResV p s w.heap.size w' rv c:=by
 obtain⟨a,h⟩:=h;refine⟨a,?_⟩;rcases h with ⟨h0,rv,rfl,sv,gv,rfl,h1,h2⟩ | ⟨h0,rfl⟩
 ·obtain⟨x1,m,x3,rfl⟩:=iw h1;obtain⟨y1,q,y3,rfl⟩:=iw h2;exact⟨_,_,rfl,_,_,_,_,_,_,_,_,_,_,_,_,_,rfl,h0.symm,Or.inl ⟨rfl,rfl,rfl,rfl,rfl,rfl,rfl,rfl,un h1,un h2,h1,h2⟩⟩
 ·exact⟨_,_,rfl,_,_,_,_,_,_,_,_,_,_,_,_,_,rfl,rfl,Or.inr ⟨h0,rfl,rfl,rfl,rfl,rfl,rfl,rfl,rfl,rfl,rfl,rfl,rfl,rfl⟩⟩
theorem ResV.same{p:List (List Ins)}{s:List Int}{B i:Nat}{w w':World}{rv e:Value}{c f:Int}(h:ResV p s B w rv c)(b:ResV p s i w' e f):
  c=f/\∃ k t a v0 v1 v2 v3 x1 x3 y1 y3 m q x1' x3' y1' y3',rv= .agg #[.int .i64 k,.int .i64 t,.int .i64 a,.slice x1 m x3,.int .i64 v0,.int .i64 v1,.int .i64 v2,.int .i64 v3,.slice y1 q y3]/\
   e= .agg #[.int .i64 k,.int .i64 t,.int .i64 a,.slice x1' m x3',.int .i64 v0,.int .i64 v1,.int .i64 v2,.int .i64 v3,.slice y1' q y3']:=by
 obtain⟨k,t,a,v0,v1,v2,v3,x1,x3,y1,y3,m,q,rfl,hc,h⟩:=h;obtain⟨k',t',a',v0',v1',v2',v3',x1',x3',y1',y3',m',q',rfl,d,b⟩:=b;refine⟨hc.trans d.symm,?_⟩;rcases h with ⟨h0,rfl,rfl,rfl,rfl,rfl,rfl,rfl,rfl,rfl,_⟩ | ⟨h0,rfl,rfl,rfl,rfl,rfl,rfl,rfl,rfl,rfl,_⟩
 ·rcases b with ⟨h0',rfl,rfl,rfl,rfl,rfl,rfl,rfl,rfl,rfl,_⟩ | ⟨h0',_⟩
  ·exact⟨_,_,_,_,_,_,_,_,_,_,_,_,_,_,_,_,_,rfl,rfl⟩
  ·exact absurd (d.trans (hc.symm.trans h0)) h0'
 ·rcases b with ⟨h0',_⟩ | ⟨h0',rfl,rfl,rfl,rfl,rfl,rfl,rfl,rfl,rfl,_⟩
  ·exact absurd (hc.trans (d.symm.trans h0')) h0
  ·exact⟨_,_,_,_,_,_,_,_,_,_,_,_,_,_,_,_,_,rfl,rfl⟩
end
section
theorem og(p:List (List Ins)):∀ (l:List Int) (i:Int) (s:St) (acc:List (Int × Int)),∃ m,m<=l.length/\(jd p l i s acc).steps.map (·.1)=acc.map (·.1)++l.take m/\acc.length+m=(jd p l i s acc).steps.length/\∃ more,(jd p l i s acc).steps=acc++more
 | [],i,s,acc=>⟨0,Nat.le_refl _,by simp [pF],by simp [pF],[],by simp [pF]⟩
 | t::r,i,s,acc=>by
  by_cases h1:m8 p s t=true
  ·by_cases h2:(jP p s t.toNat).1=true
   ·rw [nO p t r i s acc h1 h2];obtain⟨m,q1,q2,q3,more,q4⟩:=og p r (i+1) (jP p s t.toNat).2 (acc++[(t,s.next t.toNat)]);refine⟨m+1,by simp;omega,by rw [q2];simp,by rw [<-q3];simp;omega,(t,s.next t.toNat)::more,by rw [q4];simp⟩
   ·have h3:(jP p s t.toNat).1=false:=by simpa using h2
    rw [mQ p t r i s acc h1 h3];exact⟨1,by simp,by simp,by simp,_,rfl⟩
  ·have h3:m8 p s t=false:=by simpa using h1
   rw [kn p t r i s acc h3];exact⟨0,by simp,by simp,by simp,[],by simp⟩
end
section
open Go.RowKit
attribute [local go_sem] Go.World.cell?_alloc_some
def hc(iv wv:Value)(n:Int)(ov mv:Value):Array Value:= #[iv,wv,.slice none 0 0,.slice none 0 0,.slice none 0 0,.int .i64 n,ov,mv,.slice none 0 0,.slice none 0 0,.slice none 0 0,.slice none 0 0,.slice none 0 0,.slice none 0 0,.slice none 0 0,.slice none 0 0]
def HAt(w:World)(b:Nat)(iv wv:Value)(n:Int)(ov mv:Value):Prop:=w.heap[b]?=some (.cells (hc iv wv n ov mv) 45 (0,0))
theorem HAt.cell{w:World}{b:Nat}{a c:Value}{n:Int}{ov mv:Value}(h:HAt w b a c n ov mv)(o:Nat):w.cell? ⟨b,o,none⟩=(hc a c n ov mv)[o]?:=by
 unfold HAt at h;simp [World.cell?,h]
theorem HAt.frozen{w:World}{b:Nat}{a c:Value}{n:Int}{ov mv:Value}(h:HAt w b a c n ov mv)(o:Nat):w.frozen? ⟨b,o,none⟩=false:=by
 unfold HAt at h;simp [World.frozen?,h]
theorem HAt.lt{w:World}{b:Nat}{iv wv:Value}{n:Int}{ov mv:Value}(h:HAt w b iv wv n ov mv):b<w.heap.size:=(Array.getElem?_eq_some_iff.1 h).1
theorem HAt.grown{w w':World}{b:Nat}{a c:Value}{n:Int}{ov mv:Value}{r:Option Nat}(h:HAt w b a c n ov mv)(i:w.grownBy w' r)(f:r≠some b):HAt w' b a c n ov mv:=by
 have d:=h.lt;unfold HAt at*;rw [i.block b d (fun e=>f e.symm)];exact h
theorem HAt.setOther{w:World}{b g o:Nat}{u:Value}{a c:Value}{n:Int}{ov mv:Value}(h:HAt w b a c n ov mv)(d:b≠g):HAt (w.setCell ⟨g,o,none⟩ u) b a c n ov mv:=by
 unfold HAt at*;rw [Below.heap_setCell _ _ _ _ (by simpa using d)];exact h
theorem HAt.set6{w:World}{b:Nat}{a c:Value}{n:Int}{ov mv:Value}(h:HAt w b a c n ov mv)(u:Value):HAt (w.setCell ⟨b,6,none⟩ u) b a c n u mv:=by
 unfold HAt at*;rw [heap_setCell_same w b 6 _ _ _ h];rfl
theorem HAt.set7{w:World}{b:Nat}{a c:Value}{n:Int}{ov mv:Value}(h:HAt w b a c n ov mv)(u:Value):HAt (w.setCell ⟨b,7,none⟩ u) b a c n ov u:=by
 unfold HAt at*;rw [heap_setCell_same w b 7 _ _ _ h];rfl
theorem sB(l m:List Int)(v u:Value)(w:World)(I:IntsAt w.heap.size w v l)(D:IntsAt w.heap.size w u m)(hln:l.length<=9223372036854775806):
  Calls Tryz.prog 30 #[v,u] w fun e w'=>e= .returned (.bool (l==m))/\jt w' w:=by
 obtain⟨ao,cap,rfl,hcap,hc⟩:=I;obtain⟨bo,dap,rfl,hdap,j⟩:=D;by_cases q:l.length=m.length
 ·have C:=ij hc;have G:=ij j;clear hc j;have F:(l.length:Int)=m.length:=by omega
  have K:((l.length:Int) !=(m.length:Int))=false:=by simp;omega
  have r:=ij q;go_enter Tryz.func30,Tryz.ntmps30
  clear q F;go_wp2_with fail
  go_loopw [5] (fun i w'=>∃ k:Nat,k<=l.length/\i= .int .i64 k/\Hid (jt w' w)/\Hid (l.take k=m.take k)) (fun i _=>l.length - (intOf i).toNat)
  case atStart=>exact⟨0,Nat.zero_le _,rfl,ij (jq _),by simp [Hid]⟩
  case round=>
   obtain⟨k,hk,rfl,f,t⟩:=hrel;obtain⟨c,J⟩:∃ c,c=wr:=⟨_,rfl⟩;subst J;by_cases z:k<l.length
   ·have A:k<m.length:=by have:=r.out;omega
    obtain⟨g,o,rfl,_,c0⟩:=C.out k z;obtain⟨g2,H,rfl,_,c1⟩:=G.out k A;have n:∀ a,c.cell? a=w.cell? a:=fun a=>by simp [World.cell?,f.out.1]
    have d0:c.cell? ⟨g,o+k,none⟩=some (.int .i64 l[k]):=by rw [n];exact c0
    have d1:c.cell? ⟨g2,H+k,none⟩=some (.int .i64 m[k]):=by rw [n];exact c1
    have hk0:(0:Int)<=(k:Int):=by omega
    have hk1:(k:Int)<l.length:=by omega
    have hk2:(k:Int)<m.length:=by omega
    have p:Hid (l.take (k+1)=l.take k++[l[k]]):=List.take_succ_eq_append_getElem z;have h:Hid (m.take (k+1)=m.take k++[m[k]]):=List.take_succ_eq_append_getElem A;clear n c0 c1;by_cases b:l[k]=m[k]
    ·have E:(l[k] !=m[k])=false:=by simpa using b
     have B:Hid (l.take (k+1)=m.take (k+1)):=by unfold Hid;rw [p.out,h.out,t.out,b]
     clear b p h;generalize l[k]=x at*;generalize m[k]=y at*;go_wp2_with fail
     go_quiet (fail)
     go_wp2_with fail
     go_roundw
     case rel=>exact⟨k+1,by omega,by go_num,ij (jV f.out _),B⟩
     case measure=>simp [intOf];omega
    ·have E:(l[k] !=m[k])=true:=by simpa using b
     have d:Hid ((l==m)=false):=by
      unfold Hid;simp only [beq_eq_false_iff_ne];intro e;apply b;simp [e]
     clear b p h;generalize l[k]=x at*;generalize m[k]=y at*;go_wp2_with fail
     go_quiet (fail)
     go_wp2_with fail
     go_ret;exact⟨by rw [d.out];rfl,jV f.out _⟩
   ·have d:Hid ((l==m)=true):=by
     unfold Hid;have s:=t.out;rw [List.take_of_length_le (by omega),List.take_of_length_le (by have:=r.out;omega)]at s;simpa using s
    have q2:(l.length:Int)<=(k:Int):=by omega
    go_wp2_with fail
    go_ret;exact⟨by rw [d.out];rfl,f.out⟩
 ·have d:Hid ((l==m)=false):=by
   unfold Hid;simp only [beq_eq_false_iff_ne];intro e;exact q (by rw [e])
  have K:((l.length:Int) !=(m.length:Int))=true:=by simp;omega
  clear hc j;go_enter Tryz.func30,Tryz.ntmps30
  go_wp2_with fail
  go_ret;exact⟨by rw [d.out];rfl,jq _⟩
theorem tJ{P:Program}(w:World)(t ty m:TypeId)(x:P.underlying t=some (.slice m))(u:(P.info? m).map (·.size)=some 1)(g b o:Nat)(sv:Value)(B:Nat)(l:List Int)(A:IntsAt B w sv l)(cur:Array Value)(f:TypeId)(p:w.heap[g]?=some (.cells cur f (0,0)))(C:l.length<=b)(hfit:l.length<=cur.size):
  ∃ w',(Builtin.copy_ #[t,t] ty #[.slice (some ⟨g,0,none⟩) b o,sv]).run P w= .ok (goInt l.length) w'/\w'.heap[g]?=some (.cells (iL l++cur.toList.drop l.length).toArray f (0,0))/\w.grownBy w' (some g):=by
 obtain⟨ao,r,e,hcap,hc⟩:=A;subst e;by_cases F:l.length=0
 ·have G:l=[]:=List.length_eq_zero_iff.1 F;subst G;refine⟨w,run_copy_none (P:=P) w t t ty m _ _ b o _ r x u (by simp),?_,ir _ _⟩;rw [p];simp [iL]
 ·obtain⟨h,i,z,_,_⟩:=hc 0 (by omega);subst z;have E:∀ k (n:k<l.length),w.cell? ⟨h,i+k,none⟩=some (.int .i64 l[k]):=by
   intro k n;obtain⟨g2,o2,s,_,c⟩:=hc k n;simp only [Option.some.injEq,Addr.mk.injEq,and_true]at s;obtain⟨rfl,rfl⟩:=s;exact c
  have D:Nat.min l.length b=l.length:=Nat.min_eq_left C;have d:=run_copy_row (P:=P) w t t ty m g 0 b o ⟨h,i,none⟩ l.length r cur f (iL l) x u p (by rw [jZ,D]) (fun j v hj=>by
   have q:j<l.length:=by have:=(List.getElem?_eq_some_iff.1 hj).1;rwa [jZ]at this
   have y:(⟨h,i,none⟩:Addr).add j=⟨h,i+j,none⟩:=by unfold Addr.add;split<;>simp_all
   rw [y,E j q,<-hj];simp [iL,q]) (by rw [jZ];omega) (oZ l)
  rw [jZ]at d;simp only [List.take_zero,List.nil_append,Nat.zero_add]at d;exact⟨_,d,setRow_heap w g cur _ f (0,0) p,⟨rfl,rfl,rfl,by simp,fun k n d=>setRow_other w g k _ (fun e=>d (by rw [e]))⟩⟩
def ink:Value:= .int .i64 (-77000000)
def kr(l:List Int):Array Value:=(iL l++[ink,ink]).toArray
theorem uj:((Tryz.prog.info? 39).map fun i=>(i.zero,i.size,i.bytes))=some (some (.slice none 0 0),1,24):=by kernel_rfl
theorem DM(l:List Int)(cur:Array Value)(hc:cur.size=l.length+2):((iL l++cur.toList.drop l.length).toArray.setIfInBounds l.length ink).setIfInBounds (l.length+1) ink=kr l:=by
 obtain⟨c⟩:=cur;simp at hc;obtain⟨x,y,e⟩:∃ x y,c.drop l.length=[x,y]:=⟨c[l.length]'(by omega),c[l.length+1]'(by omega),by
  rw [List.drop_eq_getElem_cons (by omega),List.drop_eq_getElem_cons (by omega),List.drop_eq_nil_of_le (by omega)]⟩
 have f:∀ (a:List Value) (x y z:Value) (k:Nat),k=a.length->(a++[x,y]).set k z=a++[z,y]:=by
  intro a x y z k b;subst b;rw [List.set_append];simp
 have h:∀ (a:List Value) (x y z:Value) (k:Nat),k=a.length->(a++[x,y]).set (k+1) z=a++[x,z]:=by
  intro a x y z k b;subst b;rw [List.set_append,if_neg (by omega)];simp
 have d:=(jZ l).symm;simp only [e,List.setIfInBounds_toArray,kr];rw [f _ _ _ _ _ d,h _ _ _ _ _ d]
theorem xf(l:List Int):(kr l).size=l.length+2:=by simp [kr,jZ]
theorem xZ(l:List Int)(k:Nat)(a:k<l.length):(kr l)[k]?=some (.int .i64 l[k]):=by
 simp [kr,iL,List.getElem?_append,a]
theorem vl(l:List Int):(kr l)[l.length]?=some ink:=by
 simp [kr,jZ]
theorem vA(l:List Int):(kr l)[l.length+1]?=some ink:=by
 simp [kr,jZ]
theorem md{w:World}{g:Nat}{l:List Int}(h:w.heap[g]?=some (.cells (kr l) 3 (0,0))):IntsAt w.heap.size w (.slice (some ⟨g,0,none⟩) l.length (l.length+2)) l:=by
 refine⟨some ⟨g,0,none⟩,l.length+2,rfl,by omega,fun k hk=>⟨g,0,rfl,(Array.getElem?_eq_some_iff.1 h).1,?_⟩⟩;rw [Nat.zero_add];simp only [World.cell?,h];exact xZ l k hk
def Turned(w:World)(b g:Nat)(w':World):Prop:=w'.os=w.os/\w'.tape=w.tape/\w'.output=w.output/\w.heap.size<=w'.heap.size/\∀ k,k<w.heap.size->k≠b->k≠g->w'.heap[k]?=w.heap[k]?
theorem Turned.refl(w:World)(b g:Nat):Turned w b g w:=⟨rfl,rfl,rfl,Nat.le_refl _,fun _ _ _ _=>rfl⟩
theorem Turned.below{w w1 w2:World}{b g:Nat}(h:Turned w b g w1)(hb:Below w1.heap.size w1 w2):Turned w b g w2:=
 ⟨hb.os.trans h.1,hb.tape.trans h.2.1,hb.output.trans h.2.2.1,Nat.le_trans h.2.2.2.1 hb.size,fun k hk h1 h2=>by rw [hb.block k (Nat.lt_of_lt_of_le hk h.2.2.2.1)];exact h.2.2.2.2 k hk h1 h2⟩
theorem Turned.set{w w1:World}{b g c o:Nat}{v:Value}(h:Turned w b g w1)(hc:c=b\/c=g):Turned w b g (w1.setCell ⟨c,o,none⟩ v):=
 ⟨h.1,h.2.1,h.2.2.1,by simpa using h.2.2.2.1,fun k hk h1 h2=>by rw [Below.heap_setCell _ _ _ _ (by rcases hc with rfl | rfl<;>simpa using by assumption)];exact h.2.2.2.2 k hk h1 h2⟩
theorem Turned.like{w w1 w2:World}{b g:Nat}(h:Turned w b g w1)(hl:jt w2 w1):Turned w b g w2:=
 ⟨hl.2.1.trans h.1,hl.2.2.2.trans h.2.1,hl.2.2.1.trans h.2.2.1,by rw [hl.1];exact h.2.2.2.1,fun k hk h1 h2=>by rw [hl.1];exact h.2.2.2.2 k hk h1 h2⟩
section
variable {P : Program} {w : World}
theorem iG{N:Array Oper}{I:List Oper}{o:Oper}{a:Act}{Q:Exit->Act->World->Prop}(ab:o.guard=none)(s x:Operand)(t:TypeId)
  (ho:o.op= .call { callee:= .builtin .append,args:= #[s,x],argTypes:= #[t,t]})
  (base:Nat) (e:TypeId) (i:TypeInfo) (z:Value) (b E:Nat) (C:P.underlying t=some (.slice e)) (r:P.info? e=some i) (G:i.zero=some z)
  (B:i.size=b) (F:i.bytes=E) (af:z.cells.size=b) (Z:0<b)
  (v:Value) (n:Nat) (xs:List Value) (W:a.eval s=v) (l:w.ownsRow base e b v n xs)
  (q:Addr) (m c:Nat) (f:List Value) (S:a.eval x= .slice (some q) m c) (D:f.length=m*b) (A:∀ j u,f[j]?=some u->w.cell? (q.add j)=some u) (J:∀ u∈f,u.oneCell'=true)
  (hm:0<m) (M:n+m<=maxLen) (O:(n+m)*E<=140737488355328) (ae:base<=w.heap.size) (H:Nat) (L:w.heap.size=H)
  (h:∀ g cap w',w'.ownsRow base e b (.slice (some ⟨g,0,none⟩) (n+m) cap) (n+m) (xs++f)->((v.ownBlock=some g/\w.grownBy w' (some g))\/(g=H/\w.grownBy w' none))->g<w'.heap.size->wpList P N Q I (a.put o.dst (.slice (some ⟨g,0,none⟩) (n+m) cap)) w'):wpList P N Q (o::I) a w:=by
 refine wpList_plain ab fun K hK=>?_
 obtain⟨g,cap,w',y,R,T,p,V⟩:=run_append_lies (P:=P) w t o.type base e i z b E C r G B F af Z v n xs l q m c f D A J hm M O ae H L;have key:(v.ownBlock=some g/\w.grownBy w' (some g))\/(g=H/\w.grownBy w' none):=by
  have hsmall:n+m<=9223372036854775807:=by simp only [maxLen]at M;omega
  rcases l.2 with ⟨rfl,rfl⟩ | ⟨g0,cap0,cur,rfl,hbg,hg,hnc,hcm,hcs,htake⟩
  ·rcases p with p | p
   ·cases p
   ·exact Or.inr ⟨p,T⟩
  ·by_cases X:n+m<=cap0
   ·obtain⟨w2,d,h6,Y⟩:=run_append_fits (P:=P) w base t o.type e i b C r B g0 n cap0 xs l q m c f D A J X;rw [y]at d;simp only [Result.ok.injEq,Value.slice.injEq,Option.some.injEq,Addr.mk.injEq,true_and,and_true]at d;obtain⟨⟨rfl,rfl⟩,rfl⟩:=d;exact Or.inl ⟨rfl,Y⟩
   ·subst B;subst F;have U:∀ j u,xs[j]?=some u->w.cell? ((⟨g0,0,none⟩:Addr).add j)=some u:=l.cells (g:=g0) rfl;have d:=run_append_grow (P:=P) w t o.type e i z C r G ⟨g0,0,none⟩ n cap0 xs l.1 U q m c f D A (by omega) (by omega) (growslice_fits (by omega) O);rw [y]at d;simp only [Result.ok.injEq,Value.slice.injEq,Option.some.injEq,Addr.mk.injEq,true_and,and_true]at d;obtain⟨⟨rfl,rfl⟩,rfl⟩:=d;exact Or.inr ⟨L,⟨rfl,rfl,rfl,by simp,fun k hk _=>Below.heap_alloc w.drew _ k hk⟩⟩
 unfold Oper.wp execOp;simp only [ho,resolve,invoke,builtin,Sem.run_bind,Sem.run_pure,Result.andThen_ok,List.map_toArray,List.map_cons,List.map_nil,W,S,y];exact hK _ _ (h g cap w' R key V)
end
def Kept(w:World)(x:Value × Int):Prop:=x.1= .slice none 0 0\/∃ g len cap,x.1= .slice (some ⟨g,0,none⟩) len cap/\len<=1000/\∀ k,k<len->w.cell? ⟨g,k,none⟩=some (.int .i64 x.2)
structure KeptAll(B:Nat)(w:World)(b:Nat)(ov mv:Value)(K:List (Value × Int)):Prop where
 orow:w.ownsRow B 39 1 ov K.length (K.map (·.1))
 mrow:w.ownsRow B 3 1 mv K.length (iL (K.map (·.2)))
 ob:ov.ownBlock≠some b
 mb:mv.ownBlock≠some b
 om:∀ g,ov.ownBlock=some g->mv.ownBlock≠some g
 kept:∀ x∈K,Kept w x/\∀ g,x.1.ownBlock=some g->g≠b/\ov.ownBlock≠some g/\mv.ownBlock≠some g/\g<w.heap.size
 lo:B<=b
def Hd(B:Nat)(w:World)(b:Nat)(n:Int)(K:List (Value × Int)):Prop:=∃ ov mv,HAt w b (.slice none 0 0) (.slice none 0 0) n ov mv/\KeptAll B w b ov mv K
theorem Kept.grown{w w':World}{x:Value × Int}{r:Option Nat}(h:Kept w x)(d:w.grownBy w' r)(c:∀ g,x.1.ownBlock=some g->r≠some g/\g<w.heap.size):Kept w' x:=by
 rcases h with h | ⟨g,len,cap,e,hl,hc⟩
 ·exact Or.inl h
 ·obtain⟨a,b⟩:=c g (by rw [e];rfl);refine Or.inr ⟨g,len,cap,e,hl,fun k hk=>?_⟩;rw [World.cell?_of_block (d.block g b (fun e=>a e.symm))];exact hc k hk
theorem iZ{w:World}{base:Nat}{e:TypeId}{b:Nat}{v:Value}{n:Nat}{xs:List Value}(h:w.ownsRow base e b v n xs):∀ g,v.ownBlock=some g->g<w.heap.size:=by
 intro g a;rcases h.2 with ⟨e1,_⟩ | ⟨g',cap,cur,hv,hb,hh,_⟩
 ·rw [e1]at a;cases a
 ·rw [hv]at a;simp [Value.ownBlock]at a;rw [<-a];exact(Array.getElem?_eq_some_iff.1 hh).1
theorem tC{w w':World}{base:Nat}{e:TypeId}{b:Nat}{v:Value}{n:Nat}{xs:List Value}{r:Option Nat}(h:w.ownsRow base e b v n xs)(f:w.grownBy w' r)(d:∀ g,v.ownBlock=some g->r≠some g):w'.ownsRow base e b v n xs:=by
 obtain⟨c,a⟩:=h;refine⟨c,?_⟩;rcases a with a | ⟨g,cap,cur,hv,hb,hh,rest⟩
 ·exact Or.inl a
 ·refine Or.inr ⟨g,cap,cur,hv,hb,?_,rest⟩;rw [f.block g (Array.getElem?_eq_some_iff.1 hh).1 (fun e=>d g (by rw [hv];rfl) e.symm)];exact hh
theorem KeptAll.grown{B:Nat}{w w':World}{b:Nat}{ov mv:Value}{K:List (Value × Int)}{r:Option Nat}(h:KeptAll B w b ov mv K)(a:w.grownBy w' r)(c:∀ g,r=some g->ov.ownBlock≠some g/\mv.ownBlock≠some g/\∀ x∈K,x.1.ownBlock≠some g):KeptAll B w' b ov mv K:=by
 refine⟨tC h.orow a (fun g e1 e2=>(c g e2).1 e1),tC h.mrow a (fun g e1 e2=>(c g e2).2.1 e1),h.ob,h.mb,h.om,fun x hx=>?_,h.lo⟩;obtain⟨k1,k2⟩:=h.kept x hx;refine⟨k1.grown a (fun g e=>⟨fun e2=>(c g e2).2.2 x hx e,(k2 g e).2.2.2⟩),fun g e=>?_⟩;obtain⟨d,f,j,i⟩:=k2 g e;exact⟨d,f,j,Nat.lt_of_lt_of_le i a.size⟩
theorem Hd.grown{B:Nat}{w w':World}{b:Nat}{n:Int}{K:List (Value × Int)}(h:Hd B w b n K)(a:w.grownBy w' none):Hd B w' b n K:=by
 obtain⟨ov,mv,c,d⟩:=h;exact⟨ov,mv,c.grown a (by simp),d.grown a (fun g e=>by cases e)⟩
structure KS(W:World)(B:Nat)(w:World)(b:Nat)(n m:Int)(ov mv lv:Value)(len:Nat)(K:List (Value × Int))(M:List Int):Prop where
 h:HAt w b (.slice none 0 0) (.slice none 0 0) n ov mv
 orow:w.ownsRow B 39 1 ov K.length (K.map (·.1))
 mrow:w.ownsRow B 3 1 mv M.length (iL M)
 lrow:w.ownsRow B 3 1 lv len (List.replicate len (.int .i64 m))
 ob:ov.ownBlock≠some b
 mb:mv.ownBlock≠some b
 lb:lv.ownBlock≠some b
 om:∀ g,ov.ownBlock=some g->mv.ownBlock≠some g
 ol:∀ g,ov.ownBlock=some g->lv.ownBlock≠some g
 ml:∀ g,mv.ownBlock=some g->lv.ownBlock≠some g
 kept:∀ x∈K,Kept w x/\∀ g,x.1.ownBlock=some g->g≠b/\ov.ownBlock≠some g/\mv.ownBlock≠some g/\g<w.heap.size/\(lv.ownBlock=some g->x.2=m/\∃ l c,x.1= .slice (some ⟨g,0,none⟩) l c/\l<=len)
 lo:B<=b
 ln:len<=1000
 base:W.grownBy w none
 wb:W.heap.size<=B
theorem rl{w w6:World}{o:Obj}{v:Value}{g6:Nat}(key:(v.ownBlock=some g6/\(w.alloc o).grownBy w6 (some g6))\/(g6=w.heap.size+1/\(w.alloc o).grownBy w6 none)):
  ∃ r,w.grownBy w6 r/\(∀ g,r=some g->v.ownBlock=some g)/\(∀ g,g<w.heap.size->v.ownBlock≠some g->g6≠g)/\(∀ g,g<w.heap.size->v.ownBlock≠some g->w6.heap[g]?=w.heap[g]?)/\w.heap.size<=w6.heap.size:=by
 rcases key with ⟨e,hg⟩ | ⟨e,hg⟩
 ·have b:w.grownBy w6 (some g6):=il (iq (ir _ _)) hg;exact⟨some g6,b,fun g e2=>(by rw [e,e2]),fun g _ h2 e3=>h2 (by rw [e,e3]),fun g h1 h2=>b.block g h1 (fun e3=>h2 (by rw [e,e3])),b.size⟩
 ·have b:w.grownBy w6 none:=il (iq (ir _ _)) hg;exact⟨none,b,fun g e2=>(by cases e2),fun g h1 _ e3=>(by omega),fun g h1 _=>b.block g h1 (by simp),b.size⟩
theorem Kept.same{w w':World}{x:Value × Int}(h:Kept w x)(a:∀ g,x.1.ownBlock=some g->w'.heap[g]?=w.heap[g]?):Kept w' x:=by
 rcases h with h | ⟨g,len,cap,e,hl,hc⟩
 ·exact Or.inl h
 ·refine Or.inr ⟨g,len,cap,e,hl,fun k hk=>?_⟩;rw [World.cell?_of_block (a g (by rw [e];rfl))];exact hc k hk
theorem iM{w w':World}{base:Nat}{e:TypeId}{b:Nat}{v:Value}{n:Nat}{xs:List Value}(h:w.ownsRow base e b v n xs)(d:∀ g,v.ownBlock=some g->w'.heap[g]?=w.heap[g]?):w'.ownsRow base e b v n xs:=by
 obtain⟨c,a⟩:=h;refine⟨c,?_⟩;rcases a with a | ⟨g,cap,cur,hv,hbb,hh,rest⟩
 ·exact Or.inl a
 ·exact Or.inr ⟨g,cap,cur,hv,hbb,by rw [d g (by rw [hv];rfl)];exact hh,rest⟩
theorem sD{W w w6:World}{r:Option Nat}{v:Value}{B:Nat}(h:W.grownBy w none)(hB:W.heap.size<=B)(hg:w.grownBy w6 r)(hr:∀ g,r=some g->v.ownBlock=some g)(hv:∀ g,v.ownBlock=some g->B<=g):W.grownBy w6 none:=
 ⟨hg.os.trans h.os,hg.tape.trans h.tape,hg.output.trans h.output,Nat.le_trans h.size hg.size,fun k hk _=>by
  rw [hg.block k (Nat.lt_of_lt_of_le hk h.size) (fun e=>by have:=hv k (hr k e.symm);omega)];exact h.block k hk (by simp)⟩
section
variable {W : World} {B : Nat} {w : World} {b : Nat} {n m : Int} {ov mv lv : Value} {len : Nat} {K : List (Value × Int)} {M : List Int}
theorem KS.out(s:KS W B w b n m ov mv lv len K M){w6:World}{o:Obj}{g6 c6:Nat}(F:w6.ownsRow B 39 1 (.slice (some ⟨g6,0,none⟩) (K.length+1) c6) (K.length+1) (K.map (·.1)++[lv]))
  (key:(ov.ownBlock=some g6/\(w.alloc o).grownBy w6 (some g6))\/(g6=w.heap.size+1/\(w.alloc o).grownBy w6 none)):
  KS W B (w6.setCell ⟨b,6,none⟩ (.slice (some ⟨g6,0,none⟩) (K.length+1) c6)) b n m (.slice (some ⟨g6,0,none⟩) (K.length+1) c6) mv lv len (K++[(lv,m)]) M:=by
 obtain⟨r,E,C,i,z,hsz⟩:=rl key;have A:=s.h.lt;have y:g6≠b:=i b A s.ob;have j:∀ g,g<w.heap.size->ov.ownBlock≠some g->g≠b->(w6.setCell ⟨b,6,none⟩ (.slice (some ⟨g6,0,none⟩) (K.length+1) c6)).heap[g]?=w.heap[g]?:=fun g d f p=>by
  rw [Below.heap_setCell _ _ _ _ (by simpa using p)];exact z g d f
 have u:=iZ s.mrow;have q:=iZ s.lrow;refine⟨?_,?_,iM s.mrow (fun g e=>j g (u g e) (fun a=>s.om g a e) (fun a=>s.mb (by rw [e,a]))),iM s.lrow (fun g e=>j g (q g e) (fun a=>s.ol g a e) (fun a=>s.lb (by rw [e,a]))),
  by simpa [Value.ownBlock]using y,s.mb,s.lb,?_,?_,s.ml,?_,s.lo,s.ln,?_,s.wb⟩
 ·refine HAt.set6 (ov:=ov) ?_ _;have:=s.h;unfold HAt at*;rw [z b A s.ob];exact this
 ·refine ownsRow_setCell_other ?_ (by simpa [Value.ownBlock]using y) _;simpa using F
 ·intro g e a;simp only [Value.ownBlock,Option.some.injEq]at e;exact i g (u g a) (fun e3=>s.om g e3 a) e
 ·intro g e a;simp only [Value.ownBlock,Option.some.injEq]at e;exact i g (q g a) (fun e3=>s.ol g e3 a) e
 ·intro x c;rcases List.mem_append.1 c with c | c
  ·obtain⟨k1,k2⟩:=s.kept x c;refine⟨k1.same (fun g e=>by obtain⟨d,f,p,t,_⟩:=k2 g e;exact j g t f d),fun g e=>?_⟩;obtain⟨d,f,p,t,D⟩:=k2 g e;exact⟨d,by simpa [Value.ownBlock]using i g t f,p,by simp;omega,D⟩
  ·simp at c;subst c;refine⟨?_,fun g e=>⟨fun a=>s.lb (by rw [<-a];exact e),by simpa [Value.ownBlock]using i g (q g e) (fun e3=>s.ol g e3 e),fun e3=>s.ml g e3 e,by have:=q g e;simp;omega,fun _=>⟨rfl,?_⟩⟩⟩
   ·rcases s.lrow.2 with ⟨e,_⟩ | ⟨g,cap,cur,hv,hbb,hh,hc1,hc2,hc3,hc4⟩
    ·exact Or.inl e
    ·refine Or.inr ⟨g,len,cap,hv,s.ln,fun k hk=>?_⟩;have v:=s.lrow;rw [hv]at v;rw [World.cell?_of_block (j g (Array.getElem?_eq_some_iff.1 hh).1 (fun e3=>s.ol g e3 (by rw [hv];rfl)) (fun e3=>s.lb (by rw [hv,<-e3];rfl))),v.cellAt k (by omega)];simp [hk]
   ·rcases s.lrow.2 with ⟨a,_⟩ | ⟨g',cap,cur,hv,_⟩
    ·rw [a]at e;cases e
    ·rw [hv]at e;simp only [Value.ownBlock,Option.some.injEq]at e;exact⟨len,cap,by rw [hv,e],Nat.le_refl _⟩
 ·exact iF (sD s.base s.wb E C (iA s.orow)) (by have:=s.lo;have:=s.wb;omega)
theorem KS.mark(s:KS W B w b n m ov mv lv len K M){w6:World}{o:Obj}{g6 c6:Nat}(C:w6.ownsRow B 3 1 (.slice (some ⟨g6,0,none⟩) (M.length+1) c6) (M.length+1) (iL M++[.int .i64 m]))
  (key:(mv.ownBlock=some g6/\(w.alloc o).grownBy w6 (some g6))\/(g6=w.heap.size+1/\(w.alloc o).grownBy w6 none)):
  KS W B (w6.setCell ⟨b,7,none⟩ (.slice (some ⟨g6,0,none⟩) (M.length+1) c6)) b n m ov (.slice (some ⟨g6,0,none⟩) (M.length+1) c6) lv len K (M++[m]):=by
 obtain⟨r,A,y,i,q,hsz⟩:=rl key;have t:=s.h.lt;have p:g6≠b:=i b t s.mb;have j:∀ g,g<w.heap.size->mv.ownBlock≠some g->g≠b->(w6.setCell ⟨b,7,none⟩ (.slice (some ⟨g6,0,none⟩) (M.length+1) c6)).heap[g]?=w.heap[g]?:=fun g c f d=>by
  rw [Below.heap_setCell _ _ _ _ (by simpa using d)];exact q g c f
 have l:=iZ s.orow;have u:=iZ s.lrow;refine⟨?_,iM s.orow (fun g e=>j g (l g e) (fun a=>s.om g e a) (fun a=>s.ob (by rw [e,a]))),?_,iM s.lrow (fun g e=>j g (u g e) (fun a=>s.ml g a e) (fun a=>s.lb (by rw [e,a]))),
  s.ob,by simpa [Value.ownBlock]using p,s.lb,?_,s.ol,?_,?_,s.lo,s.ln,?_,s.wb⟩
 ·refine HAt.set7 (mv:=mv) ?_ _;have:=s.h;unfold HAt at*;rw [q b t s.mb];exact this
 ·refine ownsRow_setCell_other ?_ (by simpa [Value.ownBlock]using p) _;simpa [iL]using C
 ·intro g e a;simp only [Value.ownBlock,Option.some.injEq]at a;exact i g (l g e) (fun e3=>s.om g e e3) a
 ·intro g e a;simp only [Value.ownBlock,Option.some.injEq]at e;exact i g (u g a) (fun e3=>s.ml g e3 a) e
 ·intro x v;obtain⟨k1,k2⟩:=s.kept x v;refine⟨k1.same (fun g e=>by obtain⟨c,f,d,k,_⟩:=k2 g e;exact j g k d c),fun g e=>?_⟩;obtain⟨c,f,d,k,z⟩:=k2 g e;exact⟨c,f,by simpa [Value.ownBlock]using i g k d,by simp;omega,z⟩
 ·exact iF (sD s.base s.wb A y (iA s.mrow)) (by have:=s.lo;have:=s.wb;omega)
theorem KS.list(s:KS W B w b n m ov mv lv len K M)(N:len+1<=1000){w6:World}{o:Obj}{g6 c6:Nat}(P:w6.ownsRow B 3 1 (.slice (some ⟨g6,0,none⟩) (len+1) c6) (len+1) (List.replicate len (.int .i64 m)++[.int .i64 m]))
  (key:(lv.ownBlock=some g6/\(w.alloc o).grownBy w6 (some g6))\/(g6=w.heap.size+1/\(w.alloc o).grownBy w6 none)):
  KS W B w6 b n m ov mv (.slice (some ⟨g6,0,none⟩) (len+1) c6) (len+1) K M:=by
 obtain⟨r,L,H,f,j,hsz⟩:=rl key;have D:=s.h.lt;have I:g6≠b:=f b D s.lb;have C:=iZ s.orow;have y:=iZ s.mrow;have A:w6.ownsRow B 3 1 (.slice (some ⟨g6,0,none⟩) (len+1) c6) (len+1) (List.replicate (len+1) (.int .i64 m)):=by rw [List.replicate_succ'];exact P
 refine⟨?_,iM s.orow (fun g e=>j g (C g e) (s.ol g e)),iM s.mrow (fun g e=>j g (y g e) (s.ml g e)),A,s.ob,s.mb,by simpa [Value.ownBlock]using I,s.om,?_,?_,?_,s.lo,N,?_,s.wb⟩
 ·have:=s.h;unfold HAt at*;rw [j b D s.lb];exact this
 ·intro g e a;simp only [Value.ownBlock,Option.some.injEq]at a;exact f g (C g e) (s.ol g e) a
 ·intro g e a;simp only [Value.ownBlock,Option.some.injEq]at a;exact f g (y g e) (s.ml g e) a
 ·intro x G;obtain⟨k1,k2⟩:=s.kept x G;refine⟨?_,fun g e=>?_⟩
  ·rcases k1 with k1 | ⟨g,l,c,e,hl1,hc⟩
   ·exact Or.inl k1
   ·obtain⟨u,v,z,p,t⟩:=k2 g (by rw [e];rfl);refine Or.inr ⟨g,l,c,e,hl1,fun k hk=>?_⟩;by_cases d:lv.ownBlock=some g
    ·obtain⟨q,E,F,i,O⟩:=t d;rw [e]at i;simp only [Value.slice.injEq,true_and]at i;rcases key with ⟨a,_⟩ | ⟨a,hg2⟩
     ·have:g6=g:=by rw [d]at a;exact(Option.some.inj a).symm
      subst this;rw [A.cellAt k (by omega),q,List.getElem?_replicate,if_pos (by omega)]
     ·have J:w.grownBy w6 none:=il (iq (ir _ _)) hg2;rw [World.cell?_of_block (J.block g p (by simp))];exact hc k hk
    ·rw [World.cell?_of_block (j g p d)];exact hc k hk
  ·obtain⟨u,v,z,p,t⟩:=k2 g e;refine⟨u,v,z,by omega,fun a=>?_⟩;simp only [Value.ownBlock,Option.some.injEq]at a;by_cases d:lv.ownBlock=some g
   ·obtain⟨q,E,F,i,O⟩:=t d;exact⟨q,E,F,i,by omega⟩
   ·exact absurd a (f g p d)
 ·exact sD s.base s.wb L H (iA s.lrow)
end
end
section
open Go.RowKit
structure Role where
 k:Nat
 c:Nat
abbrev Role.other:Role:=⟨0,0⟩
abbrev Role.hands:Role:=⟨1,0⟩
abbrev Role.lst(c:Nat):Role:=⟨2,c⟩
abbrev Role.mrk(c:Nat):Role:=⟨3,c⟩
abbrev Role.kept:Role:=⟨4,0⟩
abbrev Role.cur:Role:=⟨5,0⟩
abbrev Role.lrow(c:Nat):Role:=⟨6,c⟩
abbrev Role.lent:Role:=⟨7,0⟩
def Role.lends(r:Role):Bool:=r.k==6 || r.k==7
def hcl(f:Nat->Value):Array Value:= #[f 0,f 1,f 2,f 3,f 4,f 5,f 6,f 7,f 8,f 9,f 10,f 11,f 12,f 13,f 14,f 15]
def lw(f:Nat->Value)(o:Nat)(v:Value):Nat->Value:=fun k=>if k=o then v else f k
theorem lJ(f:Nat->Value)(o:Nat)(v:Value):lw f o v o=v:=by simp [lw]
theorem iW(f:Nat->Value){o k:Nat}(v:Value)(h:k≠o):lw f o v k=f k:=by simp [lw,h]
theorem Gf{o:Nat}(h:o<16):o=0\/o=1\/o=2\/o=3\/o=4\/o=5\/o=6\/o=7\/o=8\/o=9\/o=10\/o=11\/o=12\/o=13\/o=14\/o=15:=by omega
theorem D4(f:Nat->Value){o:Nat}(h:o<16):(hcl f)[o]?=some (f o):=by
 rcases Gf h with rfl | rfl | rfl | rfl | rfl | rfl | rfl | rfl | rfl | rfl | rfl | rfl | rfl | rfl | rfl | rfl<;>rfl
theorem El(f:Nat->Value){o:Nat}(v:Value)(h:o<16):(hcl f).setIfInBounds o v=hcl (lw f o v):=by
 rcases Gf h with rfl | rfl | rfl | rfl | rfl | rfl | rfl | rfl | rfl | rfl | rfl | rfl | rfl | rfl | rfl | rfl<;>rfl
def HB(w:World)(b:Nat)(f:Nat->Value):Prop:=w.heap[b]?=some (.cells (hcl f) 45 (0,0))
theorem HB.cell{w:World}{b:Nat}{f:Nat->Value}(h:HB w b f){o:Nat}(a:o<16):w.cell? ⟨b,o,none⟩=some (f o):=by
 unfold HB at h;simp only [World.cell?,h];exact D4 f a
theorem HB.frozen{w:World}{b:Nat}{f:Nat->Value}(h:HB w b f)(o:Nat):w.frozen? ⟨b,o,none⟩=false:=by
 unfold HB at h;simp [World.frozen?,h]
theorem HB.lt{w:World}{b:Nat}{f:Nat->Value}(h:HB w b f):b<w.heap.size:=(Array.getElem?_eq_some_iff.1 h).1
theorem HB.set{w:World}{b:Nat}{f:Nat->Value}(h:HB w b f){o:Nat}(a:o<16)(v:Value):HB (w.setCell ⟨b,o,none⟩ v) b (lw f o v):=by
 unfold HB at*;rw [heap_setCell_same w b o _ _ v h,El f v a]
theorem HB.same{w w':World}{b:Nat}{f:Nat->Value}(h:HB w b f)(e:w'.heap[b]?=w.heap[b]?):HB w' b f:=by unfold HB at*;rw [e];exact h
def tlC:Nat->TypeId
 | 0=>39
 | 1=>27
 | 2=>29
 | 3=>66
 | _=>35
def teC:Nat->TypeId
 | 0=>3
 | 1=>76
 | 2=>28
 | 3=>65
 | _=>66
def elC(m:Int):Nat->List Value
 | 0=>[.int .i64 m]
 | 1=>[.int .i64 m,.int .i64 0]
 | 2=>[.int .i64 m,.int .i64 1,.int .i64 2,.int .i64 3]
 | 3=>[.int .i64 m,.int .i64 0,.int .i64 0,.int .i64 0]
 | _=>[]
def ow(w:World)(who:Nat->Role)(g len:Nat)(m:Int)(c:Nat):Prop:=
 if c=4 then ∀ k,k<len->∃ g' cap',w.cell? ⟨g,k,none⟩=some (.slice (some ⟨g',0,none⟩) 1 cap')/\w.heap[g']?=some (.cells (elC m 3).toArray 65 (0,0))/\who g'= .kept
 else ∀ k,k<len->∀ j u,(elC m c)[j]?=some u->w.cell? ⟨g,k*(elC m c).length+j,none⟩=some u
theorem mR{w:World}{who:Nat->Role}{g len:Nat}{m:Int}:ow w who g len m 4↔∀ k,k<len->∃ g' cap',w.cell? ⟨g,k,none⟩=some (.slice (some ⟨g',0,none⟩) 1 cap')/\w.heap[g']?=some (.cells (elC m 3).toArray 65 (0,0))/\who g'= .kept:=by
 unfold ow;rw [if_pos rfl]
theorem mo{w:World}{who:Nat->Role}{g len:Nat}{m:Int}{c:Nat}(h:c≠4):ow w who g len m c↔∀ k,k<len->∀ j u,(elC m c)[j]?=some u->w.cell? ⟨g,k*(elC m c).length+j,none⟩=some u:=by
 unfold ow;rw [if_neg h]
def KeptC(c:Nat)(w:World)(who:Nat->Role)(x:Value × Int):Prop:=
 x.1= .slice none 0 0\/∃ g len cap,x.1= .slice (some ⟨g,0,none⟩) len cap/\len<=1000/\ow w who g len x.2 c
structure Hs(B:Nat)(w:World)(b:Nat)(who:Nat->Role)(n:Int)(f:Nat->Value)(K:Nat->List (Value × Int))(M:Nat->List Int):Prop where
 blk:HB w b f
 cnt:f 5= .int .i64 n
 lst:∀ c,c<5->w.ownsRow B (tlC c) 1 (f (6+2*c)) (K c).length ((K c).map (·.1))
 mrk:∀ c,c<5->w.ownsRow B 3 1 (f (7+2*c)) (M c).length (iL (M c))
 wl:∀ c,c<5->∀ g,(f (6+2*c)).ownBlock=some g->who g= .lst c
 wm:∀ c,c<5->∀ g,(f (7+2*c)).ownBlock=some g->who g= .mrk c
 wb:who b= .hands
 kept:∀ c,c<5->∀ x∈K c,KeptC c w who x/\∀ g,x.1.ownBlock=some g->who g= .kept\/who g= .cur
 dom:∀ g,who g≠ .other->B<=g/\g<w.heap.size
theorem mS{w w':World}{who:Nat->Role}{g len:Nat}{m:Int}{c:Nat}(h:ow w who g len m c)(e:w'.heap[g]?=w.heap[g]?)(l:∀ g,who g= .kept->w'.heap[g]?=w.heap[g]?):ow w' who g len m c:=by
 by_cases hc:c=4
 ·subst hc;rw [mR]at*;intro k a;obtain⟨b,n,f,i,d⟩:=h k a;exact⟨b,n,by rw [World.cell?_of_block e];exact f,by rw [l b d];exact i,d⟩
 ·rw [mo hc]at*;intro k a j u o;rw [World.cell?_of_block e];exact h k a j u o
theorem KeptC.same{w w':World}{who:Nat->Role}{c:Nat}{x:Value × Int}(h:KeptC c w who x)(b:∀ g,x.1.ownBlock=some g->who g= .kept\/who g= .cur)(a:∀ g,who g= .kept\/who g= .cur->w'.heap[g]?=w.heap[g]?):KeptC c w' who x:=by
 rcases h with h | ⟨g,len,cap,e,hl,hc⟩
 ·exact Or.inl h
 ·exact Or.inr ⟨g,len,cap,e,hl,mS hc (a g (b g (by rw [e];rfl))) (fun g e=>a g (Or.inl e))⟩
theorem yO{w:World}{who b:Nat->Role}{g len:Nat}{m:Int}{c:Nat}(h:ow w who g len m c)(f:∀ g,who g= .kept->b g= .kept):ow w b g len m c:=by
 by_cases hc:c=4
 ·subst hc;rw [mR]at*;intro k l;obtain⟨a,j,d,e,i⟩:=h k l;exact⟨a,j,d,e,f a i⟩
 ·rw [mo hc]at*;exact h
theorem KeptC.who{w:World}{who a:Nat->Role}{c:Nat}{x:Value × Int}(h:KeptC c w who x)(b:∀ g,who g= .kept->a g= .kept):KeptC c w a x:=by
 rcases h with h | ⟨g,len,cap,e,hl,hc⟩
 ·exact Or.inl h
 ·exact Or.inr ⟨g,len,cap,e,hl,yO hc b⟩
section
variable {B : Nat} {w w' : World} {b : Nat} {who who' : Nat -> Role} {n : Int} {f : Nat -> Value} {K : Nat -> List (Value × Int)} {M : Nat -> List Int}
theorem Hs.same(h:Hs B w b who n f K M)(hs:w.heap.size<=w'.heap.size)(i:∀ g,g<w.heap.size->who g≠ .other->(who g).lends=false->w'.heap[g]?=w.heap[g]?):Hs B w' b who n f K M:=by
 have a:∀ g,who g≠ .other->(who g).lends=false->w'.heap[g]?=w.heap[g]?:=fun g h1 h2=>i g (h.dom g h1).2 h1 h2
 have d:∀ g,who g= .kept\/who g= .cur->w'.heap[g]?=w.heap[g]?:=fun g e=>by
  rcases e with e | e<;>exact a g (by rw [e];simp) (by rw [e];rfl)
 refine⟨h.blk.same (a b (by rw [h.wb];simp) (by rw [h.wb];rfl)),h.cnt,fun c hc=>iM (h.lst c hc) (fun g e=>?_),fun c hc=>iM (h.mrk c hc) (fun g e=>?_),h.wl,h.wm,h.wb,fun c hc x hx=>?_,fun g e=>?_⟩
 ·have:=h.wl c hc g e;exact a g (by rw [this];simp) (by rw [this];rfl)
 ·have:=h.wm c hc g e;exact a g (by rw [this];simp) (by rw [this];rfl)
 ·obtain⟨k1,k2⟩:=h.kept c hc x hx;exact⟨k1.same k2 d,k2⟩
 ·have:=h.dom g e;exact⟨this.1,by omega⟩
theorem Hs.grown(h:Hs B w b who n f K M)(hg:w.grownBy w' none):Hs B w' b who n f K M:=h.same hg.size (fun g hg1 _ _=>hg.block g hg1 (by simp))
theorem Hs.like(h:Hs B w b who n f K M)(hl:jt w' w):Hs B w' b who n f K M:=h.grown (iK hl)
theorem Hs.more(h:Hs B w b who n f K M)(a:∀ g,who g≠ .other->who' g=who g)(i:∀ g,who' g≠ .other->B<=g/\g<w.heap.size):Hs B w b who' n f K M:=by
 have d:∀ g,who g= .kept\/who g= .cur->who' g= .kept\/who' g= .cur:=fun g e=>by
  have:who' g=who g:=a g (by rcases e with e | e<;>rw [e]<;>simp);rw [this];exact e
 refine⟨h.blk,h.cnt,h.lst,h.mrk,fun c hc g e=>?_,fun c hc g e=>?_,?_,fun c hc x hx=>?_,i⟩
 ·have:=h.wl c hc g e;rw [a g (by rw [this];simp),this]
 ·have:=h.wm c hc g e;rw [a g (by rw [this];simp),this]
 ·rw [a b (by rw [h.wb];simp),h.wb]
 ·obtain⟨k1,k2⟩:=h.kept c hc x hx;exact⟨k1.who (fun g e=>by rw [a g (by rw [e];simp)];exact e),fun g e=>d g (k2 g e)⟩
theorem Hs.setLent(h:Hs B w b who n f K M){o:Nat}(ho:o<5)(v:Value):Hs B (w.setCell ⟨b,o,none⟩ v) b who n (lw f o v) K M:=by
 have a:∀ g,who g≠ .hands->(w.setCell ⟨b,o,none⟩ v).heap[g]?=w.heap[g]?:=fun g e=>Below.heap_setCell _ _ _ _ (by intro d;simp only at d;rw [d]at e;exact e h.wb)
 have i:∀ g,who g= .kept\/who g= .cur->(w.setCell ⟨b,o,none⟩ v).heap[g]?=w.heap[g]?:=fun g e=>a g (by rcases e with e | e<;>rw [e]<;>simp)
 refine⟨h.blk.set (by omega) v,by rw [iW _ _ (by omega)];exact h.cnt,fun c hc=>?_,fun c hc=>?_,fun c hc=>?_,fun c hc=>?_,h.wb,fun c hc x hx=>?_,fun g e=>?_⟩
 ·rw [iW _ _ (by omega)];exact iM (h.lst c hc) (fun g e=>a g (by rw [h.wl c hc g e];simp))
 ·rw [iW _ _ (by omega)];exact iM (h.mrk c hc) (fun g e=>a g (by rw [h.wm c hc g e];simp))
 ·rw [iW _ _ (by omega)];exact h.wl c hc
 ·rw [iW _ _ (by omega)];exact h.wm c hc
 ·obtain⟨k1,k2⟩:=h.kept c hc x hx;exact⟨k1.same k2 i,k2⟩
 ·have:=h.dom g e;exact⟨this.1,by simpa using this.2⟩
theorem Hs.setCnt(h:Hs B w b who n f K M)(m:Int):Hs B (w.setCell ⟨b,5,none⟩ (.int .i64 m)) b who m (lw f 5 (.int .i64 m)) K M:=by
 have a:∀ g,who g≠ .hands->(w.setCell ⟨b,5,none⟩ (.int .i64 m)).heap[g]?=w.heap[g]?:=fun g e=>Below.heap_setCell _ _ _ _ (by intro d;simp only at d;rw [d]at e;exact e h.wb)
 have i:∀ g,who g= .kept\/who g= .cur->(w.setCell ⟨b,5,none⟩ (.int .i64 m)).heap[g]?=w.heap[g]?:=fun g e=>a g (by rcases e with e | e<;>rw [e]<;>simp)
 refine⟨h.blk.set (by omega) _,lJ _ _ _,fun c hc=>?_,fun c hc=>?_,fun c hc=>?_,fun c hc=>?_,h.wb,fun c hc x hx=>?_,fun g e=>?_⟩
 ·rw [iW _ _ (by omega)];exact iM (h.lst c hc) (fun g e=>a g (by rw [h.wl c hc g e];simp))
 ·rw [iW _ _ (by omega)];exact iM (h.mrk c hc) (fun g e=>a g (by rw [h.wm c hc g e];simp))
 ·rw [iW _ _ (by omega)];exact h.wl c hc
 ·rw [iW _ _ (by omega)];exact h.wm c hc
 ·obtain⟨k1,k2⟩:=h.kept c hc x hx;exact⟨k1.same k2 i,k2⟩
 ·have:=h.dom g e;exact⟨this.1,by simpa using this.2⟩
end
def setW(who:Nat->Role)(g:Nat)(r:Role):Nat->Role:=fun k=>if k=g then r else who k
theorem jC(who:Nat->Role)(g:Nat)(r:Role):setW who g r g=r:=by simp [setW]
theorem iN(who:Nat->Role){g k:Nat}(r:Role)(h:k≠g):setW who g r k=who k:=by simp [setW,h]
def oD(K:Nat->List (Value × Int))(c:Nat)(l:List (Value × Int)):Nat->List (Value × Int):=fun k=>if k=c then l else K k
theorem nC(K:Nat->List (Value × Int))(c:Nat)(l:List (Value × Int)):oD K c l c=l:=by simp [oD]
theorem nH(K:Nat->List (Value × Int)){c k:Nat}(l:List (Value × Int))(h:k≠c):oD K c l k=K k:=by simp [oD,h]
def vY(M:Nat->List Int)(c:Nat)(l:List Int):Nat->List Int:=fun k=>if k=c then l else M k
theorem zm(M:Nat->List Int)(c:Nat)(l:List Int):vY M c l c=l:=by simp [vY]
theorem zl(M:Nat->List Int){c k:Nat}(l:List Int)(h:k≠c):vY M c l k=M k:=by simp [vY,h]
def jo(K:Nat->List (Value × Int)):Nat->List Int:=fun c=>(K c).map (·.2)
structure Fr(w w':World)(who who':Nat->Role)(ex:Nat->Prop):Prop where
 os:w'.os=w.os
 tape:w'.tape=w.tape
 output:w'.output=w.output
 size:w.heap.size<=w'.heap.size
 oth:∀ g,g<w.heap.size->who g= .other->¬ex g->w'.heap[g]?=w.heap[g]?/\who' g= .other
theorem Fr.refl(w:World)(who:Nat->Role)(ex:Nat->Prop):Fr w w who who ex:=⟨rfl,rfl,rfl,Nat.le_refl _,fun _ _ h _=>⟨rfl,h⟩⟩
theorem Fr.trans{w w1 w2:World}{who who1 who2:Nat->Role}{ex:Nat->Prop}(h:Fr w w1 who who1 ex)(h':Fr w1 w2 who1 who2 ex):Fr w w2 who who2 ex:=
 ⟨h'.os.trans h.os,h'.tape.trans h.tape,h'.output.trans h.output,Nat.le_trans h.size h'.size,fun g h1 h2 h3=>by
  obtain⟨a,b⟩:=h.oth g h1 h2 h3;obtain⟨c,d⟩:=h'.oth g (Nat.lt_of_lt_of_le h1 h.size) b h3;exact⟨c.trans a,d⟩⟩
theorem Fr.mono{w w':World}{who who':Nat->Role}{ex ex':Nat->Prop}(h:Fr w w' who who' ex)(he:∀ g,ex g->ex' g):Fr w w' who who' ex':=
 ⟨h.os,h.tape,h.output,h.size,fun g h1 h2 h3=>h.oth g h1 h2 (fun e=>h3 (he g e))⟩
theorem Fr.grown{w w':World}{who:Nat->Role}{ex:Nat->Prop}(h:w.grownBy w' none):Fr w w' who who ex:=⟨h.os,h.tape,h.output,h.size,fun g h1 h2 _=>⟨h.block g h1 (by simp),h2⟩⟩
theorem Fr.like{w w':World}{who:Nat->Role}{ex:Nat->Prop}(h:jt w' w):Fr w w' who who ex:=Fr.grown (iK h)
theorem Fr.set{w:World}{who:Nat->Role}{ex:Nat->Prop}{g o:Nat}{v:Value}(h:who g≠ .other\/ex g):Fr w (w.setCell ⟨g,o,none⟩ v) who who ex:=
 ⟨rfl,rfl,rfl,by simp,fun k _ h2 h3=>⟨Below.heap_setCell _ _ _ _ (fun e=>by simp only at e;subst e;rcases h with h | h;exact h h2;exact h3 h),h2⟩⟩
theorem Fr.setW{w w':World}{who who':Nat->Role}{ex:Nat->Prop}{g:Nat}{r:Role}(h:Fr w w' who who' ex)(hg:w.heap.size<=g\/who' g≠ .other\/ex g):Fr w w' who (setW who' g r) ex:=
 ⟨h.os,h.tape,h.output,h.size,fun k h1 h2 h3=>by
  obtain⟨a,b⟩:=h.oth k h1 h2 h3;refine⟨a,?_⟩;rw [iN]
  ·exact b
  ·intro e;subst e
   rcases hg with hg | hg | hg
   ·omega
   ·exact hg b
   ·exact h3 hg⟩
theorem Fr.key{w w6:World}{who:Nat->Role}{d:Nat->Prop}{o:Obj}{v:Value}{g6:Nat}{r:Role}(c:∀ g,v.ownBlock=some g->who g≠ .other)(key:(v.ownBlock=some g6/\(w.alloc o).grownBy w6 (some g6))\/(g6=w.heap.size+1/\(w.alloc o).grownBy w6 none)):
  Fr w w6 who (Go.Proofs.YtklenjmfalljgabGreatDoor.setW who g6 r) d:=by
 rcases key with ⟨e,hg⟩ | ⟨e,hg⟩
 ·have b:w.grownBy w6 (some g6):=il (iq (ir _ _)) hg;refine Fr.setW ⟨b.os,b.tape,b.output,b.size,fun k h1 h2 _=>⟨b.block k h1 (fun e2=>?_),h2⟩⟩ (Or.inr (Or.inl (c g6 e)));simp only [Option.some.injEq]at e2;subst e2;exact c _ e h2
 ·exact Fr.setW (Fr.grown (il (iq (ir _ _)) hg)) (Or.inl (by omega))
theorem Fr.base{W w w':World}{who c:Nat->Role}{b:Nat->Prop}{B:Nat}(h:Fr w w' who c b)(a:W.grownBy w none)(hB:W.heap.size<=B)(f:∀ g,who g≠ .other->B<=g)(d:∀ g,b g->W.heap.size<=g):W.grownBy w' none:=
 ⟨h.os.trans a.os,h.tape.trans a.tape,h.output.trans a.output,Nat.le_trans a.size h.size,fun k hk _=>by
  have ho:who k= .other:=by
   by_cases e:who k= .other
   ·exact e
   ·exact absurd (f k e) (by omega)
  rw [(h.oth k (Nat.lt_of_lt_of_le hk a.size) ho (fun e=>by have:=d k e;omega)).1];exact a.block k hk (by simp)⟩
structure Cur(B:Nat)(w:World)(who:Nat->Role)(m:Int)(c:Nat)(lv:Value)(len:Nat)(K:Nat->List (Value × Int)):Prop where
 row:w.ownsRow B (teC c) (elC m c).length lv len (List.replicate len (elC m c)).flatten
 wc:∀ g,lv.ownBlock=some g->who g= .cur
 ent:∀ x∈K c,∀ g,x.1.ownBlock=some g->who g= .cur->x.2=m/\∃ l c',x.1= .slice (some ⟨g,0,none⟩) l c'/\(lv.ownBlock=some g->l<=len)
 oth:∀ c',c'<5->c'≠c->∀ x∈K c',∀ g,x.1.ownBlock=some g->who g= .kept
 ln:len<=1000
section
variable {B : Nat} {w w6 : World} {b : Nat} {who : Nat -> Role} {n m : Int} {f : Nat -> Value} {K : Nat -> List (Value × Int)} {M : Nat -> List Int} {c : Nat} {lv : Value} {len : Nat}
theorem mr(e:List Value)(k:Nat):((List.replicate k e).flatten).length=k*e.length:=by
 induction k with
 | zero=>simp
 | succ k ih=>rw [List.replicate_succ,List.flatten_cons,List.length_append,ih,Nat.succ_mul];omega
theorem vC(e:List Value)(n k j:Nat)(u:Value)(hk:k<n)(a:e[j]?=some u):((List.replicate n e).flatten)[k*e.length+j]?=some u:=by
 induction n generalizing k with
 | zero=>omega
 | succ n ih=>
  have b:=(List.getElem?_eq_some_iff.1 a).1;rw [List.replicate_succ,List.flatten_cons];cases k with
  | zero=>rw [Nat.zero_mul,Nat.zero_add,List.getElem?_append_left b];exact a
  | succ k=>
   rw [List.getElem?_append_right (by rw [Nat.succ_mul];omega),Nat.succ_mul];have:k*e.length+e.length+j - e.length=k*e.length+j:=by omega
   rw [this];exact ih k (by omega)
theorem kY(e:List Value)(n:Nat):(List.replicate n e).flatten++e=(List.replicate (n+1) e).flatten:=by
 rw [List.replicate_succ',List.flatten_append];simp
theorem Cur.keptNow(a:Cur B w who m c lv len K)(hc:c<4):KeptC c w who (lv,m):=by
 rcases a.row.2 with ⟨e,_⟩ | ⟨g,cap,cur,hv,hbb,hh,hrest⟩
 ·exact Or.inl e
 ·refine Or.inr ⟨g,len,cap,hv,a.ln,?_⟩;have b:=a.row;rw [hv]at b;have d:∀ k,k<len->∀ j u,(elC m c)[j]?=some u->w.cell? ⟨g,k*(elC m c).length+j,none⟩=some u:=fun k hk j u hu=>by
   have hjl:=(List.getElem?_eq_some_iff.1 hu).1;have f:(k+1)*(elC m c).length<=len*(elC m c).length:=Nat.mul_le_mul_right _ hk;rw [Nat.succ_mul]at f;rw [b.cellAt _ (by omega)];exact vC _ _ _ _ _ hk hu
  exact(mo (by omega)).2 d
theorem kE{v:Value}{o:Obj}{g6:Nat}(key:(v.ownBlock=some g6/\(w.alloc o).grownBy w6 (some g6))\/(g6=w.heap.size+1/\(w.alloc o).grownBy w6 none))(c:∀ g,who g≠ .other->g<w.heap.size){r:Role}(d:r≠ .other)(j:∀ g,v.ownBlock=some g->who g=r):
  w.heap.size<=w6.heap.size/\(∀ g,who g≠ .other->who g≠r->w6.heap[g]?=w.heap[g]?/\g6≠g)/\(∀ g,who g=r->g6≠g->w6.heap[g]?=w.heap[g]?)/\(g6<w.heap.size->who g6=r):=by
 rcases key with ⟨e,hg⟩ | ⟨e,hg⟩
 ·have b:w.grownBy w6 (some g6):=il (iq (ir _ _)) hg;have i:=j g6 e;refine⟨b.size,fun g h1 h2=>?_,fun g h1 h2=>b.block g (c g (by rw [h1];exact d)) (by simpa using fun e2=>h2 e2.symm),fun _=>i⟩;have f:g6≠g:=fun e2=>h2 (by rw [<-e2];exact i)
  exact⟨b.block g (c g h1) (by simpa using fun e2=>f e2.symm),f⟩
 ·have b:w.grownBy w6 none:=il (iq (ir _ _)) hg;refine⟨b.size,fun g h1 h2=>⟨b.block g (c g h1) (by simp),by have:=c g h1;omega⟩,fun g h1 h2=>b.block g (c g (by rw [h1];exact d)) (by simp),fun h=>by omega⟩
end
section
variable {B : Nat} {w w6 : World} {b : Nat} {who : Nat -> Role} {n m : Int} {f : Nat -> Value} {K : Nat -> List (Value × Int)} {M : Nat -> List Int} {c : Nat} {lv : Value} {len : Nat}
theorem Hs.push(h:Hs B w b who n f K M)(i:Cur B w who m c lv len K)(hc:c<4){o:Obj}{g6 c6:Nat}
  (t:w6.ownsRow B (tlC c) 1 (.slice (some ⟨g6,0,none⟩) ((K c).length+1) c6) ((K c).length+1) ((K c).map (·.1)++[lv]))
  (key:((f (6+2*c)).ownBlock=some g6/\(w.alloc o).grownBy w6 (some g6))\/(g6=w.heap.size+1/\(w.alloc o).grownBy w6 none)):
  Hs B (w6.setCell ⟨b,6+2*c,none⟩ (.slice (some ⟨g6,0,none⟩) ((K c).length+1) c6)) b (setW who g6 (.lst c)) n (lw f (6+2*c) (.slice (some ⟨g6,0,none⟩) ((K c).length+1) c6)) (oD K c (K c++[(lv,m)])) M/\
  Cur B (w6.setCell ⟨b,6+2*c,none⟩ (.slice (some ⟨g6,0,none⟩) ((K c).length+1) c6)) (setW who g6 (.lst c)) m c lv len (oD K c (K c++[(lv,m)])):=by
 have I:c<5:=by omega
 obtain⟨hsz,q,hsr,h6r⟩:=kE key (fun g e=>(h.dom g e).2) (r:= .lst c) (by simp) (h.wl c I);have E:g6≠b:=(q b (by rw [h.wb];simp) (by rw [h.wb];simp)).2;have J:HB w6 b f:=h.blk.same (q b (by rw [h.wb];simp) (by rw [h.wb];simp)).1;generalize D:Value.slice (some ⟨g6,0,none⟩) ((K c).length+1) c6=V at*;have s:V.ownBlock=some g6:=by rw [<-D];rfl
 have v:∀ g,who g≠ .other->who g≠ .lst c->g≠b->(w6.setCell ⟨b,6+2*c,none⟩ V).heap[g]?=w.heap[g]?:=fun g k j h3=>by
  rw [Below.heap_setCell _ _ _ _ (by simpa using h3)];exact(q g k j).1
 have p:∀ g,who g≠ .other->who g≠ .lst c->setW who g6 (.lst c) g=who g:=fun g k j=>iN _ _ (fun e=>(q g k j).2 e.symm)
 have C:∀ g,who g= .kept\/who g= .cur->(w6.setCell ⟨b,6+2*c,none⟩ V).heap[g]?=w.heap[g]?:=fun g e=>v g (by rcases e with e | e<;>rw [e]<;>simp) (by rcases e with e | e<;>rw [e]<;>simp) (fun d=>by subst d;rw [h.wb]at e;rcases e with e | e<;>cases e)
 have u:∀ g,who g= .kept->setW who g6 (.lst c) g= .kept:=fun g e=>by rw [p g (by rw [e];simp) (by rw [e];simp)];exact e
 have y:∀ g,who g= .cur->setW who g6 (.lst c) g= .cur:=fun g e=>by rw [p g (by rw [e];simp) (by rw [e];simp)];exact e
 have H:∀ g,who g= .kept\/who g= .cur->setW who g6 (.lst c) g= .kept\/setW who g6 (.lst c) g= .cur:=fun g e=>e.imp (u g) (y g)
 have F:∀ g,setW who g6 (.lst c) g= .cur->who g= .cur:=fun g e=>by
  by_cases d:g=g6
  ·subst d;rw [jC]at e;cases e
  ·rwa [iN _ _ d]at e
 have z:∀ c' x,c'<5->x∈K c'->KeptC c' (w6.setCell ⟨b,6+2*c,none⟩ V) (setW who g6 (.lst c)) x/\∀ g,x.1.ownBlock=some g->setW who g6 (.lst c) g= .kept\/setW who g6 (.lst c) g= .cur:=fun c' x hc' hx=>by
  obtain⟨k1,k2⟩:=h.kept c' hc' x hx;exact⟨(k1.same k2 C).who u,fun g e=>H g (k2 g e)⟩
 have G:(w6.setCell ⟨b,6+2*c,none⟩ V).ownsRow B (teC c) (elC m c).length lv len (List.replicate len (elC m c)).flatten:=iM i.row (fun g e=>C g (Or.inr (i.wc g e)));have A:Cur B (w6.setCell ⟨b,6+2*c,none⟩ V) (setW who g6 (.lst c)) m c lv len (oD K c (K c++[(lv,m)])):=by
  refine⟨G,fun g e=>y g (i.wc g e),fun x hx g e d=>?_,fun c' hc' hne x hx g e=>?_,i.ln⟩
  ·rw [nC]at hx;rcases List.mem_append.1 hx with hx | hx
   ·exact i.ent x hx g e (F g d)
   ·simp at hx;subst hx;refine⟨rfl,?_⟩;rcases i.row.2 with ⟨e3,_⟩ | ⟨g',cap,cur,hv,_⟩
    ·simp only at e;rw [e3]at e;cases e
    ·simp only at e;rw [hv]at e;simp only [Value.ownBlock,Option.some.injEq]at e;exact⟨len,cap,by rw [hv,e],fun _=>Nat.le_refl _⟩
  ·rw [nH _ _ hne]at hx;exact u g (i.oth c' hc' hne x hx g e)
 refine⟨⟨J.set (by omega) V,by rw [iW _ _ (by omega)];exact h.cnt,fun c' hc'=>?_,fun c' hc'=>?_,fun c' hc' g e=>?_,fun c' hc' g e=>?_,?_,fun c' hc' x hx=>?_,fun g e=>?_⟩,A⟩
 ·by_cases e:c'=c
  ·subst e;rw [lJ,nC];have:=ownsRow_setCell_other (a:=⟨b,6+2*c',none⟩) t (show V.ownBlock≠some b by rw [s];simpa using E) V;simpa using this
  ·rw [iW _ _ (by omega),nH _ _ e];exact iM (h.lst c' hc') (fun g d=>v g (by rw [h.wl c' hc' g d];simp) (by rw [h.wl c' hc' g d];simpa using e) (fun e3=>by subst e3;have:=h.wl c' hc' g d;rw [h.wb]at this;cases this))
 ·rw [iW _ _ (by omega)];exact iM (h.mrk c' hc') (fun g d=>v g (by rw [h.wm c' hc' g d];simp) (by rw [h.wm c' hc' g d];simp) (fun e3=>by subst e3;have:=h.wm c' hc' g d;rw [h.wb]at this;cases this))
 ·by_cases d:c'=c
  ·subst d;rw [lJ,s]at e;simp only [Option.some.injEq]at e;subst e;exact jC _ _ _
  ·rw [iW _ _ (by omega)]at e;have:=h.wl c' hc' g e;rw [p g (by rw [this];simp) (by rw [this];simpa using d),this]
 ·rw [iW _ _ (by omega)]at e;have:=h.wm c' hc' g e;rw [p g (by rw [this];simp) (by rw [this];simp),this]
 ·rw [p b (by rw [h.wb];simp) (by rw [h.wb];simp),h.wb]
 ·by_cases d:c'=c
  ·subst d;rw [nC]at hx;rcases List.mem_append.1 hx with hx | hx
   ·exact z c' x hc' hx
   ·simp at hx;subst hx;exact⟨A.keptNow hc,fun g e=>Or.inr (y g (i.wc g e))⟩
  ·rw [nH _ _ d]at hx;exact z c' x hc' hx
 ·by_cases d:g=g6
  ·subst d;have k:=iA t g s;have j:=iZ t g s;exact⟨k,by simpa using j⟩
  ·rw [iN _ _ d]at e;have:=h.dom g e;exact⟨this.1,by simp;omega⟩
theorem Hs.tell(h:Hs B w b who n f K M)(i:Cur B w who m c lv len K)(hc:c<4){o:Obj}{g6 c6:Nat}
  (u:w6.ownsRow B 3 1 (.slice (some ⟨g6,0,none⟩) ((M c).length+1) c6) ((M c).length+1) (iL (M c)++[.int .i64 m]))
  (key:((f (7+2*c)).ownBlock=some g6/\(w.alloc o).grownBy w6 (some g6))\/(g6=w.heap.size+1/\(w.alloc o).grownBy w6 none)):
  Hs B (w6.setCell ⟨b,7+2*c,none⟩ (.slice (some ⟨g6,0,none⟩) ((M c).length+1) c6)) b (setW who g6 (.mrk c)) n (lw f (7+2*c) (.slice (some ⟨g6,0,none⟩) ((M c).length+1) c6)) K (vY M c (M c++[m]))/\
  Cur B (w6.setCell ⟨b,7+2*c,none⟩ (.slice (some ⟨g6,0,none⟩) ((M c).length+1) c6)) (setW who g6 (.mrk c)) m c lv len K:=by
 have A:c<5:=by omega
 obtain⟨hsz,p,hsr,h6r⟩:=kE key (fun g e=>(h.dom g e).2) (r:= .mrk c) (by simp) (h.wm c A);have C:g6≠b:=(p b (by rw [h.wb];simp) (by rw [h.wb];simp)).2;have E:HB w6 b f:=h.blk.same (p b (by rw [h.wb];simp) (by rw [h.wb];simp)).1;generalize z:Value.slice (some ⟨g6,0,none⟩) ((M c).length+1) c6=V at*;have q:V.ownBlock=some g6:=by rw [<-z];rfl
 have t:∀ g,who g≠ .other->who g≠ .mrk c->g≠b->(w6.setCell ⟨b,7+2*c,none⟩ V).heap[g]?=w.heap[g]?:=fun g j k h3=>by
  rw [Below.heap_setCell _ _ _ _ (by simpa using h3)];exact(p g j k).1
 have l:∀ g,who g≠ .other->who g≠ .mrk c->setW who g6 (.mrk c) g=who g:=fun g j k=>iN _ _ (fun e=>(p g j k).2 e.symm)
 have y:∀ g,who g= .kept\/who g= .cur->(w6.setCell ⟨b,7+2*c,none⟩ V).heap[g]?=w.heap[g]?:=fun g e=>t g (by rcases e with e | e<;>rw [e]<;>simp) (by rcases e with e | e<;>rw [e]<;>simp) (fun d=>by subst d;rw [h.wb]at e;rcases e with e | e<;>cases e)
 have s:∀ g,who g= .kept->setW who g6 (.mrk c) g= .kept:=fun g e=>by rw [l g (by rw [e];simp) (by rw [e];simp)];exact e
 have v:∀ g,who g= .cur->setW who g6 (.mrk c) g= .cur:=fun g e=>by rw [l g (by rw [e];simp) (by rw [e];simp)];exact e
 have D:∀ g,setW who g6 (.mrk c) g= .cur->who g= .cur:=fun g e=>by
  by_cases d:g=g6
  ·subst d;rw [jC]at e;cases e
  ·rwa [iN _ _ d]at e
 refine⟨⟨E.set (by omega) V,by rw [iW _ _ (by omega)];exact h.cnt,fun c' hc'=>?_,fun c' hc'=>?_,fun c' hc' g e=>?_,fun c' hc' g e=>?_,?_,fun c' hc' x hx=>?_,fun g e=>?_⟩,
  ⟨iM i.row (fun g e=>y g (Or.inr (i.wc g e))),fun g e=>v g (i.wc g e),fun x hx g e d=>i.ent x hx g e (D g d),fun c' hc' hne x hx g e=>s g (i.oth c' hc' hne x hx g e),i.ln⟩⟩
 ·rw [iW _ _ (by omega)];exact iM (h.lst c' hc') (fun g d=>t g (by rw [h.wl c' hc' g d];simp) (by rw [h.wl c' hc' g d];simp) (fun e3=>by subst e3;have:=h.wl c' hc' g d;rw [h.wb]at this;cases this))
 ·by_cases e:c'=c
  ·subst e;rw [lJ,zm];have:=ownsRow_setCell_other (a:=⟨b,7+2*c',none⟩) u (show V.ownBlock≠some b by rw [q];simpa using C) V;simpa [iL]using this
  ·rw [iW _ _ (by omega),zl _ _ e];exact iM (h.mrk c' hc') (fun g d=>t g (by rw [h.wm c' hc' g d];simp) (by rw [h.wm c' hc' g d];simpa using e) (fun e3=>by subst e3;have:=h.wm c' hc' g d;rw [h.wb]at this;cases this))
 ·rw [iW _ _ (by omega)]at e;have:=h.wl c' hc' g e;rw [l g (by rw [this];simp) (by rw [this];simp),this]
 ·by_cases d:c'=c
  ·subst d;rw [lJ,q]at e;simp only [Option.some.injEq]at e;subst e;exact jC _ _ _
  ·rw [iW _ _ (by omega)]at e;have:=h.wm c' hc' g e;rw [l g (by rw [this];simp) (by rw [this];simpa using d),this]
 ·rw [l b (by rw [h.wb];simp) (by rw [h.wb];simp),h.wb]
 ·obtain⟨k1,k2⟩:=h.kept c' hc' x hx;exact⟨(k1.same k2 y).who s,fun g e=>(k2 g e).imp (s g) (v g)⟩
 ·by_cases d:g=g6
  ·subst d;have j:=iA u g q;have k:=iZ u g q;exact⟨j,by simpa using k⟩
  ·rw [iN _ _ d]at e;have:=h.dom g e;exact⟨this.1,by simp;omega⟩
theorem Hs.grow(h:Hs B w b who n f K M)(i:Cur B w who m c lv len K)(hc:c<4)(Q:len+1<=1000){o:Obj}{g6 c6:Nat}
  (q:w6.ownsRow B (teC c) (elC m c).length (.slice (some ⟨g6,0,none⟩) (len+1) c6) (len+1) ((List.replicate len (elC m c)).flatten++elC m c))
  (key:(lv.ownBlock=some g6/\(w.alloc o).grownBy w6 (some g6))\/(g6=w.heap.size+1/\(w.alloc o).grownBy w6 none)):
  Hs B w6 b (setW who g6 .cur) n f K M/\Cur B w6 (setW who g6 .cur) m c (.slice (some ⟨g6,0,none⟩) (len+1) c6) (len+1) K:=by
 obtain⟨hsz,S,F,H⟩:=kE key (fun g e=>(h.dom g e).2) (r:= .cur) (by simp) i.wc;have p:∀ g,who g≠ .other->setW who g6 .cur g=who g:=fun g h1=>by
  by_cases e:g=g6
  ·subst e;rw [jC];exact(H (h.dom g h1).2).symm
  ·exact iN _ _ e
 have O:∀ g,setW who g6 .cur g= .cur->g=g6\/who g= .cur:=fun g e=>by
  by_cases a:g=g6
  ·exact Or.inl a
  ·rw [iN _ _ a]at e;exact Or.inr e
 have s:∀ g,who g≠ .other->who g≠ .cur->w6.heap[g]?=w.heap[g]?:=fun g h1 t=>(S g h1 t).1
 rw [kY]at q;have P:∀ g,lv.ownBlock=some g->∀ k,k<len*(elC m c).length->w6.cell? ⟨g,k,none⟩=w.cell? ⟨g,k,none⟩:=fun g e k hk=>by
  by_cases a:g6=g
  ·subst a;rcases i.row.2 with ⟨d,_⟩ | ⟨g',cap,cur,hv,_⟩
   ·rw [d]at e;cases e
   ·have J:=i.row;rw [hv]at e;simp only [Value.ownBlock,Option.some.injEq]at e;subst e;rw [hv]at J;have C:k<(len+1)*(elC m c).length:=by rw [Nat.succ_mul];omega
    rw [q.cellAt k C,J.cellAt k hk,<-kY,List.getElem?_append_left (by rw [mr];exact hk)]
  ·exact World.cell?_of_block (F g (i.wc g e) a)
 have U:∀ g,who g= .cur->lv.ownBlock≠some g->w6.heap[g]?=w.heap[g]?:=fun g e a=>by
  by_cases d:g6=g
  ·subst d;rcases key with ⟨k1,_⟩ | ⟨k1,_⟩
   ·exact absurd k1 a
   ·have:=(h.dom g6 (by rw [e];simp)).2;omega
  ·exact F g e d
 have R:∀ c' x,c'<5->x∈K c'->KeptC c' w6 (setW who g6 .cur) x/\∀ g,x.1.ownBlock=some g->setW who g6 .cur g= .kept\/setW who g6 .cur g= .cur:=fun c' x hc' hx=>by
  obtain⟨k1,k2⟩:=h.kept c' hc' x hx;refine⟨?_,fun g e=>?_⟩
  ·refine KeptC.who (who:=who) ?_ (fun g e=>by rw [p g (by rw [e];simp)];exact e);rcases k1 with k1 | ⟨g,l,cap,e,hl,hin⟩
   ·exact Or.inl k1
   ·refine Or.inr ⟨g,l,cap,e,hl,?_⟩;have D:x.1.ownBlock=some g:=by rw [e];rfl
    have A:∀ g,who g= .kept->w6.heap[g]?=w.heap[g]?:=fun g e=>s g (by rw [e];simp) (by rw [e];simp)
    rcases k2 g D with hkp | hcr
    ·exact mS hin (A g hkp) A
    ·by_cases L:c'=c
     ·subst L;by_cases z:lv.ownBlock=some g
      ·obtain⟨v,N,I,E,y⟩:=i.ent x hx g D hcr;rw [E]at e;simp only [Value.slice.injEq,true_and]at e;have hl4:l<=len:=by have:=y z;omega
       have T:∀ k,k<l->∀ j u,(elC x.2 c')[j]?=some u->w.cell? ⟨g,k*(elC x.2 c').length+j,none⟩=some u->w6.cell? ⟨g,k*(elC x.2 c').length+j,none⟩=some u:=fun k hk j u hu h0=>by
        have hjl:=(List.getElem?_eq_some_iff.1 hu).1;have t:(k+1)*(elC x.2 c').length<=len*(elC x.2 c').length:=Nat.mul_le_mul_right _ (by omega);rw [Nat.succ_mul]at t;rw [P g z _ (by rw [<-v];omega)];exact h0
       rw [mo (by omega)]at hin ⊢;exact fun k hk j u hu=>T k hk j u hu (hin k hk j u hu)
      ·exact mS hin (U g hcr z) A
     ·have:=i.oth c' hc' L x hx g D;rw [hcr]at this;cases this
  ·have:=k2 g e;rw [p g (by rcases this with e | e<;>rw [e]<;>simp)];exact this
 refine⟨⟨h.blk.same (s b (by rw [h.wb];simp) (by rw [h.wb];simp)),h.cnt,fun c' hc'=>iM (h.lst c' hc') (fun g e=>s g (by rw [h.wl c' hc' g e];simp) (by rw [h.wl c' hc' g e];simp)),fun c' hc'=>iM (h.mrk c' hc') (fun g e=>s g (by rw [h.wm c' hc' g e];simp) (by rw [h.wm c' hc' g e];simp)),
  fun c' hc' g e=>(by rw [p g (by rw [h.wl c' hc' g e];simp)];exact h.wl c' hc' g e),fun c' hc' g e=>(by rw [p g (by rw [h.wm c' hc' g e];simp)];exact h.wm c' hc' g e),(by rw [p b (by rw [h.wb];simp)];exact h.wb),fun c' hc' x hx=>R c' x hc' hx,fun g e=>?_⟩,
  ⟨q,fun g e=>(by simp only [Value.ownBlock,Option.some.injEq]at e;subst e;exact jC _ _ _),fun x hx g e a=>?_,fun c' hc' hne x hx g e=>?_,Q⟩⟩
 ·by_cases a:g=g6
  ·subst a;exact⟨iA q g rfl,iZ q g rfl⟩
  ·rw [iN _ _ a]at e;have:=h.dom g e;exact⟨this.1,by omega⟩
 ·have G:who g= .cur:=by
   rcases O g a with d | d
   ·have C:=(h.kept c (by omega) x hx).2 g e;have V:=(h.dom g (by rcases C with e | e<;>rw [e]<;>simp)).2;subst d;exact H V
   ·exact d
  obtain⟨v,N,I,E,y⟩:=i.ent x hx g e G;refine⟨v,N,I,E,fun e6=>?_⟩;simp only [Value.ownBlock,Option.some.injEq]at e6;subst e6;rcases key with ⟨k1,_⟩ | ⟨k1,_⟩
  ·have:=y k1;omega
  ·have:=(h.dom g6 (by rw [G];simp)).2;omega
 ·have:=i.oth c' hc' hne x hx g e;rw [p g (by rw [this];simp)];exact this
theorem Hs.begin(h:Hs B w b who n f K M)(hc:c<4)(d:∀ c',c'<5->∀ x∈K c',∀ g,x.1.ownBlock=some g->who g= .kept)(j:w.ownsRow B (teC c) (elC m c).length lv len (List.replicate len (elC m c)).flatten)(o:len<=1000)
  (l:∀ g,lv.ownBlock=some g->who g= .other):∃ who',Hs B w b who' n f K M/\Cur B w who' m c lv len K/\(∀ g,lv.ownBlock≠some g->who' g=who g):=by
 rcases j.2 with ⟨e,_⟩ | ⟨g0,cap,cur,hv,hbb,hh,hrest⟩
 ·refine⟨who,h,⟨j,fun g a=>(by rw [e]at a;cases a),fun x hx g a e3=>?_,fun c' hc' hne x hx g a=>d c' hc' x hx g a,o⟩,fun _ _=>rfl⟩;rw [d c (by omega) x hx g a]at e3;cases e3
 ·have i:lv.ownBlock=some g0:=by rw [hv];rfl
  have k:∀ c',c'<5->∀ x∈K c',∀ g,x.1.ownBlock=some g->g≠g0:=fun c' hc' x hx g e a=>by
   have:=d c' hc' x hx g e;subst a;rw [l g i]at this;cases this
  refine⟨setW who g0 .cur,h.more (fun g e=>iN _ _ (fun a=>by subst a;exact e (l g i))) (fun g e=>?_),⟨j,fun g a=>(by rw [i]at a;simp only [Option.some.injEq]at a;subst a;exact jC _ _ _),fun x hx g a e3=>?_,fun c' hc' hne x hx g a=>?_,o⟩,fun g e=>iN _ _ (fun a=>e (by rw [a];exact i))⟩
  ·by_cases a:g=g0
   ·subst a;exact⟨hbb,(Array.getElem?_eq_some_iff.1 hh).1⟩
   ·rw [iN _ _ a]at e;exact h.dom g e
  ·rw [iN _ _ (k c (by omega) x hx g a),d c (by omega) x hx g a]at e3;cases e3
  ·rw [iN _ _ (k c' hc' x hx g a)];exact d c' hc' x hx g a
def mH(who:Nat->Role):Nat->Role:=fun g=>if (who g).k=5/\(who g).c=0 then .kept else who g
theorem yj{who:Nat->Role}{g:Nat}(h:who g= .cur):mH who g= .kept:=by unfold mH;rw [h];rfl
theorem nc{who:Nat->Role}{g:Nat}(h:who g≠ .cur):mH who g=who g:=by
 unfold mH;rw [if_neg];rintro⟨a,b⟩;apply h;revert a b
 generalize who g=r;obtain⟨k,c⟩:=r;rintro rfl rfl;rfl
theorem Hs.settled(h:Hs B w b who n f K M):Hs B w b (mH who) n f K M/\∀ c',c'<5->∀ x∈K c',∀ g,x.1.ownBlock=some g->mH who g= .kept:=by
 have a:∀ g,who g= .kept\/who g= .cur->mH who g= .kept:=fun g e=>by
  rcases e with e | e
  ·rw [nc (by rw [e];simp)];exact e
  ·exact yj e
 refine⟨⟨h.blk,h.cnt,h.lst,h.mrk,fun c hc g e=>?_,fun c hc g e=>?_,?_,fun c hc x hx=>?_,fun g e=>?_⟩,fun c' hc' x hx g e=>a g ((h.kept c' hc' x hx).2 g e)⟩
 ·have:=h.wl c hc g e;rw [nc (by rw [this];simp),this]
 ·have:=h.wm c hc g e;rw [nc (by rw [this];simp),this]
 ·rw [nc (by rw [h.wb];simp),h.wb]
 ·obtain⟨k1,k2⟩:=h.kept c hc x hx;exact⟨k1.who (fun g e=>a g (Or.inl e)),fun g e=>Or.inl (a g (k2 g e))⟩
 ·by_cases d:who g= .cur
  ·exact h.dom g (by rw [d];simp)
  ·rw [nc d]at e;exact h.dom g e
theorem Fr.settled{w0:World}{who0:Nat->Role}{ex:Nat->Prop}(h:Fr w0 w who0 who ex):Fr w0 w who0 (mH who) ex:=
 ⟨h.os,h.tape,h.output,h.size,fun g h1 h2 h3=>by
  obtain⟨a,b⟩:=h.oth g h1 h2 h3;exact⟨a,by rw [nc (by rw [b];simp)];exact b⟩⟩
end
end
section
open Go.RowKit
attribute [local go_sem] Go.World.cell?_alloc_some
def HsK(B:Nat)(w:World)(b:Nat)(who:Nat->Role)(n:Int)(f:Nat->Value)(K:Nat->List (Value × Int)):Prop:=
 Hs B w b who n f K (jo K)/\∀ c',c'<5->∀ x∈K c',∀ g,x.1.ownBlock=some g->who g= .kept
structure oz(c:Nat)(w w':World)(who who':Nat->Role)(f f':Nat->Value)(K K':Nat->List (Value × Int))(ex:Nat->Prop):Prop where
 fr:Fr w w' who who' ex
 lent:∀ o,o<5->f' o=f o
 len:(K' c).length=(K c).length+4
 oth:∀ c',c'≠c->K' c'=K c'
structure WrG(B c:Nat)(w0 w:World)(b:Nat)(who:Nat->Role)(n:Int)(f0 f:Nat->Value)(K:Nat->List (Value × Int))(lv:Value)(len:Nat)(xs:List Value)(m:Int)(k:Nat):Prop where
 hs:HsK B w b who n f K
 row:w.ownsRow B (teC c) (elC m c).length lv len ((List.replicate k (elC m c)).flatten++xs.drop (k*(elC m c).length))
 fr:Fr w0 w who who (fun g=>lv.ownBlock=some g)
 lent:∀ o,o<5->f o=f0 o
structure KpG(B c:Nat)(w0 w:World)(b:Nat)(who0 who:Nat->Role)(n m:Int)(f0 f:Nat->Value)(K0 K:Nat->List (Value × Int))(lv:Value)(len k:Nat)(ex:Nat->Prop):Prop where
 hs:Hs B w b who n f K (jo K)
 cu:Cur B w who m c lv len K
 fr:Fr w0 w who0 who ex
 lent:∀ o,o<5->f o=f0 o
 len:(K c).length=(K0 c).length+k
 oth:∀ c',c'≠c->K c'=K0 c'
structure KpA(B c:Nat)(w0 w:World)(b:Nat)(who0 who:Nat->Role)(n m:Int)(f0 f:Nat->Value)(K0 K:Nat->List (Value × Int))(lv:Value)(len k:Nat)(ex:Nat->Prop):Prop where
 hs:Hs B w b who n f (oD K c (K c++[(lv,m)])) (jo K)
 cu:Cur B w who m c lv len (oD K c (K c++[(lv,m)]))
 fr:Fr w0 w who0 who ex
 lent:∀ o,o<5->f o=f0 o
 len:(K c).length=(K0 c).length+k
 oth:∀ c',c'≠c->K c'=K0 c'
theorem lO{w:World}{B:Nat}{e:TypeId}{z g n b:Nat}{xs:List Value}{i:Nat}(h:w.ownsRow B e z (.slice (some ⟨g,0,none⟩) n b) n xs)(a:i<n*z):∃ u,w.cell? ⟨g,i,none⟩=some u:=by
 have h1:=h.1;exact⟨xs[i]'(by omega),by rw [h.cellAt i a,List.getElem?_eq_getElem]⟩
theorem lN{w:World}{B:Nat}{e:TypeId}{z g n a:Nat}{xs:List Value}{i:Nat}(h:w.ownsRow B e z (.slice (some ⟨g,0,none⟩) n a) n xs):w.frozen? ⟨g,i,none⟩=false:=by
 rcases h.2 with ⟨e,_⟩ | ⟨g',cap',cur,hv,_,hh,_⟩
 ·cases e
 ·simp only [Value.slice.injEq,Option.some.injEq,Addr.mk.injEq,true_and,and_true]at hv;obtain⟨rfl,rfl⟩:=hv;simp [World.frozen?,hh]
section
variable {B c : Nat} {w0 w w6 : World} {b : Nat} {who0 who : Nat -> Role} {n m : Int} {f0 f : Nat -> Value} {K0 K : Nat -> List (Value × Int)} {M : Nat -> List Int} {lv : Value} {len k : Nat} {ex : Nat -> Prop} {xs : List Value}
theorem HsK.setOther(h:HsK B w b who n f K){g o:Nat}{v:Value}(hg:who g= .other):HsK B (w.setCell ⟨g,o,none⟩ v) b who n f K:=
 ⟨h.1.same (by simp) (fun g' _ h2 _=>Below.heap_setCell _ _ _ _ (fun e=>by simp only at e;subst e;exact h2 hg)),h.2⟩
theorem HsK.grown{w':World}(h:HsK B w b who n f K)(hg:w.grownBy w' none):HsK B w' b who n f K:=⟨h.1.grown hg,h.2⟩
theorem HsK.like{w':World}(h:HsK B w b who n f K)(hl:jt w' w):HsK B w' b who n f K:=⟨h.1.like hl,h.2⟩
theorem tx(K:Nat->List (Value × Int))(c:Nat)(v:Value)(m:Int):jo (oD K c (K c++[(v,m)]))=vY (jo K) c (jo K c++[m]):=by
 funext k
 unfold jo oD vY;by_cases e:k=c
 ·subst e;simp
 ·simp [e]
theorem WrG.kp(h:WrG B c w0 w b who n f0 f K lv len xs m len)(hc:c<4)(j:xs.length=len*(elC m c).length)(o:len<=1000)(l:∀ g,lv.ownBlock=some g->who g= .other):
  ∃ who1,KpG B c w0 w b who who1 n m f0 f K K lv len 0 (fun g=>lv.ownBlock=some g):=by
 have d:=h.row;rw [List.drop_eq_nil_of_le (by rw [j];exact Nat.le_refl _),List.append_nil]at d;obtain⟨p,e,i,k⟩:=h.hs.1.begin hc h.hs.2 d o l;refine⟨p,e,i,⟨h.fr.os,h.fr.tape,h.fr.output,h.fr.size,fun g q1 q2 q3=>?_⟩,h.lent,rfl,fun _ _=>rfl⟩;obtain⟨a,b⟩:=h.fr.oth g q1 q2 q3;exact⟨a,by rw [k g q3];exact b⟩
theorem KpG.push(h:KpG B c w0 w b who0 who n m f0 f K0 K lv len k ex)(hc:c<4){o:Obj}{g6 c6:Nat}
  (i:w6.ownsRow B (tlC c) 1 (.slice (some ⟨g6,0,none⟩) ((K c).length+1) c6) ((K c).length+1) ((K c).map (·.1)++[lv]))
  (key:((f (6+2*c)).ownBlock=some g6/\(w.alloc o).grownBy w6 (some g6))\/(g6=w.heap.size+1/\(w.alloc o).grownBy w6 none)):
  HB w6 b f/\∃ who' f',KpA B c w0 (w6.setCell ⟨b,6+2*c,none⟩ (.slice (some ⟨g6,0,none⟩) ((K c).length+1) c6)) b who0 who' n m f0 f' K0 K lv len k ex/\f' (7+2*c)=f (7+2*c):=by
 obtain⟨hsz,l,hsr,h6r⟩:=kE key (fun g e=>(h.hs.dom g e).2) (r:= .lst c) (by simp) (h.hs.wl c (by omega));have j:HB w6 b f:=h.hs.blk.same (l b (by rw [h.hs.wb];simp) (by rw [h.hs.wb];simp)).1;obtain⟨a,d⟩:=h.hs.push h.cu hc i key;refine⟨j,_,_,⟨a,d,?_,fun o ho=>by rw [iW _ _ (by omega)];exact h.lent o ho,h.len,h.oth⟩,iW _ _ (by omega)⟩;refine(h.fr.trans (Fr.key (r:= .lst c) (fun g e=>by rw [h.hs.wl c (by omega) g e];simp) key)).trans (Fr.set (Or.inl ?_));have:=a.wb;rw [this];simp
theorem KpA.tell(h:KpA B c w0 w b who0 who n m f0 f K0 K lv len k ex)(hc:c<4){M1:Option Addr}{N M3:Nat}(p:f (7+2*c)= .slice M1 N M3)(j:(K c).length=N){o:Obj}{g6 c6:Nat}
  (l:w6.ownsRow B 3 1 (.slice (some ⟨g6,0,none⟩) (N+1) c6) (N+1) (iL ((K c).map (·.2))++[.int .i64 m]))
  (key:((Value.slice M1 N M3).ownBlock=some g6/\(w.alloc o).grownBy w6 (some g6))\/(g6=w.heap.size+1/\(w.alloc o).grownBy w6 none)):
  HB w6 b f/\∃ who' f',KpG B c w0 (w6.setCell ⟨b,7+2*c,none⟩ (.slice (some ⟨g6,0,none⟩) (N+1) c6)) b who0 who' n m f0 f' K0 (oD K c (K c++[(lv,m)])) lv len (k+1) ex:=by
 rw [<-p]at key;obtain⟨hsz,s,hsr,h6r⟩:=kE key (fun g e=>(h.hs.dom g e).2) (r:= .mrk c) (by simp) (h.hs.wm c (by omega));have q:HB w6 b f:=h.hs.blk.same (s b (by rw [h.hs.wb];simp) (by rw [h.hs.wb];simp)).1;have i:(jo K c).length=N:=by simp [jo,j]
 obtain⟨a,d⟩:=h.hs.tell h.cu hc (w6:=w6) (g6:=g6) (c6:=c6) (o:=o) (by rw [i];exact l) key;rw [i]at a d;refine⟨q,_,_,⟨by rw [tx];exact a,d,?_,fun o ho=>by rw [iW _ _ (by omega)];exact h.lent o ho,by rw [nC,List.length_append,h.len];simp;omega,fun c' hc'=>by rw [nH _ _ hc'];exact h.oth c' hc'⟩⟩;refine(h.fr.trans (Fr.key (r:= .mrk c) (fun g e=>by rw [h.hs.wm c (by omega) g e];simp) key)).trans (Fr.set (Or.inl ?_));have:=a.wb;rw [this];simp
theorem KpG.grow(h:KpG B c w0 w b who0 who n m f0 f K0 K lv len k ex)(hc:c<4)(j:len+1<=1000){o:Obj}{g6 c6:Nat}
  (i:w6.ownsRow B (teC c) (elC m c).length (.slice (some ⟨g6,0,none⟩) (len+1) c6) (len+1) ((List.replicate len (elC m c)).flatten++elC m c))
  (key:(lv.ownBlock=some g6/\(w.alloc o).grownBy w6 (some g6))\/(g6=w.heap.size+1/\(w.alloc o).grownBy w6 none)):
  ∃ who',KpG B c w0 w6 b who0 who' n m f0 f K0 K (.slice (some ⟨g6,0,none⟩) (len+1) c6) (len+1) k ex:=by
 obtain⟨a,d⟩:=h.hs.grow h.cu hc j i key;exact⟨_,a,d,h.fr.trans (Fr.key (fun g e=>by rw [h.cu.wc g e];simp) key),h.lent,h.len,h.oth⟩
theorem KpG.done(h:KpG B c w0 w b who0 who n m f0 f K0 K lv len 4 ex):∃ who' f' K',HsK B w b who' n f' K'/\oz c w0 w who0 who' f0 f' K0 K' ex:=
 ⟨mH who,f,K,⟨h.hs.settled.1,h.hs.settled.2⟩,⟨h.fr.settled,h.lent,h.len,h.oth⟩⟩
end
theorem sT{B:Nat}{w:World}{b:Nat}{who:Nat->Role}{n:Int}{f:Nat->Value}{K:Nat->List (Value × Int)}{M:Nat->List Int}(h:Hs B w b who n f K M)(h0:0<=n)(h1:n<=10000000000000):
  Calls Tryz.prog 55 #[pt b] w fun e w'=>e= .returned (.int .i64 (-77000000 - (n+1)))/\w'=w.setCell ⟨b,5,none⟩ (.int .i64 (n+1)):=by
 have c5:w.cell? ⟨b,5,none⟩=some (.int .i64 n):=by rw [h.blk.cell (by omega),h.cnt]
 have f5:=h.blk.frozen 5;have c6:(w.setCell ⟨b,5,none⟩ (.int .i64 (n+1))).cell? ⟨b,5,none⟩=some (.int .i64 (n+1)):=by rw [(h.blk.set (by omega) (.int .i64 (n+1))).cell (by omega),lJ]
 have a:pt b= .pointer (some ⟨b,0,none⟩):=rfl;rw [a];clear h a;go_enter Tryz.func55,Tryz.ntmps55
 go_wp2_with fail
 go_ret;exact⟨rfl,rfl⟩
end
section
open Go.RowKit
def tR:Nat->TypeId
 | 0=>39
 | 1=>39
 | 2=>66
 | 3=>66
 | _=>35
structure Lr(B:Nat)(w:World)(who:Nat->Role)(f:Nat->Value)(E:Nat->List Value):Prop where
 r:∀ k,k<5->w.ownsRow B (tR k) 1 (f k) (E k).length (E k)
 wr:∀ k,k<5->∀ g,(f k).ownBlock=some g->who g= .lrow k
def kF(E:Nat->List Value)(k:Nat)(l:List Value):Nat->List Value:=fun j=>if j=k then l else E j
theorem EY(E:Nat->List Value)(k:Nat)(l:List Value):kF E k l k=l:=by simp [kF]
theorem vr(E:Nat->List Value){k j:Nat}(l:List Value)(h:j≠k):kF E k l j=E j:=by simp [kF,h]
section
variable {B : Nat} {w w6 w' : World} {b : Nat} {who who' : Nat -> Role} {n : Int} {f : Nat -> Value} {K : Nat -> List (Value × Int)} {M : Nat -> List Int} {E : Nat -> List Value}
theorem Lr.same(h:Lr B w who f E)(hb:∀ g k,who g= .lrow k->w'.heap[g]?=w.heap[g]?):Lr B w' who f E:=
 ⟨fun k hk=>iM (h.r k hk) (fun g e=>hb g k (h.wr k hk g e)),h.wr⟩
theorem Lr.grown(h:Lr B w who f E)(hg:w.grownBy w' none):Lr B w' who f E:=
 ⟨fun k hk=>iM (h.r k hk) (fun g e=>hg.block g (iZ (h.r k hk) g e) (by simp)),h.wr⟩
theorem Lr.more(h:Lr B w who f E)(hw:∀ g,who g≠ .other->who' g=who g):Lr B w who' f E:=
 ⟨h.r,fun k hk g e=>by have:=h.wr k hk g e;rw [hw g (by rw [this];simp),this]⟩
theorem Lr.push(h:Lr B w who f E)(c:Hs B w b who n f K M){k:Nat}(p:k<5){v:Value}{o:Obj}{g6 c6:Nat}
  (q:w6.ownsRow B (tR k) 1 (.slice (some ⟨g6,0,none⟩) ((E k).length+1) c6) ((E k).length+1) (E k++[v]))
  (key:((f k).ownBlock=some g6/\(w.alloc o).grownBy w6 (some g6))\/(g6=w.heap.size+1/\(w.alloc o).grownBy w6 none)):
  HB w6 b f/\Hs B (w6.setCell ⟨b,k,none⟩ (.slice (some ⟨g6,0,none⟩) ((E k).length+1) c6)) b (setW who g6 (.lrow k)) n (lw f k (.slice (some ⟨g6,0,none⟩) ((E k).length+1) c6)) K M/\
  Lr B (w6.setCell ⟨b,k,none⟩ (.slice (some ⟨g6,0,none⟩) ((E k).length+1) c6)) (setW who g6 (.lrow k)) (lw f k (.slice (some ⟨g6,0,none⟩) ((E k).length+1) c6)) (kF E k (E k++[v]))/\
  Fr w (w6.setCell ⟨b,k,none⟩ (.slice (some ⟨g6,0,none⟩) ((E k).length+1) c6)) who (setW who g6 (.lrow k)) (fun _=>False)/\
  (∀ g,who g= .lent->(w6.setCell ⟨b,k,none⟩ (.slice (some ⟨g6,0,none⟩) ((E k).length+1) c6)).heap[g]?=w.heap[g]?/\setW who g6 (.lrow k) g= .lent)/\(∀ g,who g≠ .other->setW who g6 (.lrow k) g=who g):=by
 obtain⟨u,l,hsr,G⟩:=kE key (fun g e=>(c.dom g e).2) (r:= .lrow k) (by simp) (h.wr k p);have C:g6≠b:=(l b (by rw [c.wb];simp) (by rw [c.wb];simp)).2;have F:HB w6 b f:=c.blk.same (l b (by rw [c.wb];simp) (by rw [c.wb];simp)).1;have z:Hs B w6 b who n f K M:=c.same u (fun g _ h2 h3=>(l g h2 (fun e=>by rw [e]at h3;cases h3)).1);have m:∀ g,who g≠ .other->setW who g6 (.lrow k) g=who g:=fun g h1=>by
  by_cases e:g=g6
  ·subst e;rw [jC];exact(G (c.dom g h1).2).symm
  ·exact iN _ _ e
 have s:Hs B w6 b (setW who g6 (.lrow k)) n f K M:=z.more m (fun g e=>by
  by_cases d:g=g6
  ·subst d;exact⟨iA q g rfl,iZ q g rfl⟩
  ·rw [iN _ _ d]at e;have:=c.dom g e;exact⟨this.1,by omega⟩)
 have A:Fr w w6 who (setW who g6 (.lrow k)) (fun _=>False):=Fr.key (fun g e=>by rw [h.wr k p g e];simp) key;generalize y:Value.slice (some ⟨g6,0,none⟩) ((E k).length+1) c6=V at*;have t:V.ownBlock=some g6:=by rw [<-y];rfl
 have D:setW who g6 (.lrow k) b= .hands:=s.wb;refine⟨F,s.setLent p V,⟨fun j hj=>?_,fun j hj g e=>?_⟩,A.trans (Fr.set (Or.inl (by rw [D];simp))),fun g e=>⟨?_,by rw [m g (by rw [e];simp)];exact e⟩,m⟩
 ·by_cases e:j=k
  ·subst e;rw [lJ,EY];have:=ownsRow_setCell_other (a:=⟨b,j,none⟩) q (show V.ownBlock≠some b by rw [t];simpa using C) V;simpa using this
  ·rw [iW _ _ e,vr _ _ e];refine iM (h.r j hj) (fun g d=>?_);have i:=h.wr j hj g d;rw [Below.heap_setCell _ _ _ _ (fun e3=>by simp only at e3;subst e3;rw [c.wb]at i;cases i)];exact(l g (by rw [i];simp) (by rw [i];simpa using e)).1
 ·by_cases d:j=k
  ·subst d;rw [lJ,t]at e;simp only [Option.some.injEq]at e;subst e;exact jC _ _ _
  ·rw [iW _ _ d]at e;have i:=h.wr j hj g e;rw [m g (by rw [i];simp),i]
 ·rw [Below.heap_setCell _ _ _ _ (fun e3=>by simp only at e3;subst e3;rw [c.wb]at e;cases e)];exact(l g (by rw [e];simp) (by rw [e];simp)).1
end
def sl2(g n:Nat):Value:= .slice (some ⟨g,0,none⟩) (n+2) (n+2)
def nK:List Value:=[.int .i64 (-77000000),.int .i64 0,.int .i64 0,.int .i64 0]
def tX(i:Ins):List Value:=[.int .i64 i.op,.int .i64 i.a,.int .i64 i.b,.int .i64 i.n]
def ke(c:List Ins):Array Value:=(c.flatMap tX++(nK++nK)).toArray
def slC(x:Nat × List Ins × Value):Value:= .slice (some ⟨x.1,0,none⟩) x.2.1.length (x.2.1.length+2)
def jA(l:List (Nat × List Ins × Value)):Array Value:=(l.map slC++[Value.slice none 0 0,Value.slice none 0 0]).toArray
def valOther(who:Nat->Role)(v:Value):Prop:=∀ g o l c,v= .slice (some ⟨g,o,none⟩) l c->0<l->who g= .other
structure Le(w:World)(who:Nat->Role)(LI:List (Nat × List Int × Value))(LC:List (Nat × List Ins × Value))(LR:List (Nat × Nat))(tail:Nat):Prop where
 li:∀ x∈LI,w.heap[x.1]?=some (.cells (kr x.2.1) 3 (0,0))/\who x.1= .lent/\IntsAt w.heap.size w x.2.2 x.2.1/\valOther who x.2.2/\x.2.1.length<=17592186043904
 lc:∀ x∈LC,w.heap[x.1]?=some (.cells (ke x.2.1) 65 (0,0))/\who x.1= .lent/\CodeAt w x.2.2 x.2.1/\valOther who x.2.2/\x.2.1.length<=4398046510976
 lr:∀ j (hj:j<LR.length),w.heap[LR[j].1]?=some (.cells (jA ((LC.drop ((LR.take j).map (·.2)).sum).take LR[j].2)) 66 (0,0))/\who LR[j].1= .lent/\LR[j].2<=5864062014634
 sum:(LR.map (·.2)).sum+tail=LC.length
 nd:(LI.map (·.1)++(LC.map (·.1)++LR.map (·.1))).Nodup
theorem valOther.mono{who who':Nat->Role}{v:Value}(h:valOther who v)(hw:∀ g,who g= .other->∀ o l c,v= .slice (some ⟨g,o,none⟩) l c->0<l->who' g= .other):valOther who' v:=fun g o l c e hl=>hw g (h g o l c e hl) o l c e hl
theorem sy{w w':World}{who:Nat->Role}{v:Value}{l:List Int}(h:IntsAt w.heap.size w v l)(a:valOther who v)(hs:w.heap.size<=w'.heap.size)(j:∀ g,g<w.heap.size->who g= .other->w'.heap[g]?=w.heap[g]?):IntsAt w'.heap.size w' v l:=by
 obtain⟨f,e,rfl,b,c⟩:=h;refine⟨f,e,rfl,b,fun k hk=>?_⟩;obtain⟨g,o,rfl,i,d⟩:=c k hk;exact⟨g,o,rfl,by omega,by rw [World.cell?_of_block (j g i (a g o _ _ rfl (by omega)))];exact d⟩
theorem qg{w w':World}{who:Nat->Role}{v:Value}{c:List Ins}(h:CodeAt w v c)(d:valOther who v)(n:∀ g,g<w.heap.size->who g= .other->w'.heap[g]?=w.heap[g]?):CodeAt w' v c:=by
 obtain⟨m,l,rfl,e⟩:=h;refine⟨m,l,rfl,fun k hk=>?_⟩;obtain⟨g,o,rfl,b,f,i,j⟩:=e k hk;have a:w'.heap[g]?=w.heap[g]?:=n g (World.block_lt_of_cell? w _ b) (d g o _ _ rfl (by omega));exact⟨g,o,rfl,by rw [World.cell?_of_block a];exact b,by rw [World.cell?_of_block a];exact f,by rw [World.cell?_of_block a];exact i,by rw [World.cell?_of_block a];exact j⟩
section
variable {w w' : World} {who who' : Nat -> Role} {LI : List (Nat × List Int × Value)} {LC : List (Nat × List Ins × Value)} {LR : List (Nat × Nat)} {tail : Nat}
theorem Le.keep(h:Le w who LI LC LR tail)(m:Fr w w' who who' (fun _=>False))(i:∀ g,who g= .lent->w'.heap[g]?=w.heap[g]?/\who' g= .lent):Le w' who' LI LC LR tail:=by
 have v:∀ g,g<w.heap.size->who g= .other->w'.heap[g]?=w.heap[g]?:=fun g u k=>(m.oth g u k (fun e=>e)).1
 refine⟨fun x hx=>?_,fun x hx=>?_,fun j hj=>?_,h.sum,h.nd⟩
 ·obtain⟨a,b,c,d,e⟩:=h.li x hx;refine⟨by rw [(i _ b).1];exact a,(i _ b).2,sy c d m.size v,?_,e⟩;obtain⟨z,y,p,u,k⟩:=c;intro g o l q f s;have t:=d g o l q f s;rw [p]at f;simp only [Value.slice.injEq]at f;obtain⟨A,B,r,n,_⟩:=k 0 (by omega);rw [r]at f;simp only [Option.some.injEq,Addr.mk.injEq,and_true]at f;obtain⟨⟨rfl,_⟩,_⟩:=f;exact(m.oth _ n t (fun e=>e)).2
 ·obtain⟨a,b,c,d,e⟩:=h.lc x hx;refine⟨by rw [(i _ b).1];exact a,(i _ b).2,qg c d v,?_,e⟩;obtain⟨z,y,p,k⟩:=c;intro g o l q f s;have t:=d g o l q f s;rw [p]at f;simp only [Value.slice.injEq]at f;obtain⟨A,B,r,n,_⟩:=k 0 (by omega);rw [r]at f;simp only [Option.some.injEq,Addr.mk.injEq,and_true]at f;obtain⟨⟨rfl,_⟩,_⟩:=f;exact(m.oth _ (World.block_lt_of_cell? w _ n) t (fun e=>e)).2
 ·obtain⟨a,b,c⟩:=h.lr j hj;exact⟨by rw [(i _ b).1];exact a,(i _ b).2,c⟩
end
def EL(LI:List (Nat × List Int × Value))(LC:List (Nat × List Ins × Value))(LR:List (Nat × Nat)):Nat->List Value
 | 0=>LI.map fun x=>sl2 x.1 x.2.1.length
 | 1=>LI.map fun x=>x.2.2
 | 2=>LC.map fun x=>sl2 x.1 x.2.1.length
 | 3=>LC.map fun x=>x.2.2
 | 4=>LR.map fun x=>sl2 x.1 x.2
 | _=>[]
structure Lx(B:Nat)(w:World)(b:Nat)(who:Nat->Role)(n:Int)(f:Nat->Value)(K:Nat->List (Value × Int))(E:Nat->List Value)(LI:List (Nat × List Int × Value))(LC:List (Nat × List Ins × Value))(LR:List (Nat × Nat))(tail:Nat):Prop where
 hs:HsK B w b who n f K
 lr:Lr B w who f E
 le:Le w who LI LC LR tail
section
variable {B : Nat} {w w6 w' : World} {b : Nat} {who who' : Nat -> Role} {n : Int} {f : Nat -> Value} {K : Nat -> List (Value × Int)} {E : Nat -> List Value} {LI : List (Nat × List Int × Value)} {LC : List (Nat × List Ins × Value)} {LR : List (Nat × Nat)} {tail : Nat}
theorem Lx.cell(h:Lx B w b who n f K E LI LC LR tail){o:Nat}(ho:o<16):w.cell? ⟨b,o,none⟩=some (f o):=h.hs.1.blk.cell ho
theorem Lx.low(h:Lx B w b who n f K E LI LC LR tail):B<=b/\b<w.heap.size:=h.hs.1.dom b (by rw [h.hs.1.wb];simp)
theorem Le.lt(h:Le w who LI LC LR tail):∀ g∈LI.map (·.1)++(LC.map (·.1)++LR.map (·.1)),g<w.heap.size/\who g= .lent:=by
 intro g c;rcases List.mem_append.1 c with c | c
 ·obtain⟨x,d,rfl⟩:=List.mem_map.1 c;obtain⟨a,b,_⟩:=h.li x d;exact⟨(Array.getElem?_eq_some_iff.1 a).1,b⟩
 ·rcases List.mem_append.1 c with c | c
  ·obtain⟨x,d,rfl⟩:=List.mem_map.1 c;obtain⟨a,b,_⟩:=h.lc x d;exact⟨(Array.getElem?_eq_some_iff.1 a).1,b⟩
  ·obtain⟨x,d,rfl⟩:=List.mem_map.1 c;obtain⟨j,e,rfl⟩:=List.getElem_of_mem d;obtain⟨a,b,_⟩:=h.lr j e;exact⟨(Array.getElem?_eq_some_iff.1 a).1,b⟩
theorem Lx.grown(h:Lx B w b who n f K E LI LC LR tail)(hg:w.grownBy w' none):Lx B w' b who n f K E LI LC LR tail:=
 ⟨h.hs.grown hg,h.lr.grown hg,h.le.keep (Fr.grown hg) (fun g e=>⟨hg.block g (h.hs.1.dom g (by rw [e];simp)).2 (by simp),e⟩)⟩
theorem Lx.new(h:Lx B w b who n f K E LI LC LR tail)(d:w.grownBy w' none){g:Nat}(k:w.heap.size<=g)(l:g<w'.heap.size):Lx B w' b (setW who g .lent) n f K E LI LC LR tail/\Fr w w' who (setW who g .lent) (fun _=>False):=by
 have a:∀ g',who g'≠ .other->setW who g .lent g'=who g':=fun g' e=>iN _ _ (fun i=>by subst i;have:=(h.hs.1.dom g' e).2;omega)
 have j:=h.grown d;have hb:=h.low;refine⟨⟨⟨j.hs.1.more a (fun g' e=>?_),fun c hc x hx g' e=>?_⟩,j.lr.more a,?_⟩,Fr.setW (Fr.grown d) (Or.inl k)⟩
 ·by_cases i:g'=g
  ·subst i;exact⟨by omega,l⟩
  ·rw [iN _ _ i]at e;exact j.hs.1.dom g' e
 ·have:=h.hs.2 c hc x hx g' e;rw [a g' (by rw [this];simp),this]
 ·exact h.le.keep (Fr.setW (Fr.grown d) (Or.inl k)) (fun g' e=>⟨d.block g' (h.hs.1.dom g' (by rw [e];simp)).2 (by simp),by rw [a g' (by rw [e];simp)];exact e⟩)
theorem Lx.push(h:Lx B w b who n f K E LI LC LR tail){k:Nat}(m:k<5){v:Value}{o:Obj}{g6 c6:Nat}
  (r:w6.ownsRow B (tR k) 1 (.slice (some ⟨g6,0,none⟩) ((E k).length+1) c6) ((E k).length+1) (E k++[v]))
  (key:((f k).ownBlock=some g6/\(w.alloc o).grownBy w6 (some g6))\/(g6=w.heap.size+1/\(w.alloc o).grownBy w6 none)):
  HB w6 b f/\∃ who' f',Lx B (w6.setCell ⟨b,k,none⟩ (.slice (some ⟨g6,0,none⟩) ((E k).length+1) c6)) b who' n f' K (kF E k (E k++[v])) LI LC LR tail/\
   Fr w (w6.setCell ⟨b,k,none⟩ (.slice (some ⟨g6,0,none⟩) ((E k).length+1) c6)) who who' (fun _=>False)/\(∀ j,j≠k->f' j=f j)/\(∀ g,who g= .lent->(w6.setCell ⟨b,k,none⟩ (.slice (some ⟨g6,0,none⟩) ((E k).length+1) c6)).heap[g]?=w.heap[g]?/\who' g= .lent):=by
 obtain⟨i,l,p,a,d,q⟩:=h.lr.push h.hs.1 m r key;refine⟨i,_,_,⟨⟨l,fun c hc x hx g e=>?_⟩,p,h.le.keep a d⟩,a,fun j hj=>iW _ _ hj,d⟩;have:=h.hs.2 c hc x hx g e;rw [q g (by rw [this];simp),this]
theorem Le.addInts(h:Le w who LI LC LR tail){g:Nat}{l:List Int}{d:Value}(k:w.heap[g]?=some (.cells (kr l) 3 (0,0)))(o:who g= .lent)(i:IntsAt w.heap.size w d l)(f:valOther who d)(p:l.length<=17592186043904)
  (b:g∉LI.map (·.1)++(LC.map (·.1)++LR.map (·.1))):Le w who (LI++[(g,l,d)]) LC LR tail:=by
 refine⟨fun x a=>?_,h.lc,h.lr,h.sum,?_⟩
 ·rcases List.mem_append.1 a with a | a
  ·exact h.li x a
  ·simp at a;subst a;exact⟨k,o,i,f,p⟩
 ·have:=h.nd;simp only [List.map_append,List.map_cons,List.map_nil,List.append_assoc,List.singleton_append];rw [List.nodup_append]at this ⊢;obtain⟨j,m,n⟩:=this;simp only [List.mem_append,not_or]at b;refine⟨j,?_,?_⟩
  ·rw [List.nodup_cons];exact⟨by simp only [List.mem_append,not_or];exact⟨b.2.1,b.2.2⟩,m⟩
  ·intro x a y c;rcases List.mem_cons.1 c with rfl | c
   ·intro e;subst e;exact b.1 a
   ·exact n x a y c
theorem Eo(b:List (Nat × List Int × Value))(a:List (Nat × List Ins × Value))(c:List (Nat × Nat))(g:Nat)(l:List Int)(d:Value):
  kF (kF (EL b a c) 0 (EL b a c 0++[sl2 g l.length])) 1 (kF (EL b a c) 0 (EL b a c 0++[sl2 g l.length]) 1++[d])=EL (b++[(g,l,d)]) a c:=by
 funext k
 match k with
 | 0=>simp [kF,EL]
 | 1=>simp [kF,EL]
 | 2=>simp [kF,EL]
 | 3=>simp [kF,EL]
 | 4=>simp [kF,EL]
 | k+5=>simp [kF,EL]
end
end
end Go.Proofs.YtklenjmfalljgabGreatDoor
