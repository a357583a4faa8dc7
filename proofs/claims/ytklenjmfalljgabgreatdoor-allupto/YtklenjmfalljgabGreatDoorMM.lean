/- The texts RefF RefG Rgd Rge Rgk Kqd Hgy Wrt3 Wrt5. -/
import Derived.Test.YtklenjmfalljgabGreatDoorML
namespace Go.Proofs.YtklenjmfalljgabGreatDoor
set_option maxRecDepth 100000
set_option maxHeartbeats 8000000
section
open Go.RowKit
attribute [local go_sem] Go.World.cell?_alloc_some
theorem rJ(l:List Int)(v:Value)(w:World)(q:IntsAt w.heap.size w v l):
  Calls Tryz.prog 65 #[v] w fun e w'=>e= .returned (.bool (jc l))/\w.grownBy w' none:=by
 obtain⟨ao,cap,rfl,hcap,hc⟩:=q;by_cases m:l.length<=500
 ·have y:(l.length:Int)<=500:=by omega
  have b:Hid (jc l=l.all okN):=by unfold Hid jc;rw [decide_eq_true m];rfl
  have s:=ij hc;clear hc;go_enter Tryz.func65,Tryz.ntmps65
  go_wp2
  go_loopw [3] (fun i w'=>∃ k:Nat,k<=l.length/\i= .int .i64 k/\w'=w/\Hid ((l.take k).all okN=true)) (fun i _=>l.length - (intOf i).toNat)
  case atStart=>exact⟨0,Nat.zero_le _,rfl,rfl,rfl⟩
  case round=>
   obtain⟨k,hk,rfl,rfl,d⟩:=hrel;by_cases f:k<l.length
   ·obtain⟨g,o,rfl,hg,c0⟩:=s.out k f;have c:=ij (kW l okN k f);have hk0:(0:Int)<=(k:Int):=by omega
    have hk1:(k:Int)<l.length:=by omega
    have p:Hid (okN l[k]=false->jc l=false):=by
     intro h;rw [b.out];have:(l.take (k+1)).all okN=false:=by rw [c.out,h];simp
     rw [<-List.take_append_drop (k+1) l,List.all_append,this];rfl
    generalize l[k]=x at*;by_cases n:0<=x
    ·by_cases j:x<=63
     ·have r:Hid ((l.take (k+1)).all okN=true):=by unfold Hid;rw [c.out,d.out];simp [okN,n,j]
      have t:¬x<0:=by omega
      have u:¬63<x:=by omega
      go_wp2
      go_roundw
      case rel=>exact⟨k+1,by omega,by go_num,trivial,r⟩
      case measure=>simp [intOf];omega
     ·have a:=ij (p.out (by simp [okN,j]));have u:63<x:=by omega
      go_wp2
      go_ret;exact⟨by rw [a.out];rfl,ir _ _⟩
    ·have a:=ij (p.out (by simp [okN,n]));have t:x<0:=by omega
     go_wp2
     go_ret;exact⟨by rw [a.out];rfl,ir _ _⟩
   ·have a:Hid (jc l=true):=by
     unfold Hid;rw [b.out];have:=d.out;rw [List.take_of_length_le (by omega)]at this;exact this
    go_wp2
    go_ret;exact⟨by rw [a.out];rfl,ir _ _⟩
 ·have y:500<(l.length:Int):=by omega
  have b:Hid (jc l=false):=by unfold Hid jc;rw [decide_eq_false m];rfl
  clear hc;go_enter Tryz.func65,Tryz.ntmps65
  go_wp2
  go_ret;exact⟨by rw [b.out];rfl,ir _ _⟩
def lE:List Int->Nat
 | []=>0
 | t::r=>(r.takeWhile (·==t)).length+1
theorem nU(t:Int)(r:List Int):lE (t::r)=(r.takeWhile (·==t)).length+1:=rfl
theorem FF(t:Int)(r:List Int)(k:Nat)(a:k<(t::r).length)(i:∀ j (c:j<(t::r).length),j<k->(t::r)[j]=t)(h:(t::r)[k]≠t):lE (t::r)=k:=by
 rw [nU];cases k with
 | zero=>exact absurd rfl h
 | succ k=>
  have d:∀ (q:List Int) (k:Nat) (a:k<q.length),(∀ j (c:j<q.length),j<k->q[j]=t)->q[k]≠t->(q.takeWhile (·==t)).length=k:=by
   intro q;induction q with
   | nil=>intro k a;simp at a
   | cons b q ih=>
    intro k a d f;cases k with
    | zero=>rw [List.takeWhile_cons,if_neg (by simpa using f)];rfl
    | succ k=>
     have e:=d 0 (by simp) (by omega);simp at e;rw [List.takeWhile_cons,if_pos (by simpa using e)];simp;exact ih k (by simpa using a) (fun j c hjk=>by have:=d (j+1) (by simpa using c) (by omega);simpa using this) (by simpa using f)
  rw [d r k (by simpa using a) (fun j c hjk=>by have:=i (j+1) (by simpa using c) (by omega);simpa using this) (by simpa using h)]
theorem EJ(t:Int)(r:List Int)(d:∀ j (e:j<(t::r).length),(t::r)[j]=t):lE (t::r)=(t::r).length:=by
 rw [nU];have:r.takeWhile (·==t)=r:=by
  have c:∀ x∈r,x=t:=by
   intro x a;obtain⟨j,e,rfl⟩:=List.getElem_of_mem a;have:=d (j+1) (by simpa using e);simpa using this
  clear d;induction r with
  | nil=>rfl
  | cons b q ih=>rw [List.takeWhile_cons,if_pos (by simpa using c b (by simp)),ih (fun x a=>c x (by simp [a]))]
 rw [this];rfl
theorem zA(t:Int)(r:List Int):grp (t::r)=(t,(lE (t::r):Int))::grp ((t::r).drop (lE (t::r))):=by
 induction r generalizing t with
 | nil=>simp [grp,lE]
 | cons b q ih=>
  have e:=ih b;by_cases h:t=b
  ·subst h;have a:lE (t::t::q)=lE (t::q)+1:=by simp [lE]
   rw [grp,e,a];simp
  ·have a:lE (t::b::q)=1:=by
    rw [nU,List.takeWhile_cons,if_neg (by simpa using fun e=>h e.symm)];rfl
   rw [grp,a,e];simp [h];exact e.symm
theorem B6(l:List Int):lE l<=l.length:=by
 cases l with
 | nil=>simp [lE]
 | cons t r=>
  rw [nU];have:=(List.takeWhile_sublist (·==t) (l:=r)).length_le;simpa using this
theorem zG(t:Int)(r:List Int)(v:Value)(w:World)(F:IntsAt w.heap.size w v (t::r))(hln:(t::r).length<=1000000):
  Calls Tryz.prog 68 #[v] w fun e w'=>e= .returned (.int .i64 (lE (t::r)))/\w.grownBy w' none:=by
 obtain⟨ao,cap,rfl,hcap,hc⟩:=F;obtain⟨g,o,rfl,hg,c0⟩:=hc 0 (by simp);have H:Hid (∀ k (n:k<(t::r).length),w.cell? ⟨g,o+k,none⟩=some (.int .i64 (t::r)[k])):=by
  intro k n;obtain⟨g',o',e,_,c⟩:=hc k n;simp only [Option.some.injEq,Addr.mk.injEq,and_true]at e;obtain⟨rfl,rfl⟩:=e;exact c
 simp only [List.getElem_cons_zero,Nat.add_zero]at c0;clear hc;have hpos:0<(t::r).length:=by simp
 generalize B:t::r=l at*;have A:=ij B;clear B;have hpos':(0:Int)<l.length:=by omega
 go_enter Tryz.func68,Tryz.ntmps68
 go_wp2_with fail
 go_loopw [3] (fun i w'=>∃ k:Nat,k<=l.length/\i= .int .i64 k/\Hid (jt w' w)/\Hid (∀ j (d:j<l.length),j<k->l[j]=t)) (fun i _=>l.length - (intOf i).toNat)
 case atStart=>exact⟨0,Nat.zero_le _,rfl,ij (jq _),ij (fun j _ h=>by omega)⟩
 case round=>
  obtain⟨k,n,rfl,m,z⟩:=hrel;obtain⟨f,G⟩:∃ f,f=wr:=⟨_,rfl⟩;subst G;have q:∀ a,f.cell? a=w.cell? a:=fun a=>by simp [World.cell?,m.out.1]
  have c1:f.cell? ⟨g,o,none⟩=some (.int .i64 t):=by rw [q];exact c0
  by_cases p:k<l.length
  ·have c2:f.cell? ⟨g,o+k,none⟩=some (.int .i64 l[k]):=by rw [q];exact H.out k p
   have hk0:(0:Int)<=(k:Int):=by omega
   have E:(k:Int)<l.length:=by omega
   clear q c0;by_cases b:l[k]=t
   ·have D:(l[k]==t)=true:=by simpa using b
    have C:Hid (∀ j (d:j<l.length),j<k+1->l[j]=t):=by
     intro j d hjk;by_cases e:j=k
     ·subst e;exact b
     ·exact z.out j d (by omega)
    clear b;generalize l[k]=x at*;go_wp2_with fail
    go_quiet (fail)
    go_wp2_with fail
    go_roundw
    case rel=>exact⟨k+1,by omega,by go_num,ij (jV m.out _),C⟩
    case measure=>simp [intOf];omega
   ·have D:(l[k]==t)=false:=by simpa using b
    have u:Hid (lE l=k):=by
     have y:=z.out;have s:=A.out;subst s;exact FF t r k p y b
    clear b;generalize l[k]=x at*;go_wp2_with fail
    go_quiet (fail)
    go_wp2_with fail
    go_ret;exact⟨by rw [u.out];rfl,iX _ (iK m.out)⟩
  ·have u:Hid (lE l=k):=by
    have y:=z.out;have s:=A.out;subst s;rw [EJ t r (fun j d=>y j d (Nat.lt_of_lt_of_le d (Nat.le_of_not_lt p)))];exact Nat.le_antisymm (Nat.le_of_not_lt p) n
   have E:decide ((k:Int)<l.length)=false:=by simp;omega
   clear q c0;go_wp2_with fail
   go_quiet (fail)
   go_wp2_with fail
   go_ret;exact⟨by rw [u.out];rfl,iX _ (iK m.out)⟩
def lenOf:Value->Nat
 | .slice _ n _=>n
 | _=>0
def dgs:ByteArray:=⟨#[48,49,50,51,52,53,54,55,56,57]⟩
theorem Dd(k:Nat)(h:k<10):(dgs.extract k (k+1)).data.toList=[UInt8.ofNat (48+k)]:=by
 have:k=0\/k=1\/k=2\/k=3\/k=4\/k=5\/k=6\/k=7\/k=8\/k=9:=by omega
 rcases this with rfl | rfl | rfl | rfl | rfl | rfl | rfl | rfl | rfl | rfl<;>decide+kernel
def yV(n:Nat):List UInt8:=if n=0 then [] else Lib.decDigits n
theorem wq(n:Nat)(h:0<n):yV n=yV (n / 10)++[UInt8.ofNat (48+n % 10)]:=by
 unfold yV;rw [if_neg (by omega)];by_cases a:n<10
 ·rw [if_pos (by omega),Lib.decDigits,dif_pos a,Nat.mod_eq_of_lt a];rfl
 ·rw [if_neg (by omega)];conv=>lhs;rw [Lib.decDigits,dif_neg a]
theorem EG(n:Nat):Lib.decDigits n=yV (n / 10)++[UInt8.ofNat (48+n % 10)]:=by
 by_cases h:n=0
 ·subst h;decide+kernel
 ·have:=wq n (by omega);rw [<-this,yV,if_neg h]
theorem BR(n:Nat)(w:World)(v:n<1000):
  Calls Tryz.prog 78 #[.int .i64 n] w fun e w'=>e= .returned (.string ⟨(Lib.itoa n).toArray⟩)/\w'=w:=by
 have b:(n:Int).tmod 10=((n % 10:Nat):Int):=by rw [Int.tmod_eq_emod_of_nonneg (by omega)];omega
 have j:(n:Int).tdiv 10=((n / 10:Nat):Int):=by rw [Int.tdiv_eq_ediv_of_nonneg (by omega)];omega
 have a:n % 10<10:=Nat.mod_lt _ (by decide);have z:Hid ((⟨(Lib.itoa n).toArray⟩:ByteArray).data.toList=Lib.decDigits n):=by
  unfold Hid Lib.itoa;rw [if_neg (by omega)];simp
 have o:=ij (Dd (n % 10) a);have l:=ij (EG n);have r:n / 10<=100:=by omega
 generalize h:n % 10=d at*;generalize f:n / 10=q at*;clear h f;have e1:(0:Int)<=(d:Int):=by omega
 have e2:(d:Int)<10:=by omega
 go_enter Tryz.func78,Tryz.ntmps78
 go_wp2_with fail
 go_loopw [0,4] (fun i sv w'=>∃ (m:Nat) (t:ByteArray),i= .int .i64 m/\sv= .string t/\Hid (w'=w)/\Hid (yV m++t.data.toList=Lib.decDigits n)/\m<=100) (fun i _ _=>(intOf i).toNat)
 case atStart=>exact⟨q,dgs.extract d (d+1),rfl,rfl,ij rfl,ij (by rw [o.out,l.out]),r⟩
 case round=>
  obtain⟨m,t,rfl,rfl,k,c,hm⟩:=hrel;obtain rfl:=k.out;by_cases x:0<m
  ·have b:(m:Int).tmod 10=((m % 10:Nat):Int):=by rw [Int.tmod_eq_emod_of_nonneg (by omega)];omega
   have j:(m:Int).tdiv 10=((m / 10:Nat):Int):=by rw [Int.tdiv_eq_ediv_of_nonneg (by omega)];omega
   have a:m % 10<10:=Nat.mod_lt _ (by decide);have s:Hid (yV (m / 10)++(dgs.extract (m % 10) (m % 10+1)++t).data.toList=Lib.decDigits n):=by
    unfold Hid;rw [<-c.out,wq m x,ByteArray.data_append,Array.toList_append,Dd (m % 10) a,List.append_assoc]
   have hts:t.size<=3:=by
    have u:=congrArg List.length c.out;have h2:=zH v;simp at u;omega
   have y:m / 10<=100:=by omega
   have hlt:m / 10<m:=by omega
   generalize h:m % 10=d' at*;generalize f:m / 10=q' at*;clear h f;have e3:(0:Int)<=(d':Int):=by omega
   have e4:(d':Int)<10:=by omega
   have e5:(0:Int)<(m:Int):=by omega
   go_wp2_with fail
   go_roundw
   case rel=>exact⟨q',dgs.extract d' (d'+1)++t,rfl,rfl,ij trivial,s,y⟩
   case measure=>simp [intOf];omega
  ·have b:m=0:=by omega
   subst b;have p:Hid ((⟨(Lib.itoa n).toArray⟩:ByteArray)=t):=by
    unfold Hid;apply ByteArray.ext;apply Array.ext';rw [z.out,<-c.out];rfl
   go_wp2_with fail
   go_ret;exact⟨by rw [p.out];rfl,rfl⟩
def nV(m:Nat):ByteArray:=⟨(Lib.itoa m).toArray⟩
theorem qh(n:Nat)(w:World)(hn:n<1000):Calls Tryz.prog 78 #[.int .i64 n] w fun e w'=>e= .returned (.string (nV n))/\w'=w:=BR n w hn
theorem uE{m:Nat}(h:m<1000):(nV m).size<=3:=by
 unfold nV;simpa [ByteArray.size]using oX (n:=(m:Int)) (by omega) (by omega)
theorem uw(m:Nat):(nV m).data.toList=Lib.itoa m:=rfl
def Ba(out:List UInt8)(l:List Int):List UInt8:=if l=[] then out else if out=[] then lT l else out++[32]++lT l
theorem EX(t n:Int):kV t n≠[]:=by
 have h:∀ n:Int,Lib.itoa n≠[]:=by
  intro n;unfold Lib.itoa;split
  ·simp
  ·rw [Lib.decDigits];split<;>simp
 unfold kV;split
 ·exact h t
 ·simp
theorem Ci(x:List UInt8)(q:List (List UInt8)):Lib.join (x::q) [32]=if q=[] then x else x++[32]++Lib.join q [32]:=by
 cases q with
 | nil=>rw [Lib.join_one];rfl
 | cons y r=>rw [Lib.join_cons,Lib.join_cons,if_neg (by simp)];simp [Lib.joinTail]
def mf(out:List UInt8)(wd:List UInt8):List UInt8:=if out=[] then wd else out++[32]++wd
theorem BT(out:List UInt8)(t:Int)(r:List Int):
  Ba (mf out (kV t (lE (t::r)))) ((t::r).drop (lE (t::r)))=Ba out (t::r):=by
 have e:=zA t r;have d:=EX t (lE (t::r));have f:lT (t::r)=if ((t::r).drop (lE (t::r)))=[] then kV t (lE (t::r)) else kV t (lE (t::r))++[32]++lT ((t::r).drop (lE (t::r))):=by
  unfold lT;rw [e,List.map_cons,Ci];by_cases c:(t::r).drop (lE (t::r))=[]
  ·rw [c];simp [grp]
  ·rw [if_neg c,if_neg (by simpa using FG c)]
 generalize (t::r).drop (lE (t::r))=rest at*;generalize kV t (lE (t::r))=wd at*;unfold Ba mf;rw [if_neg (show ¬(t::r)=[] by simp),f];by_cases b:out=[]
 ·rw [if_pos b,if_pos b];by_cases a:rest=[]
  ·rw [if_pos a,if_pos a]
  ·rw [if_neg a,if_neg d,if_neg a]
 ·rw [if_neg b,if_neg b];by_cases a:rest=[]
  ·rw [if_pos a,if_pos a]
  ·rw [if_neg a,if_neg (by simp),if_neg a];simp
theorem IntsAt.tail{B:Nat}{w:World}{g o b:Nat}{l:List Int}(h:IntsAt B w (.slice (some ⟨g,o,none⟩) l.length b) l)(k:Nat)(hk:k<=l.length)(a:Option Addr)(f:k<l.length->a=some ⟨g,o+k,none⟩):IntsAt B w (.slice a (l.length - k) (b - k)) (l.drop k):=by
 obtain⟨ao,cap',e,hcap,hc⟩:=h;simp only [Value.slice.injEq,true_and]at e;obtain⟨rfl,rfl⟩:=e;refine⟨a,b - k,by simp,by simp;omega,fun j hj=>?_⟩;have d:k+j<l.length:=by simp at hj;omega
 obtain⟨g',o',e,i,c⟩:=hc (k+j) d;simp only [Option.some.injEq,Addr.mk.injEq,and_true]at e;obtain⟨rfl,rfl⟩:=e;refine⟨g,o+k,f (by omega),i,?_⟩;rw [Nat.add_assoc,c];simp
theorem CL(s:ByteArray):(⟨s.data.toList.toArray⟩:ByteArray)=s:=by cases s;rfl
theorem ym(l:List Int)(v:Value)(w:World)(B:IntsAt w.heap.size w v l):
  Calls Tryz.prog 48 #[v] w fun e w'=>w.grownBy w' none/\((jc l=true/\e= .returned (.tuple #[.string ⟨(lT l).toArray⟩,.int .i64 0]))\/(jc l=false/\e= .returned (.tuple #[.string ⟨#[]⟩,.int .i64 2]))):=by
 have J:=ij B;obtain⟨O,S,rfl⟩:=B.form;clear B;go_enter Tryz.func48,Tryz.ntmps48
 go_wp2_with fail
 refine(rJ l _ w J.out).mono ?_;rintro e j ⟨rfl,E⟩;have R:=ij E;have aa:Hid (IntsAt j.heap.size j (.slice O l.length S) l):=(J.out.pres (ip E)).mono E.size;clear E J;cases hv:jc l with
 | false=>
  go_wp2_with fail
  refine bodyPost_ret (v:= .tuple #[.string ⟨#[]⟩,.int .i64 2]) (by simp [results,Tryz.results48,go_sem]) rfl ?_;exact⟨R.out,Or.inr ⟨hv,rfl⟩⟩
 | true=>
  have T:=hv;simp only [jc,Bool.and_eq_true,decide_eq_true_eq,List.all_eq_true]at T;obtain⟨ai,N⟩:=T;have Z:=ij N;have aq:=ij hv;clear hv N;go_wp2_with fail
  go_loopw [0,5] (fun sv ov w'=>∃ (a:Option Addr) (c:Nat) (d:List Int) (out:ByteArray),sv= .slice a d.length c/\ov= .string out/\Hid (IntsAt j.heap.size j (.slice a d.length c) d)/\Hid (j.grownBy w' none)/\Hid (Ba out.data.toList d=lT l)/\Hid (∀ x∈d,x∈l)/\d.length<=500/\out.size+8*d.length<=4000) (fun sv _ _=>lenOf sv)
  case atStart=>exact⟨O,S,l,⟨#[]⟩,rfl,rfl,aa,ij (ir _ _),ij (by unfold Ba;cases l with | nil=>rfl | cons a b=>rw [if_neg (by simp)];rfl),ij (fun x hx=>hx),ai,by simp [ByteArray.size];omega⟩
  case round=>
   obtain⟨a,c,d,out,rfl,rfl,G,p,V,U,hr5,hsz⟩:=hrel;obtain⟨H,ap⟩:∃ H,H=wr:=⟨_,rfl⟩;subst ap;cases d with
   | nil=>
    have HE:Hid ((⟨(lT l).toArray⟩:ByteArray)=out):=by
     unfold Hid;rw [<-V.out];exact CL out
    simp only [List.length_nil];go_wp2_with fail
    refine bodyPost_ret (v:= .tuple #[.string out,.int .i64 0]) (by simp [results,Tryz.results48,go_sem]) rfl ?_;exact⟨il R.out p.out,Or.inl ⟨aq.out,by rw [HE.out]⟩⟩
   | cons t r=>
    have al:0<(t::r).length:=by simp
    have B:=G.out;obtain⟨ao',cp',Q,W,hc⟩:=B;simp only [Value.slice.injEq,true_and]at Q;obtain⟨rfl,rfl⟩:=Q;obtain⟨g,o,rfl,hgb,M⟩:=hc 0 al;simp only [List.getElem_cons_zero,Nat.add_zero]at M;have c0:=ip p.out _ _ M;have ht:=Z.out t (U.out t (by simp));have C:=ij (zG t r (.slice (some ⟨g,o,none⟩) (t::r).length c) H ((G.out.pres (ip p.out)).mono p.out.size) (by omega));have ae:=B6 (t::r);have hn1:1<=lE (t::r):=by rw [nU];omega
    have ak:=ij (BT out.data.toList t r);have A:((t::r).drop (lE (t::r))).length=(t::r).length - lE (t::r):=by simp
    have am:=G;clear hc M;obtain⟨t,rfl⟩:=Int.eq_ofNat_of_zero_le ht.1;have hdts:(nV t).size<=3:=uE (by omega);have m:=uw t;generalize ag:lE ((t:Int)::r)=n at*;have hdns:(nV n).size<=3:=uE (by omega);have y:=uw n;clear ag;generalize P:(t:Int)::r=RL at*;have HLL:=ij P;clear P;have q0:(0:Int)<RL.length:=by omega
    have q1:(n:Int)<=RL.length:=by omega
    have q2:(0:Int)<=(n:Int):=by omega
    have q3:(n:Int)<=c:=by omega
    have q4:RL.length<=c:=W;have ab:=ij A;have D:Hid (∀ (w':World) (z:ByteArray),Hid (j.grownBy w' none)->z.data.toList=mf out.data.toList (kV t n)->z.size<=out.size+8->
      ∃ (a:Option Addr) (c_1:Nat) (d:List Int) (out_1:ByteArray),Value.slice (if c=n then some { block:=g,off:=o} else some { block:=g,off:=o+n}) (RL.length - n) (c - n)= .slice a d.length c_1/\Value.string z= .string out_1/\Hid (IntsAt j.heap.size j (.slice a d.length c_1) d)/\Hid (j.grownBy w' none)/\Hid (Ba out_1.data.toList d=lT l)/\Hid (∀ x∈d,x∈l)/\d.length<=500/\out_1.size+8*d.length<=4000):=by
     intro w' z ac aj hs';have F:=ab.out;refine⟨_,c - n,RL.drop n,z,by rw [F],rfl,?_,ac,?_,?_,by rw [F];omega,by rw [F];omega⟩
     ·rw [F];exact ij (am.out.tail n ae _ (fun h=>by rw [if_neg (by omega)]))
     ·rw [aj,ak.out];exact V
     ·exact ij (fun x hx=>U.out x (List.mem_of_mem_drop hx))
    by_cases k:out.toList=[]
    ·have ah:out.toList.isEmpty=true:=by rw [k];rfl
     have i:out.data.toList=[]:=by rw [<-ByteArray.toList_eq];exact k
     have Y:¬9223372036854775807<out.size+(nV t).size:=by omega
     have X:¬9223372036854775807<out.size+(nV t).size+1:=by omega
     have b3:¬9223372036854775807<out.size+(nV t).size+1+(nV n).size:=by omega
     by_cases s:n=1
     ·have u:Hid ((out++nV t).data.toList=mf out.data.toList (kV t n)):=by
       unfold Hid mf kV;rw [if_pos i,s];simp [i,m]
      have I:¬(1:Int)<(n:Int):=by omega
      clear k i s m y A;go_wp2_with (first | (go_at_call 68;refine C.out.mono ?_;rintro e w6 ⟨rfl,f⟩;have q:=ij (il p.out f);have c6:=ip f _ _ c0;clear f) | (go_at_call 78;refine(qh _ _ (by omega)).mono ?_;rintro e L ⟨rfl,rfl⟩))
      go_roundw
      case rel=>exact D.out _ _ q u.out (by have z1:(⟨#[42]⟩:ByteArray).size=1:=rfl;have K:(⟨#[32]⟩:ByteArray).size=1:=rfl;simp;omega)
      case measure=>simp [lenOf];omega
     ·have u:Hid ((out++nV t++⟨#[42]⟩++nV n).data.toList=mf out.data.toList (kV t n)):=by
       unfold Hid mf kV;rw [if_pos i,if_neg (by omega)];simp [i,m,y]
      have I:(1:Int)<(n:Int):=by omega
      clear k i s m y A;go_wp2_with (first | (go_at_call 68;refine C.out.mono ?_;rintro e w6 ⟨rfl,f⟩;have q:=ij (il p.out f);have c6:=ip f _ _ c0;clear f) | (go_at_call 78;refine(qh _ _ (by omega)).mono ?_;rintro e L ⟨rfl,rfl⟩))
      go_roundw
      case rel=>exact D.out _ _ q u.out (by have z1:(⟨#[42]⟩:ByteArray).size=1:=rfl;have K:(⟨#[32]⟩:ByteArray).size=1:=rfl;simp;omega)
      case measure=>simp [lenOf];omega
    ·have ah:out.toList.isEmpty=false:=by simpa using k
     have i:out.data.toList≠[]:=by rw [<-ByteArray.toList_eq];exact k
     have b0:¬9223372036854775807<out.size+1:=by omega
     have Y:¬9223372036854775807<out.size+1+(nV t).size:=by omega
     have X:¬9223372036854775807<out.size+1+(nV t).size+1:=by omega
     have b3:¬9223372036854775807<out.size+1+(nV t).size+1+(nV n).size:=by omega
     by_cases s:n=1
     ·have u:Hid ((out++⟨#[32]⟩++nV t).data.toList=mf out.data.toList (kV t n)):=by
       unfold Hid mf kV;rw [if_neg i,s];simp [m]
      have I:¬(1:Int)<(n:Int):=by omega
      clear k i s m y A;go_wp2_with (first | (go_at_call 68;refine C.out.mono ?_;rintro e w6 ⟨rfl,f⟩;have q:=ij (il p.out f);have c6:=ip f _ _ c0;clear f) | (go_at_call 78;refine(qh _ _ (by omega)).mono ?_;rintro e L ⟨rfl,rfl⟩))
      go_roundw
      case rel=>exact D.out _ _ q u.out (by have z1:(⟨#[42]⟩:ByteArray).size=1:=rfl;have K:(⟨#[32]⟩:ByteArray).size=1:=rfl;simp;omega)
      case measure=>simp [lenOf];omega
     ·have u:Hid ((out++⟨#[32]⟩++nV t++⟨#[42]⟩++nV n).data.toList=mf out.data.toList (kV t n)):=by
       unfold Hid mf kV;rw [if_neg i,if_neg (by omega)];simp [m,y]
      have I:(1:Int)<(n:Int):=by omega
      clear k i s m y A;go_wp2_with (first | (go_at_call 68;refine C.out.mono ?_;rintro e w6 ⟨rfl,f⟩;have q:=ij (il p.out f);have c6:=ip f _ _ c0;clear f) | (go_at_call 78;refine(qh _ _ (by omega)).mono ?_;rintro e L ⟨rfl,rfl⟩))
      go_roundw
      case rel=>exact D.out _ _ q u.out (by have z1:(⟨#[42]⟩:ByteArray).size=1:=rfl;have K:(⟨#[32]⟩:ByteArray).size=1:=rfl;simp;omega)
      case measure=>simp [lenOf];omega
theorem mn(n:Nat)(h:n<18446744073709551616):IntKind.u64.wrap (n:Int)=(n:Int):=by rw [IntKind.wrap_u64];omega
theorem lM{n:Nat}(h:n<18446744073709551616):(jY n).length<=10:=mL h
theorem mt{l m k:List Nat}(hk:l++m=k)(h:l.length+m.length<=9223372036854775807):Op.stringOp .add (bs l) (bs m)=pure (.string (bs k)):=by rw [<-hk];exact CG l m h
theorem By{w:World}{g:Nat}{x0 x1 x2 x3:Nat}(h:w.heap[g]?=some (.cells #[.int .u8 (x0:Int),.int .u8 (x1:Int),.int .u8 (x2:Int),.int .u8 (x3:Int)] 5 (0,0))):(convert 147 9 (.slice (some ⟨g,0,none⟩) 4 4)).run Tryz.prog w= .ok (.string (bs [x0,x1,x2,x3])) w:=
 run_convert_bytes_arg w _ _ Tryz.underlying147 Tryz.underlying5 g 0 4 4 _ (by simp) (fun i hi=>by
  have hi':i<4:=by simpa using hi
  rcases(by omega:i=0\/i=1\/i=2\/i=3)with rfl | rfl | rfl | rfl<;>simp [World.cell?,h]) _ Tryz.underlying9
theorem Eh{w:World}{n1 A:Nat}{X:List Nat}{s:List Int}{v:Int × Int × Int}{sv:Value}(hX:X.length<=1000000)(ds:∀ x∈X,x<256)(HI:Hid (IntsAt w.heap.size w sv s))(HV:Hid (jc s=true))(dW:Hid (kG v=true))
  (H1:Hid (w.cell? ⟨n1,1,none⟩=some sv)) (H6:Hid (w.cell? ⟨A,0,none⟩=some (.int .i64 v.1)/\w.cell? ⟨A,1,none⟩=some (.int .i64 v.2.1)/\w.cell? ⟨A,2,none⟩=some (.int .i64 v.2.2)))
  {Q:Exit->Act->World->Prop} {c0 c2 c3 c4 c5 c8 c9 gP e3 hn gd dt hs ey e5 f2 dJ fV gt hY hQ bl hp cG fu d3 a0 fi f9 de gK dc b6 ca bc gM fM g2 cB eX a4 cR fR ct cj fl a7 bA gA hh go fA g9 gB dY bm cS ch hk d7 br bO cL dD dr g1 eJ fx dz aZ cz eH cd f3 dO d0 ft ea b5 df gl dC fw a9 eA g0 e8 hg g4 fk cg hy en fq gQ cM cU aX hl eq bV gy a3 d4 bk hU bx dx eB gr d1 gH hr fS hD eS bR fv aY cr cC dh dU fL gz gT ex eZ ff eI dq dQ gc dy gY g3 gi cD hE cu gI eK gO a5 cb bX hO hG h3 cK eb gs bq g6 dK bE a8 fQ bf fy cN ee g7 ej gn bu fZ bj eO cq gm gW a1 da fE eQ fP he f6 gE dH eh f4 cE:Value} (k:Hid (∀ c a d v w,Q (.panic c) (Act.put a (some d) v) w->Q (.panic c) a w))
  (M:Hid (∀ {z0 z1 z4 z5 z6 z7 z8 z9 fY cv hJ eP bg ck eL cm dM di fo dZ fs f0 cw eD bW em e9 b9 ci bS bT fC cH hT hb dn bZ gp hR gV cV ba gj es dL gZ dk hK fm bw ep gk cO b7 bH d9 cP dw fX er ge hi e4 fh gf hq bz dI eF gC gG eE ec eU gh fb g8 gv cY b8 gN dN bD a2 bU fz cF cc g5 bK bd f5 cy be eR gR hV dA b4 gg ew fN f7 bo gL bC e7 c7 bB fK gS dv ef dl fF hA dp bJ cA ce bG d5 hz bP d6 bQ bM bN gF gU cn gX dS hB eC cp dG fj fe hZ fd fB hv fD bF fW hP cT ei bp bh ed fG gD hS fI fc dR fH co bb eY hM fU hj d8 fn cZ d2 ev f8 dP hW cI a6 gq e6 fr fg dB fO cQ ga dF gw:Value} (w':World),w.grownBy w' none->Q .ret ⟨#[z0,z1,.string (bs (X++(mD s++mJ v)++leB 4 (lz (X++(mD s++mJ v))))),.int .i64 0,z4,z5,z6,z7,z8,z9,fY,cv,hJ,eP,bg,ck,eL,cm,dM,di,fo,dZ,fs,f0,cw,eD,bW,em,e9,b9,ci,bS,bT,fC,cH,hT,hb,dn,bZ,gp,hR,gV,cV,ba,gj,es,dL,gZ,dk,hK,fm,bw,ep,gk,cO,b7,bH,d9,cP,dw,fX,er,ge,hi,e4,fh,gf,hq,bz,dI,eF,gC,gG,eE,ec,eU,gh,fb,g8,gv,cY,b8,gN,dN,bD,a2,bU,fz,cF,cc,g5,bK,bd,f5,cy,be,eR,gR,hV,dA,b4,gg,ew,fN,f7,bo,gL,bC,e7,c7,bB,fK,gS,dv,ef,dl,fF,hA,dp,bJ,cA,ce,bG,d5,hz,bP,d6,bQ,bM,bN,gF,gU,cn,gX,dS,hB,eC,cp,dG,fj,fe,hZ,fd,fB,hv,fD,bF,fW,hP,cT,ei,bp,bh,ed,fG,gD,hS,fI,fc,dR,fH,co,bb,eY,hM,fU,hj,d8,fn,cZ,d2,ev,f8,dP,hW,cI,a6,gq,e6,fr,fg,dB,fO,cQ,ga,dF,gw],[]⟩ w')):
  Code.wp Tryz.prog (oM Tryz.f40 18) Q ⟨#[c0,.pointer (some ⟨n1,0,none⟩),c2,c3,c4,c5,.pointer (some ⟨A,0,none⟩),.string (bs X),c8,c9,gP,e3,hn,gd,dt,hs,ey,e5,f2,dJ,fV,gt,hY,hQ,bl,hp,cG,fu,d3,a0,fi,f9,de,gK,dc,b6,ca,bc,gM,fM,g2,cB,eX,a4,cR,fR,ct,cj,fl,a7,bA,gA,hh,go,fA,g9,gB,dY,bm,cS,ch,hk,d7,br,bO,cL,dD,dr,g1,eJ,fx,dz,aZ,cz,eH,cd,f3,dO,d0,ft,ea,b5,df,gl,dC,fw,a9,eA,g0,e8,hg,g4,fk,cg,hy,en,fq,gQ,cM,cU,aX,hl,eq,bV,gy,a3,d4,bk,hU,bx,dx,eB,gr,d1,gH,hr,fS,hD,eS,bR,fv,aY,cr,cC,dh,dU,fL,gz,gT,ex,eZ,ff,eI,dq,dQ,gc,dy,gY,g3,gi,cD,hE,cu,gI,eK,gO,a5,cb,bX,hO,hG,h3,cK,eb,gs,bq,g6,dK,bE,a8,fQ,bf,fy,cN,ee,g7,ej,gn,bu,fZ,bj,eO,cq,gm,gW,a1,da,fE,eQ,fP,he,f6,gE,dH,eh,f4,cE],[]⟩ w:=by
 conv=>arg 2;whnf
 have aQ:=HV.out;simp only [jc,Bool.and_eq_true,decide_eq_true_eq,List.all_eq_true]at aQ;obtain⟨hw,aw⟩:=aQ;have hf:=ij aw;clear aw;obtain⟨so,sc,rfl⟩:=HI.out.form;have c1:=H1.out;have E:Hid (∀ u,w.grownBy u none->u.cell? ⟨A,0,none⟩=some (.int .i64 v.1)/\u.cell? ⟨A,1,none⟩=some (.int .i64 v.2.1)/\u.cell? ⟨A,2,none⟩=some (.int .i64 v.2.2)):=fun u hu=>⟨ip hu _ _ H6.out.1,ip hu _ _ H6.out.2.1,ip hu _ _ H6.out.2.2⟩
 go_wp2_with fail
 clear c1;go_loopw [11,12,13] (fun nv bv lv w'=>∃ (a:Option Addr) (c:Nat) (m:List Int) (G:List (Int × Int)),nv= .int .i64 G.length/\bv= .string (bs (G.flatMap lQ))/\lv= .slice a m.length c/\Hid (IntsAt w.heap.size w (.slice a m.length c) m)/\Hid (w.grownBy w' none)/\Hid (G++grp m=grp s)/\Hid (∀ x∈m,x∈s)/\G.length+m.length<=500/\(G.flatMap lQ).length<=20*G.length) (fun _ _ lv _=>lenOf lv)
 case atStart=>exact⟨so,sc,s,[],rfl,rfl,rfl,HI,ij (ir _ _),ij rfl,ij (fun x b=>b),by simpa using hw,by simp⟩
 case round=>
  obtain⟨a,c,m,G,rfl,rfl,rfl,Z,z,ar,HM,hln,hgl⟩:=hrel;obtain⟨B,aA⟩:∃ B,B=wr:=⟨_,rfl⟩;rw [<-aA]at z ⊢;clear aA;cases m with
  | nil=>
   simp only [List.length_nil];have F:=dW.out;simp only [kG,Bool.and_eq_true,decide_eq_true_eq]at F;obtain⟨v0,v1,v2⟩:=v;simp only at F E M;obtain⟨k0,rfl⟩:=Int.eq_ofNat_of_zero_le (show 0<=v0 by omega);obtain⟨k1,rfl⟩:=Int.eq_ofNat_of_zero_le F.1.2.1;obtain⟨k2,rfl⟩:=Int.eq_ofNat_of_zero_le F.2.1;have h0:k0<=5:=by omega
   have h1:k1<=3:=by omega
   have h2:k2<=500:=by omega
   clear F;have hGl:G.length<=500:=by omega
   have qG:(G.length:Int)<=500:=by omega
   have q0:(k0:Int)<=5:=by omega
   have q1:(k1:Int)<=3:=by omega
   have q2:(k2:Int)<=500:=by omega
   have eG:=mn G.length (by omega);have e0:=mn k0 (by omega);have e1:=mn k1 (by omega);have e2:=mn k2 (by omega);have dT:=ij (fun u=>jJ G.length u (by omega));have dm:=ij (fun u=>jJ k0 u (by omega));have ek:=ij (fun u=>jJ k1 u (by omega));have hF:=ij (fun u=>jJ k2 u (by omega));have bi:Hid (grp s=G):=by have:=ar.out;simp only [grp,List.append_nil]at this;exact this.symm
   have b0:=lM (n:=G.length) (by omega);have b1:=lM (n:=k0) (by omega);have b2:=lM (n:=k1) (by omega);have b3:=lM (n:=k2) (by omega);obtain⟨Y1,H⟩:∃ Y,X++jY G.length=Y:=⟨_,rfl⟩;obtain⟨Y2,K⟩:∃ Y,Y1++G.flatMap lQ=Y:=⟨_,rfl⟩;obtain⟨Y3,N⟩:∃ Y,Y2++jY k0=Y:=⟨_,rfl⟩;obtain⟨Y4,J⟩:∃ Y,Y3++jY k1=Y:=⟨_,rfl⟩;obtain⟨q,I⟩:∃ Y,Y4++jY k2=Y:=⟨_,rfl⟩;have l1:Y1.length<=X.length+10:=by rw [<-H,List.length_append];omega
   have V:Y2.length<=X.length+10010:=by rw [<-K,List.length_append];omega
   have l3:Y3.length<=X.length+10020:=by rw [<-N,List.length_append];omega
   have l4:Y4.length<=X.length+10030:=by rw [<-J,List.length_append];omega
   have l5:q.length<=X.length+10040:=by rw [<-I,List.length_append];omega
   have y1:=mt H (by omega);have y2:=mt K (by omega);have y3:=mt N (by omega);have y4:=mt J (by omega);have y5:=mt I (by omega);have HY:Hid (X++(mD s++mJ ((k0:Int),(k1:Int),(k2:Int)))=q):=by
    unfold Hid mD mJ jw;rw [bi.out,<-I,<-J,<-N,<-K,<-H];simp
   rw [HY.out]at M;have aH:Hid (q.length<=2000000):=by unfold Hid;omega
   have aO:Hid (∀ x∈q,x<256):=by
    unfold Hid;rw [<-HY.out];intro x b;rcases List.mem_append.1 b with b | b
    ·exact ds x b
    ·unfold mD mJ at b;simp only [List.mem_append,List.mem_flatMap]at b;rcases b with (b | ⟨y,_,b⟩) | b | b | b
     ·exact k8 _ x b
     ·unfold lQ at b;rcases List.mem_append.1 b with b | b<;>exact k8 _ x b
     ·exact k8 _ x b
     ·exact k8 _ x b
     ·exact k8 _ x b
   clear H K N J I l1 V l3 l4 l5 HY;have aG:=E.out B.drew (iy z.out);go_upto_region 26 with fail
   refine iz (fun u=>u.cell? ⟨A,0,none⟩=some (.int .i64 (k0:Int))/\u.cell? ⟨A,1,none⟩=some (.int .i64 (k1:Int))/\u.cell? ⟨A,2,none⟩=some (.int .i64 (k2:Int))) 22 (by kernel_rfl) (by kernel_rfl) aG ?_;intro p;refine gJ 0 ?v1 rfl (by kernel_rfl) (fun c _ _ h=>k.out c _ _ _ _ h) (by kernel_rfl) ?y1 p ?_
   case y1=>(rintro u ⟨l,f,j⟩;go_simp;try rfl)
   simp only [Act.put,List.setIfInBounds_toArray];refine gJ 1 ?v2 rfl (by kernel_rfl) (fun c _ _ h=>k.out c _ _ _ _ h) (by kernel_rfl) ?y2 p ?_
   case y2=>(rintro u ⟨l,f,j⟩;go_simp;try rfl)
   simp only [Act.put];refine gJ 2 ?v3 rfl (by kernel_rfl) (fun c _ _ h=>k.out c _ _ _ _ h) (by kernel_rfl) ?y3 p ?_
   case y3=>(rintro u ⟨l,f,j⟩;go_simp;try rfl)
   simp only [Act.put];refine gJ 5 ?v4 rfl (by kernel_rfl) (fun c _ _ h=>k.out c _ _ _ _ h) (by kernel_rfl) ?y4 p ?_
   case y4=>(rintro u ⟨l,f,j⟩;go_simp;try rfl)
   simp only [Act.put];refine gJ 7 ?v5 rfl (by kernel_rfl) (fun c _ _ h=>k.out c _ _ _ _ h) (by kernel_rfl) ?y5 p ?_
   case y5=>(rintro u ⟨l,f,j⟩;go_simp;try rfl)
   simp only [Act.put];refine gJ 8 ?v6 rfl (by kernel_rfl) (fun c _ _ h=>k.out c _ _ _ _ h) (by kernel_rfl) ?y6 p ?_
   case y6=>(rintro u ⟨l,f,j⟩;go_simp;try rfl)
   simp only [Act.put];refine gJ 9 ?v7 rfl (by kernel_rfl) (fun c _ _ h=>k.out c _ _ _ _ h) (by kernel_rfl) ?y7 p ?_
   case y7=>(rintro u ⟨l,f,j⟩;go_simp;try rfl)
   simp only [Act.put];refine gJ 12 ?v8 rfl (by kernel_rfl) (fun c _ _ h=>k.out c _ _ _ _ h) (by kernel_rfl) ?y8 p ?_
   case y8=>(rintro u ⟨l,f,j⟩;go_simp;try rfl)
   simp only [Act.put];refine gJ 13 ?v9 rfl (by kernel_rfl) (fun c _ _ h=>k.out c _ _ _ _ h) (by kernel_rfl) ?y9 p ?_
   case y9=>(rintro u ⟨l,f,j⟩;go_simp;try rfl)
   simp only [Act.put];refine gJ 14 ?v10 rfl (by kernel_rfl) (fun c _ _ h=>k.out c _ _ _ _ h) (by kernel_rfl) ?y10 p ?_
   case y10=>(rintro u ⟨l,f,j⟩;go_simp;try rfl)
   simp only [Act.put];refine gJ 17 ?v11 rfl (by kernel_rfl) (fun c _ _ h=>k.out c _ _ _ _ h) (by kernel_rfl) ?y11 p ?_
   case y11=>(rintro u ⟨l,f,j⟩;go_simp;try rfl)
   simp only [Act.put];refine gJ 18 ?v12 rfl (by kernel_rfl) (fun c _ _ h=>k.out c _ _ _ _ h) (by kernel_rfl) ?y12 p ?_
   case y12=>(rintro u ⟨l,f,j⟩;go_simp;try rfl)
   simp only [Act.put];refine gJ 19 ?v13 rfl (by kernel_rfl) (fun c _ _ h=>k.out c _ _ _ _ h) (by kernel_rfl) ?y13 p ?_
   case y13=>(rintro u ⟨l,f,j⟩;go_simp;try rfl)
   simp only [Act.put];refine iu (i:=3) rfl (by kernel_rfl) (by kernel_rfl) (by kernel_rfl) ?_;intro K3 aM;have aU:=ij aM;clear aM;go_simp;refine(dT.out _).mono ?_;rintro e u1 ⟨rfl,f⟩;have az:Hid (B.grownBy u1 none):=kC f;have P:=E.out u1 (il z.out az.out);clear f;refine aU.out _ _ P ?_;clear aU;try simp only [Act.put,List.setIfInBounds_toArray]
   refine gJ 4 ?v14 rfl (by kernel_rfl) (fun c _ _ h=>k.out c _ _ _ _ h) (by kernel_rfl) ?y14 P ?_
   case y14=>(rintro u ⟨l,f,j⟩;go_simp;try rfl)
   simp only [Act.put,List.setIfInBounds_toArray];refine gJ 6 ?v15 rfl (by kernel_rfl) (fun c _ _ h=>k.out c _ _ _ _ h) (by kernel_rfl) ?y15 P ?_
   case y15=>(rintro u ⟨l,f,j⟩;go_simp;try rfl)
   simp only [Act.put];refine iu (i:=10) rfl (by kernel_rfl) (by kernel_rfl) (by kernel_rfl) ?_;intro K10 ak;have aj:=ij ak;clear ak;go_simp;refine(dm.out _).mono ?_;rintro e u2 ⟨rfl,j⟩;have an:Hid (B.grownBy u2 none):=il az.out j;have S:=E.out u2 (il z.out an.out);clear j;refine aj.out _ _ S ?_;clear aj;try simp only [Act.put,List.setIfInBounds_toArray]
   refine gJ 11 ?v16 rfl (by kernel_rfl) (fun c _ _ h=>k.out c _ _ _ _ h) (by kernel_rfl) ?y16 S ?_
   case y16=>(rintro u ⟨l,f,j⟩;go_simp;try rfl)
   simp only [Act.put,List.setIfInBounds_toArray];refine iu (i:=15) rfl (by kernel_rfl) (by kernel_rfl) (by kernel_rfl) ?_;intro K15 aJ;have ap:=ij aJ;clear aJ;go_simp;refine(ek.out _).mono ?_;rintro e u3 ⟨rfl,ay⟩;have ao:Hid (B.grownBy u3 none):=il an.out ay;have R:=E.out u3 (il z.out ao.out);clear ay;refine ap.out _ _ R ?_;clear ap;try simp only [Act.put,List.setIfInBounds_toArray]
   refine gJ 16 ?v17 rfl (by kernel_rfl) (fun c _ _ h=>k.out c _ _ _ _ h) (by kernel_rfl) ?y17 R ?_
   case y17=>(rintro u ⟨l,f,j⟩;go_simp;try rfl)
   simp only [Act.put,List.setIfInBounds_toArray];refine iu (i:=20) rfl (by kernel_rfl) (by kernel_rfl) (by kernel_rfl) ?_;intro K20 aR;have aL:=ij aR;clear aR;go_simp;refine(hF.out _).mono ?_;rintro e D ⟨rfl,am⟩;have aI:Hid (B.grownBy D none):=il ao.out am;have U:=E.out D (il z.out aI.out);clear am;refine aL.out _ _ U ?_;clear aL;try simp only [Act.put,List.setIfInBounds_toArray]
   refine gJ 21 ?v18 rfl (by kernel_rfl) (fun c _ _ h=>k.out c _ _ _ _ h) (by kernel_rfl) ?y18 U ?_
   case y18=>(rintro u ⟨l,f,j⟩;go_simp;try rfl)
   simp only [Act.put,List.setIfInBounds_toArray];refine iH rfl (by kernel_rfl) (by kernel_rfl) (by kernel_rfl) ?_;go_simp;clear p P S R U y1 y2 y3 y4 y5 aG;have ae:=ij (C2 (bs q) D (by rw [rY];have:=aH.out;omega));rw [yH aO.out]at ae;have hcl:lz q<4294967296:=by
    unfold lz;exact Nat.xor_lt_two_pow (n:=32) (by omega) (zM _ _ (by omega) aO.out)
   have cW:Hid (leB 4 (lz q)=[lz q % 256,lz q / 256 % 256,lz q / 65536 % 256,lz q / 16777216]):=by
    unfold Hid;generalize lz q=C at hcl ⊢;simp only [leB,List.cons.injEq,and_true,true_and];omega
   generalize lz q=C at*;go_wp2_with fail
   refine ae.out.mono ?_;clear ae;rintro e u5 ⟨rfl,cf⟩;obtain rfl:=cf.symm;have hcv:(convert 147 9 (.slice (some ⟨D.heap.size,0,none⟩) 4 4)).run Tryz.prog (D.alloc (.cells #[.int .u8 ((C:Int) % 256),.int .u8 ((C:Int) / 256 % 256),.int .u8 ((C:Int) / 65536 % 256),.int .u8 ((C:Int) / 16777216)] 5))= .ok (.string (bs (leB 4 C))) (D.alloc (.cells #[.int .u8 ((C:Int) % 256),.int .u8 ((C:Int) / 256 % 256),.int .u8 ((C:Int) / 65536 % 256),.int .u8 ((C:Int) / 16777216)] 5)):=by
    rw [cW.out];exact By (x0:=C % 256) (x1:=C / 256 % 256) (x2:=C / 65536 % 256) (x3:=C / 16777216) (heap_alloc_new D _)
   have hm:Hid ((leB 4 C).length=4):=pj 4 C;obtain⟨Y6,ac⟩:∃ Y,q++leB 4 C=Y:=⟨_,rfl⟩;have y6:=mt ac (by have:=aH.out;have:=hm.out;omega);rw [ac]at M;clear ac;go_wp2_with fail
   exact M.out _ (iq (il z.out aI.out))
  | cons t r=>
   have eM:0<(t::r).length:=by simp
   have hI:=Z.out;obtain⟨ao',cp',e',gb,hc⟩:=hI;simp only [Value.slice.injEq,true_and]at e';obtain⟨rfl,rfl⟩:=e';obtain⟨g,o,rfl,hgb,af⟩:=hc 0 eM;simp only [List.getElem_cons_zero,Nat.add_zero]at af;have cX:=ip z.out _ _ af;have ht:=hf.out t (HM.out t (by simp));have db:=ij (zG t r (.slice (some ⟨g,o,none⟩) (t::r).length c) B ((Z.out.pres (ip z.out)).mono z.out.size) (by omega));have dX:=B6 (t::r);have hn1:1<=lE (t::r):=by rw [nU];omega
   have aV:((t::r).drop (lE (t::r))).length=(t::r).length - lE (t::r):=by simp
   have eV:=ij (zA t r);clear hc af;obtain⟨t,rfl⟩:=Int.eq_ofNat_of_zero_le ht.1;generalize dj:lE ((t:Int)::r)=n at*;clear dj;generalize hL:(t:Int)::r=RL at*;clear hL;have q0:(0:Int)<RL.length:=by omega
   have q1:(n:Int)<=RL.length:=by omega
   have q2:(0:Int)<=(n:Int):=by omega
   have q3:(n:Int)<=c:=by omega
   have q4:RL.length<=c:=gb;have q5:(t:Int)<=63:=ht.2;have q6:(n:Int)<=500:=by omega
   have q7:(G.length:Int)<=500:=by omega
   have ai:=ij (fun u=>jJ t u (by omega));have aB:=ij (fun u=>jJ n u (by omega));have eT:=mn t (by omega);have eN:=mn n (by omega);have bt:=lM (n:=t) (by omega);have bn:=lM (n:=n) (by omega);obtain⟨Z1,L⟩:∃ Y,G.flatMap lQ++jY t=Y:=⟨_,rfl⟩;obtain⟨Z2,O⟩:∃ Y,Z1++jY n=Y:=⟨_,rfl⟩;have l1:Z1.length<=20*G.length+10:=by rw [<-L,List.length_append];omega
   have V:Z2.length<=20*G.length+20:=by rw [<-O,List.length_append];omega
   have z1:=mt L (by omega);have z2:=mt O (by omega);have HZ:Hid ((G++[((t:Int),(n:Int))]).flatMap lQ=Z2):=by
    unfold Hid;rw [<-O,<-L];simp [lQ,jw]
   have ez:=ij aV;have fJ:Hid (∀ (w':World),Hid (w.grownBy w' none)->∃ (a:Option Addr) (c_1:Nat) (m:List Int) (G':List (Int × Int)),Value.int .i64 ((G.length:Int)+1)= .int .i64 G'.length/\Value.string (bs Z2)= .string (bs (G'.flatMap lQ))/\Value.slice (if c=n then some { block:=g,off:=o} else some { block:=g,off:=o+n}) (RL.length - n) (c - n)= .slice a m.length c_1/\Hid (IntsAt w.heap.size w (.slice a m.length c_1) m)/\Hid (w.grownBy w' none)/\Hid (G'++grp m=grp s)/\Hid (∀ x∈m,x∈s)/\G'.length+m.length<=500/\(G'.flatMap lQ).length<=20*G'.length):=by
    intro w' dg;have T:=ez.out;refine⟨_,c - n,RL.drop n,G++[((t:Int),(n:Int))],by simp,by rw [HZ.out],by rw [T],?_,dg,?_,?_,by rw [T,List.length_append];simp;omega,by rw [HZ.out,List.length_append];simp;omega⟩
    ·rw [T];exact ij (Z.out.tail n dX _ (fun h=>by rw [if_neg (by omega)]))
    ·unfold Hid;rw [<-ar.out,eV.out];simp
    ·exact ij (fun x b=>HM.out x (List.mem_of_mem_drop b))
   clear L O l1 V aV HZ;go_upto_region 23 with (go_at_call 68;refine db.out.mono ?_;rintro e w6 ⟨rfl,W⟩;have eu:=ij (il z.out W);have c6:=ip W _ _ cX;clear W)
   go_upto_region 24 with (go_at_call 66;first | (refine(ai.out _).mono ?_;clear ai;rintro e w7 ⟨rfl,al⟩;have eo:=ij (il eu.out al);clear al) | (refine(aB.out _).mono ?_;clear aB;rintro e w8 ⟨rfl,aD⟩;have et:=ij (il eo.out aD);clear aD))
   go_wp2_with fail
   go_roundw
   case rel=>exact fJ.out _ et
   case measure=>simp [lenOf];omega
theorem En(i:Ins):∀ x∈mu i,x<256:=by
 intro x a;unfold mu jw at a;simp only [List.mem_append]at a;rcases a with a | a | a | a<;>exact k8 _ x a
theorem xG(c:List Ins):∀ x∈jS c,x<256:=by
 intro x a;unfold jS jw at a;rcases List.mem_append.1 a with a | a
 ·exact k8 _ x a
 ·obtain⟨i,_,b⟩:=List.mem_flatMap.1 a;exact En i x b
theorem Ee{w:World}{n1 T:Nat}{X:List Nat}{p:List (List Ins)}{s:List Int}{v:Int × Int × Int}{tv sv:Value}(HX:Hid ([82,82,1]++jY p.length=X))(HP:Hid (ProgAt w (.agg #[tv]) p))(hpl:p.length<=4)(gt:Hid (∀ c∈p,c.length<=16/\∀ i∈c,kA i))
  (HI:Hid (IntsAt w.heap.size w sv s)) (HV:Hid (jc s=true)) (fZ:Hid (kG v=true)) (H0:Hid (w.cell? ⟨n1,0,none⟩=some tv)) (H1:Hid (w.cell? ⟨n1,1,none⟩=some sv)) (H6:Hid (w.cell? ⟨T,0,none⟩=some (.int .i64 v.1)/\w.cell? ⟨T,1,none⟩=some (.int .i64 v.2.1)/\w.cell? ⟨T,2,none⟩=some (.int .i64 v.2.2)))
  {Q:Exit->Act->World->Prop} {c0 c2 c3 c4 c5 c7 c8 c9 hG gy hZ ha fH h2 gi gz g4 fT g0 hn ig ic eK h0 fn gL f4 ew gF g8 fA hD fz e6 e7 eG hE gT hN fj gw ez fv gW fg fc gH eC eS hv hV hj gQ hS hy f0 eM fw fb hW f6 eO eW fr fP fF hM go gO fM ev fi gm e9 g5 fV f2 gK f8 e5 fB he fN gN eE gj hL gB hU hP gG fa h5 ge gI hH fs fx et hY gf eY hr ey f5 eJ ie eR fK gk hl f3 hB h1 gY h7 gu eX gM eu ff fk fC fX gS hs hI gh gx gD gn fE fW g9 fL hK hO hd fl h8 fh hC gp hF eA e8 eZ ib h9 ih fp f9 hm eN hQ fU eU eD gV eH gP ft gb hR gd hi eQ g3 eI gq fe hg hJ ex fy gR gr gU hT g7 hA fR gc g6 fm:Value} (b:Hid (∀ c a d v w,Q (.panic c) (Act.put a (some d) v) w->Q (.panic c) a w))
  (HQ:Hid (∀ {z0 z1 z4 z5 z6 z7 z8 z9 dw bh ef cJ ap a9 cI bc bT bD dc b6 de dx bi cD aS cr cS a1 a8 aP aQ dh bn em d6 bH aU dK ej d0 bz al dI cx bS d2 bE eg da av ct dJ bt aY aE ce bu bL dv cw dD d7 cO cZ dE ea aw bQ cH dQ dT cF cf cM dG cT d4 dN bA aZ dV bU aB aj aR df bm a3 d3 aG an dy bj ao cL dX en bM aV dF cA dp dz ar dU aA cR bC ax dn dY bK ci bF dj ed bI aF bk a5 aD b8 ec aM b9 aN aI aK dS dZ bd d1 bY ee cB bf bP c6 cW eq cV dg eb di aC du ei bx ck au aq ch dk dR ek dm cU bX dl be am cN eh dt d8 cb db bB b7 cz dA bV ep bo ak dL cP dd cY bN dq bv dB bO dO:Value} (w':World),w.grownBy w' none->Q .ret ⟨#[z0,z1,.string (bs ((X++p.flatMap jS)++(mD s++mJ v)++leB 4 (lz ((X++p.flatMap jS)++(mD s++mJ v))))),.int .i64 0,z4,z5,z6,z7,z8,z9,dw,bh,ef,cJ,ap,a9,cI,bc,bT,bD,dc,b6,de,dx,bi,cD,aS,cr,cS,a1,a8,aP,aQ,dh,bn,em,d6,bH,aU,dK,ej,d0,bz,al,dI,cx,bS,d2,bE,eg,da,av,ct,dJ,bt,aY,aE,ce,bu,bL,dv,cw,dD,d7,cO,cZ,dE,ea,aw,bQ,cH,dQ,dT,cF,cf,cM,dG,cT,d4,dN,bA,aZ,dV,bU,aB,aj,aR,df,bm,a3,d3,aG,an,dy,bj,ao,cL,dX,en,bM,aV,dF,cA,dp,dz,ar,dU,aA,cR,bC,ax,dn,dY,bK,ci,bF,dj,ed,bI,aF,bk,a5,aD,b8,ec,aM,b9,aN,aI,aK,dS,dZ,bd,d1,bY,ee,cB,bf,bP,c6,cW,eq,cV,dg,eb,di,aC,du,ei,bx,ck,au,aq,ch,dk,dR,ek,dm,cU,bX,dl,be,am,cN,eh,dt,d8,cb,db,bB,b7,cz,dA,bV,ep,bo,ak,dL,cP,dd,cY,bN,dq,bv,dB,bO,dO],[]⟩ w')):
  Code.wp Tryz.prog (oM Tryz.f40 8) Q ⟨#[c0,.pointer (some ⟨n1,0,none⟩),c2,c3,c4,c5,.pointer (some ⟨T,0,none⟩),c7,c8,c9,hG,gy,hZ,ha,fH,h2,gi,gz,g4,fT,g0,hn,ig,ic,eK,h0,fn,gL,f4,ew,gF,g8,fA,hD,fz,e6,e7,eG,hE,gT,hN,fj,gw,ez,fv,gW,fg,fc,gH,eC,eS,hv,hV,hj,gQ,hS,hy,f0,eM,fw,fb,hW,f6,eO,eW,fr,fP,fF,hM,go,gO,fM,ev,fi,gm,e9,g5,fV,f2,gK,f8,e5,fB,he,fN,gN,eE,gj,hL,gB,hU,hP,gG,fa,h5,ge,gI,hH,fs,fx,et,hY,gf,eY,hr,ey,f5,eJ,ie,eR,fK,gk,hl,f3,hB,h1,gY,h7,gu,eX,gM,eu,ff,fk,fC,fX,gS,hs,hI,gh,gx,gD,gn,fE,fW,g9,fL,hK,hO,hd,fl,h8,fh,hC,gp,hF,eA,e8,eZ,ib,h9,ih,fp,f9,hm,eN,hQ,fU,eU,eD,gV,eH,gP,ft,gb,hR,gd,hi,eQ,g3,eI,gq,fe,hg,hJ,ex,fy,gR,gr,gU,hT,g7,hA,fR,gc,g6,fm],[]⟩ w:=by
 conv=>arg 2;whnf
 obtain⟨ta,tc,aT⟩:=HP.out.form;simp only [Value.agg.injEq,Array.mk.injEq,List.cons.injEq,and_true]at aT;subst aT;have qp:(p.length:Int)<=4:=by omega
 have bp:=lM (n:=p.length) (by omega);have hX:X.length<=20:=by rw [<-HX.out,List.length_append];simp;omega
 have fG:∀ x∈X,x<256:=by
  rw [<-HX.out];intro x z;rcases List.mem_append.1 z with z | z
  ·simp only [List.mem_cons,List.not_mem_nil,or_false]at z;omega
  ·exact k8 _ x z
 have cu:=ij (fun u=>jJ p.length u (by omega));have eP:=mn p.length (by omega);have g1:Op.stringOp .add (⟨#[82,82,1]⟩:ByteArray) (bs (jY p.length))=pure (.string (bs X)):=by
  have h3:(⟨#[82,82,1]⟩:ByteArray)=bs [82,82,1]:=by decide+kernel
  rw [h3];exact mt HX.out (by simp;omega)
 have hq:=H0.out;go_wp2_with (go_at_call 66;refine(cu.out _).mono ?_;clear cu;rintro e w4 ⟨rfl,K⟩;have dM:=ij K;clear K)
 clear g1 eP hq;go_loopw [7,8] (fun xv iv w'=>∃ (t:Nat) (Z:List Nat),t<=p.length/\iv= .int .i64 t/\xv= .string (bs Z)/\Hid (Z=X++(p.take t).flatMap jS)/\Z.length<=20+650*t/\Hid (w.grownBy w' none)) (fun _ iv _=>p.length - (intOf iv).toNat)
 case atStart=>exact⟨0,X,Nat.zero_le _,rfl,rfl,ij (by simp),by omega,dM⟩
 case round=>
  clear dM;obtain⟨t,Z,ht,rfl,rfl,HZ,hzl,y⟩:=hrel;obtain⟨w5,bJ⟩:∃ w5,w5=wr:=⟨_,rfl⟩;rw [<-bJ]at y ⊢;clear bJ;have k0:=ip y.out _ _ H0.out;by_cases ai:t<p.length
  ·have t0:(0:Int)<=(t:Int):=by omega
   have t1:(t:Int)<p.length:=by omega
   obtain⟨pg,po,eT,rv,cp,cQ⟩:=(show ∃ g o,ta=some ⟨g,o,none⟩/\∃ rv,w.cell? ⟨g,o+t,none⟩=some rv/\CodeAt w rv p[t] from by
    obtain⟨ao',cap',e,hh⟩:=HP.out;simp only [Value.agg.injEq,Array.mk.injEq,List.cons.injEq,Value.slice.injEq,and_true,true_and]at e;obtain⟨g,o,e1,rv,e2,e3⟩:=hh t ai;exact⟨g,o,by rw [e.1];exact e1,rv,e2,e3⟩)
   subst eT;obtain⟨hcl,b5⟩:=gt.out p[t] (List.getElem_mem ai);have hf:Hid ((p.take (t+1)).flatMap jS=(p.take t).flatMap jS++jS p[t]):=by
    unfold Hid;rw [List.take_succ_eq_append_getElem ai,List.flatMap_append,List.flatMap_cons,List.flatMap_nil,List.append_nil]
   generalize p[t]=c at*;have es:=ij b5;have fu:=cQ;obtain⟨ca,cc,rfl,dP⟩:=cQ;have g2:=ij dP;have r5:=ip y.out _ _ cp;have qc:(c.length:Int)<=16:=by omega
   have az:=ij (fun u=>jJ c.length u (by omega));have eL:=mn c.length (by omega);have bl:=lM (n:=c.length) (by omega);obtain⟨G,S⟩:∃ Y,Z++jY c.length=Y:=⟨_,rfl⟩;have l1:G.length<=Z.length+10:=by rw [<-S,List.length_append];omega
   have z1:=mt S (by omega);have eB:=ij S;have fD:Hid (G.length<=30+650*t):=by unfold Hid;omega
   clear dP fu cp b5 S;go_upto_region 14 with (go_at_call 66;refine(az.out _).mono ?_;clear az;rintro e w6 ⟨rfl,br⟩;have r:=ij (il y.out br);clear br)
   clear k0 r5 z1 eL;go_wp2_with fail
   go_loopw [7,10] (fun xv kv w'=>∃ (k:Nat) (V:List Nat),k<=c.length/\kv= .int .i64 k/\xv= .string (bs V)/\Hid (V=G++(c.take k).flatMap mu)/\V.length<=G.length+40*k/\Hid (w.grownBy w' none)) (fun _ kv _=>c.length - (intOf kv).toNat)
   case atStart=>exact⟨0,G,Nat.zero_le _,rfl,rfl,ij (by simp),by omega,r⟩
   case round=>
    clear r;obtain⟨k,V,hk,rfl,rfl,cv,hvl,r⟩:=hrel;obtain⟨w6,ay⟩:∃ w6,w6=wr:=⟨_,rfl⟩;rw [<-ay]at r ⊢;clear ay;by_cases ad:k<c.length
    ·have t2:(0:Int)<=(k:Int):=by omega
     have t3:(k:Int)<c.length:=by omega
     obtain⟨B,A,rfl,x0,x1,x2,x3⟩:=g2.out k ad;obtain⟨L,M,I,J⟩:=es.out c[k] (List.getElem_mem ad);have eo:Hid ((c.take (k+1)).flatMap mu=(c.take k).flatMap mu++mu c[k]):=by
      unfold Hid;rw [List.take_succ_eq_append_getElem ad,List.flatMap_append,List.flatMap_cons,List.flatMap_nil,List.append_nil]
     have ho:Hid (kA c[k]):=⟨L,M,I,J⟩;generalize c[k]=ii at*;obtain⟨oo,aa,bb,E⟩:=ii;simp only at L M I J x0 x1 x2 x3;obtain⟨C,rfl⟩:=Int.eq_ofNat_of_zero_le L.1;obtain⟨F,rfl⟩:=Int.eq_ofNat_of_zero_le M.1;obtain⟨D,rfl⟩:=Int.eq_ofNat_of_zero_le I.1;have q0:(C:Int)<=11:=L.2;have q1:(F:Int)<=3:=M.2;have q2:(D:Int)<=3:=I.2;have H:Hid (∀ u,w.grownBy u none->u.cell? ⟨B,A+k*4,none⟩=some (.int .i64 (C:Int))/\u.cell? ⟨B,A+k*4+1,none⟩=some (.int .i64 (F:Int))/\u.cell? ⟨B,A+k*4+2,none⟩=some (.int .i64 (D:Int))/\u.cell? ⟨B,A+k*4+3,none⟩=some (.int .i64 E)):=fun u hu=>⟨ip hu _ _ x0,ip hu _ _ x1,ip hu _ _ x2,ip hu _ _ x3⟩
     have hz:zig E<18446744073709551616:=by unfold zig;split<;>omega
     have fS:=ij (fun u=>jJ C u (by omega));have gv:=ij (fun u=>jJ F u (by omega));have gE:=ij (fun u=>jJ D u (by omega));have ga:=ij (fun u=>Bg E u J.1 J.2);have h4:=ij (fun u=>jJ (zig E) u hz);have e0:=mn C (by omega);have e1:=mn F (by omega);have e2:=mn D (by omega);have b1:=lM (n:=C) (by omega);have b2:=lM (n:=F) (by omega);have b3:=lM (n:=D) (by omega);have b4:=lM hz;obtain⟨V1,R⟩:∃ Y,V++jY C=Y:=⟨_,rfl⟩;obtain⟨V2,P⟩:∃ Y,V1++jY F=Y:=⟨_,rfl⟩;obtain⟨V3,U⟩:∃ Y,V2++jY D=Y:=⟨_,rfl⟩;obtain⟨V4,O⟩:∃ Y,V3++jY (zig E)=Y:=⟨_,rfl⟩;have l1':V1.length<=V.length+10:=by rw [<-R,List.length_append];omega
     have l2':V2.length<=V.length+20:=by rw [<-P,List.length_append];omega
     have l3':V3.length<=V.length+30:=by rw [<-U,List.length_append];omega
     have l4':V4.length<=V.length+40:=by rw [<-O,List.length_append];omega
     have y1:=mt R (by omega);have y2:=mt P (by omega);have y3:=mt U (by omega);have y4:=mt O (by omega);have fo:Hid (V4=G++(c.take (k+1)).flatMap mu):=by
      unfold Hid;rw [eo.out,<-O,<-U,<-P,<-R,cv.out];simp [mu,jw]
     have cy:=H.out w6.drew (iy r.out);generalize zig E=zn at*;clear R P U O x0 x1 x2 x3 L M I J hz eo ho;go_upto_region 17 with fail
     refine iz (fun u=>u.cell? ⟨B,A+k*4,none⟩=some (.int .i64 (C:Int))/\u.cell? ⟨B,A+k*4+1,none⟩=some (.int .i64 (F:Int))/\u.cell? ⟨B,A+k*4+2,none⟩=some (.int .i64 (D:Int))/\u.cell? ⟨B,A+k*4+3,none⟩=some (.int .i64 E)) 33 (by kernel_rfl) (by kernel_rfl) cy ?_;intro q;refine gJ 0 ?v1 rfl (by kernel_rfl) (fun c _ _ h=>b.out c _ _ _ _ h) (by kernel_rfl) ?y1 q ?_
     case y1=>(rintro u ⟨l,f,m,j⟩;go_simp;try rfl)
     simp only [Act.put,List.setIfInBounds_toArray];refine gJ 1 ?v2 rfl (by kernel_rfl) (fun c _ _ h=>b.out c _ _ _ _ h) (by kernel_rfl) ?y2 q ?_
     case y2=>(rintro u ⟨l,f,m,j⟩;go_simp;try rfl)
     simp only [Act.put];refine gJ 2 ?v3 rfl (by kernel_rfl) (fun c _ _ h=>b.out c _ _ _ _ h) (by kernel_rfl) ?y3 q ?_
     case y3=>(rintro u ⟨l,f,m,j⟩;go_simp;try rfl)
     simp only [Act.put];refine gJ 3 ?v4 rfl (by kernel_rfl) (fun c _ _ h=>b.out c _ _ _ _ h) (by kernel_rfl) ?y4 q ?_
     case y4=>(rintro u ⟨l,f,m,j⟩;go_simp;try rfl)
     simp only [Act.put];refine gJ 4 ?v5 rfl (by kernel_rfl) (fun c _ _ h=>b.out c _ _ _ _ h) (by kernel_rfl) ?y5 q ?_
     case y5=>(rintro u ⟨l,f,m,j⟩;go_simp;try rfl)
     simp only [Act.put];refine gJ 5 ?v6 rfl (by kernel_rfl) (fun c _ _ h=>b.out c _ _ _ _ h) (by kernel_rfl) ?y6 q ?_
     case y6=>(rintro u ⟨l,f,m,j⟩;go_simp;try rfl)
     simp only [Act.put];refine gJ 6 ?v7 rfl (by kernel_rfl) (fun c _ _ h=>b.out c _ _ _ _ h) (by kernel_rfl) ?y7 q ?_
     case y7=>(rintro u ⟨l,f,m,j⟩;go_simp;try rfl)
     simp only [Act.put];refine gJ 9 ?v8 rfl (by kernel_rfl) (fun c _ _ h=>b.out c _ _ _ _ h) (by kernel_rfl) ?y8 q ?_
     case y8=>(rintro u ⟨l,f,m,j⟩;go_simp;try rfl)
     simp only [Act.put];refine gJ 10 ?v9 rfl (by kernel_rfl) (fun c _ _ h=>b.out c _ _ _ _ h) (by kernel_rfl) ?y9 q ?_
     case y9=>(rintro u ⟨l,f,m,j⟩;go_simp;try rfl)
     simp only [Act.put];refine gJ 11 ?v10 rfl (by kernel_rfl) (fun c _ _ h=>b.out c _ _ _ _ h) (by kernel_rfl) ?y10 q ?_
     case y10=>(rintro u ⟨l,f,m,j⟩;go_simp;try rfl)
     simp only [Act.put];refine gJ 12 ?v11 rfl (by kernel_rfl) (fun c _ _ h=>b.out c _ _ _ _ h) (by kernel_rfl) ?y11 q ?_
     case y11=>(rintro u ⟨l,f,m,j⟩;go_simp;try rfl)
     simp only [Act.put];refine gJ 13 ?v12 rfl (by kernel_rfl) (fun c _ _ h=>b.out c _ _ _ _ h) (by kernel_rfl) ?y12 q ?_
     case y12=>(rintro u ⟨l,f,m,j⟩;go_simp;try rfl)
     simp only [Act.put];refine gJ 14 ?v13 rfl (by kernel_rfl) (fun c _ _ h=>b.out c _ _ _ _ h) (by kernel_rfl) ?y13 q ?_
     case y13=>(rintro u ⟨l,f,m,j⟩;go_simp;try rfl)
     simp only [Act.put];refine gJ 17 ?v14 rfl (by kernel_rfl) (fun c _ _ h=>b.out c _ _ _ _ h) (by kernel_rfl) ?y14 q ?_
     case y14=>(rintro u ⟨l,f,m,j⟩;go_simp;try rfl)
     simp only [Act.put];refine gJ 18 ?v15 rfl (by kernel_rfl) (fun c _ _ h=>b.out c _ _ _ _ h) (by kernel_rfl) ?y15 q ?_
     case y15=>(rintro u ⟨l,f,m,j⟩;go_simp;try rfl)
     simp only [Act.put];refine gJ 19 ?v16 rfl (by kernel_rfl) (fun c _ _ h=>b.out c _ _ _ _ h) (by kernel_rfl) ?y16 q ?_
     case y16=>(rintro u ⟨l,f,m,j⟩;go_simp;try rfl)
     simp only [Act.put];refine gJ 20 ?v17 rfl (by kernel_rfl) (fun c _ _ h=>b.out c _ _ _ _ h) (by kernel_rfl) ?y17 q ?_
     case y17=>(rintro u ⟨l,f,m,j⟩;go_simp;try rfl)
     simp only [Act.put];refine gJ 21 ?v18 rfl (by kernel_rfl) (fun c _ _ h=>b.out c _ _ _ _ h) (by kernel_rfl) ?y18 q ?_
     case y18=>(rintro u ⟨l,f,m,j⟩;go_simp;try rfl)
     simp only [Act.put];refine gJ 22 ?v19 rfl (by kernel_rfl) (fun c _ _ h=>b.out c _ _ _ _ h) (by kernel_rfl) ?y19 q ?_
     case y19=>(rintro u ⟨l,f,m,j⟩;go_simp;try rfl)
     simp only [Act.put];refine gJ 25 ?v20 rfl (by kernel_rfl) (fun c _ _ h=>b.out c _ _ _ _ h) (by kernel_rfl) ?y20 q ?_
     case y20=>(rintro u ⟨l,f,m,j⟩;go_simp;try rfl)
     simp only [Act.put];refine gJ 26 ?v21 rfl (by kernel_rfl) (fun c _ _ h=>b.out c _ _ _ _ h) (by kernel_rfl) ?y21 q ?_
     case y21=>(rintro u ⟨l,f,m,j⟩;go_simp;try rfl)
     simp only [Act.put];refine gJ 27 ?v22 rfl (by kernel_rfl) (fun c _ _ h=>b.out c _ _ _ _ h) (by kernel_rfl) ?y22 q ?_
     case y22=>(rintro u ⟨l,f,m,j⟩;go_simp;try rfl)
     simp only [Act.put];refine gJ 28 ?v23 rfl (by kernel_rfl) (fun c _ _ h=>b.out c _ _ _ _ h) (by kernel_rfl) ?y23 q ?_
     case y23=>(rintro u ⟨l,f,m,j⟩;go_simp;try rfl)
     simp only [Act.put];refine gJ 29 ?v24 rfl (by kernel_rfl) (fun c _ _ h=>b.out c _ _ _ _ h) (by kernel_rfl) ?y24 q ?_
     case y24=>(rintro u ⟨l,f,m,j⟩;go_simp;try rfl)
     simp only [Act.put];refine iu (i:=7) rfl (by kernel_rfl) (by kernel_rfl) (by kernel_rfl) ?_;intro K7 d9;have el:=ij d9;clear d9;go_simp;refine(fS.out _).mono ?_;rintro e u1 ⟨rfl,aJ⟩;have bG:Hid (w6.grownBy u1 none):=kC aJ;have ah:=H.out u1 (il r.out bG.out);clear aJ;refine el.out _ _ ah ?_;clear el;try simp only [Act.put,List.setIfInBounds_toArray]
     refine gJ 8 ?v25 rfl (by kernel_rfl) (fun c _ _ h=>b.out c _ _ _ _ h) (by kernel_rfl) ?y25 ah ?_
     case y25=>(rintro u ⟨l,f,m,j⟩;go_simp;try rfl)
     simp only [Act.put,List.setIfInBounds_toArray];refine iu (i:=15) rfl (by kernel_rfl) (by kernel_rfl) (by kernel_rfl) ?_;intro K15 cE;have a6:=ij cE;clear cE;go_simp;refine(gv.out _).mono ?_;rintro e u2 ⟨rfl,dH⟩;have aL:Hid (w6.grownBy u2 none):=il bG.out dH;have W:=H.out u2 (il r.out aL.out);clear dH;refine a6.out _ _ W ?_;clear a6;try simp only [Act.put,List.setIfInBounds_toArray]
     refine gJ 16 ?v26 rfl (by kernel_rfl) (fun c _ _ h=>b.out c _ _ _ _ h) (by kernel_rfl) ?y26 W ?_
     case y26=>(rintro u ⟨l,f,m,j⟩;go_simp;try rfl)
     simp only [Act.put,List.setIfInBounds_toArray];refine iu (i:=23) rfl (by kernel_rfl) (by kernel_rfl) (by kernel_rfl) ?_;intro K23 a7;have cK:=ij a7;clear a7;go_simp;refine(gE.out _).mono ?_;rintro e u3 ⟨rfl,a4⟩;have aO:Hid (w6.grownBy u3 none):=il aL.out a4;have N:=H.out u3 (il r.out aO.out);clear a4;refine cK.out _ _ N ?_;clear cK;try simp only [Act.put,List.setIfInBounds_toArray]
     refine gJ 24 ?v27 rfl (by kernel_rfl) (fun c _ _ h=>b.out c _ _ _ _ h) (by kernel_rfl) ?y27 N ?_
     case y27=>(rintro u ⟨l,f,m,j⟩;go_simp;try rfl)
     simp only [Act.put,List.setIfInBounds_toArray];refine iu (i:=30) rfl (by kernel_rfl) (by kernel_rfl) (by kernel_rfl) ?_;intro K30 ds;have dr:=ij ds;clear ds;go_simp;refine(ga.out _).mono ?_;rintro e u3b ⟨rfl,ia⟩;obtain rfl:=ia.symm;refine dr.out _ _ N ?_;clear dr;try simp only [Act.put,List.setIfInBounds_toArray]
     refine iu (i:=31) rfl (by kernel_rfl) (by kernel_rfl) (by kernel_rfl) ?_;intro K31 bZ;have cX:=ij bZ;clear bZ;go_simp;refine(h4.out _).mono ?_;rintro e u4 ⟨rfl,K⟩;have cC:Hid (w6.grownBy u4 none):=il aO.out K;have ab:=H.out u4 (il r.out cC.out);clear K;refine cX.out _ _ ab ?_;clear cX;try simp only [Act.put,List.setIfInBounds_toArray]
     refine gJ 32 ?v28 rfl (by kernel_rfl) (fun c _ _ h=>b.out c _ _ _ _ h) (by kernel_rfl) ?y28 ab ?_
     case y28=>(rintro u ⟨l,f,m,j⟩;go_simp;try rfl)
     simp only [Act.put,List.setIfInBounds_toArray];refine iH rfl (by kernel_rfl) (by kernel_rfl) (by kernel_rfl) ?_;go_simp;clear q ah W N ab y1 y2 y3 y4 cy;go_wp2_with fail
     go_roundw
     case rel=>exact⟨k+1,V4,by omega,by go_num,rfl,fo,by omega,ij (il r.out cC.out)⟩
     case measure=>simp [intOf];omega
    ·have t3:(c.length:Int)<=(k:Int):=by omega
     have gA:Hid (V=X++(p.take (t+1)).flatMap jS):=by
      unfold Hid;rw [cv.out,List.take_of_length_le (show c.length<=k by omega),hf.out,<-eB.out,HZ.out];simp [jS,jw]
     have fq:V.length<=20+650*(t+1):=by have:=fD.out;omega
     go_wp2_with fail
     go_roundw
     case rel=>exact⟨t+1,V,by omega,by go_num,rfl,gA,fq,r⟩
     case measure=>simp [intOf];omega
  ·have t1:(p.length:Int)<=(t:Int):=by omega
   have dC:Hid (Z=X++p.flatMap jS):=by
    unfold Hid;rw [HZ.out,List.take_of_length_le (by omega)]
   have gl:Z.length<=1000000:=by omega
   have fd:Hid (∀ x∈Z,x<256):=by
    unfold Hid;rw [dC.out]
    intro x z;rcases List.mem_append.1 z with z | z
    ·exact fG x z
    ·obtain⟨c,_,hc⟩:=List.mem_flatMap.1 z;exact xG c x hc
   rw [<-dC.out]at HQ;go_upto_if 71 with fail
   refine wp_cond_false rfl ?_;refine wp_exit ?_;refine ‹∀ a w,Code.wp Tryz.prog _ _ a w->_› _ _ ?_;refine Eh gl fd.out ((HI.out.pres (ip y.out)).mono y.out.size) HV fZ (ip y.out _ _ H1.out) ⟨ip y.out _ _ H6.out.1,ip y.out _ _ H6.out.2.1,ip y.out _ _ H6.out.2.2⟩ b ?_;intro z0 z1 z4 z5 z6 z7 z8 z9 dw bh ef cJ ap a9 cI bc bT bD dc b6 de dx bi cD aS cr cS a1 a8 aP aQ dh bn em d6 bH aU dK ej d0 bz al dI cx bS d2 bE eg da av ct dJ bt aY aE ce bu bL dv cw dD d7 cO cZ dE ea aw bQ cH dQ dT cF cf cM dG cT d4 dN bA aZ dV bU aB aj aR df bm a3 d3 aG an dy bj ao cL dX en bM aV dF cA dp dz ar dU aA cR bC ax dn dY bK ci bF dj ed bI aF bk a5 aD b8 ec aM b9 aN aI aK dS dZ bd d1 bY ee cB bf bP c6 cW eq cV dg eb di aC du ei bx ck au aq ch dk dR ek dm cU bX dl be am cN eh dt d8 cb db bB b7 cz dA bV ep bo ak dL cP dd cY bN dq bv dB bO dO w' fO;exact HQ.out w' (il y.out fO)
def kh(a:Art):Value:=if jI a=0 then .tuple #[.string (bs (mN a)),.int .i64 0] else .tuple #[.string ⟨#[]⟩,.int .i64 (jI a)]
def BL(i:Ins):Prop:= -9223372036854775808<=i.n/\i.n<=9223372036854775807
theorem rA(p:List (List Ins))(s:List Int)(k0 k1 k2:Int)(tv sv:Value)(w:World)(F:ProgAt w (.agg #[tv]) p)(L:IntsAt w.heap.size w sv s)(av:p.length<=5864062014634)(Z:∀ c∈p,c.length<=4398046510976)(hi:∀ c∈p,∀ i∈c,BL i):
  Calls Tryz.prog 40 #[.agg #[tv,sv,.int .i64 k0,.int .i64 k1,.int .i64 k2]] w fun e w'=>w.grownBy w' none/\e= .returned (kh ⟨p,s,(k0,k1,k2)⟩):=by
 obtain⟨r,u,S⟩:=F.form;simp only [Value.agg.injEq,Array.mk.injEq,List.cons.injEq,and_true]at S;subst S;obtain⟨m,l,rfl⟩:=L.form;have T:=ij F;have U:=ij L;have ay:=ij Z;have au:=ij hi;clear F L Z hi;go_enter Tryz.func40,Tryz.ntmps40
 go_wp2_with fail
 obtain⟨t,y⟩:∃ t,t=w.alloc (.cells #[.slice r p.length u,.slice m s.length l,.int .i64 k0,.int .i64 k1,.int .i64 k2] 56):=⟨_,rfl⟩;have P:t.heap[w.heap.size]?=some (.cells #[.slice r p.length u,.slice m s.length l,.int .i64 k0,.int .i64 k1,.int .i64 k2] 56 (0,0)):=by rw [y];exact heap_alloc_new w _
 have V:Hid (w.grownBy t none):=by unfold Hid;rw [y];exact iq (ir _ _)
 rw [<-y];clear y;have I:=ij P;clear P;refine(mG p _ t (T.out.pres (ip V.out)) av ay.out).mono ?_;rintro e x ⟨rfl,A⟩;have HG12:=ij A;have D:Hid (w.grownBy x none):=il V.out A;have B:Hid (x.heap[w.heap.size]?=some (.cells #[.slice r p.length u,.slice m s.length l,.int .i64 k0,.int .i64 k1,.int .i64 k2] 56 (0,0))):=by
  unfold Hid;rw [A.block _ (Array.getElem?_eq_some_iff.1 I.out).1 (by simp)];exact I.out
 clear A;cases hv:iU p
 ·have E:Hid (jh p=1):=by unfold Hid jh;simp [hv]
  have d:Hid (jI ⟨p,s,(k0,k1,k2)⟩=1):=by unfold Hid jI;simp only;rw [hv];rfl
  rw [E.out];clear hv;go_wp2_with fail
  refine bodyPost_ret (v:= .tuple #[.string ⟨#[]⟩,.int .i64 1]) (by simp [results,Tryz.results40,go_sem]) rfl ?_;exact⟨D.out,by unfold kh;rw [d.out];rfl⟩
 ·have E:Hid (jh p=0):=by unfold Hid jh;simp [hv]
  have k:=ij hv;rw [E.out];clear hv E;have z:x.cell? ⟨w.heap.size,1,none⟩=some (.slice m s.length l):=by simp [World.cell?,B.out]
  have Y:=ij (rJ s _ x ((U.out.pres (ip D.out)).mono D.out.size));go_wp2_with fail
  refine Y.out.mono ?_;clear Y z;rintro e b ⟨rfl,J⟩;have ai:Hid (w.grownBy b none):=il D.out J;have n:b.heap[w.heap.size]?=some (.cells #[.slice r p.length u,.slice m s.length l,.int .i64 k0,.int .i64 k1,.int .i64 k2] 56 (0,0)):=by
   rw [J.block _ (Array.getElem?_eq_some_iff.1 B.out).1 (by simp)];exact B.out
  have d0:b.cell? ⟨w.heap.size,0,none⟩=some (.slice r p.length u):=by simp [World.cell?,n]
  have z:b.cell? ⟨w.heap.size,1,none⟩=some (.slice m s.length l):=by simp [World.cell?,n]
  have d2:b.cell? ⟨w.heap.size,2,none⟩=some (.int .i64 k0):=by simp [World.cell?,n]
  have d3:b.cell? ⟨w.heap.size,3,none⟩=some (.int .i64 k1):=by simp [World.cell?,n]
  have d4:b.cell? ⟨w.heap.size,4,none⟩=some (.int .i64 k2):=by simp [World.cell?,n]
  have ag:=ij d0;have W:=ij z;clear n J d0 z;generalize C:jc s=vs;go_upto_region 6 with fail
  clear d2 d3 d4;have o:b.grownBy (b.alloc (.cells #[.int .i64 k0,.int .i64 k1,.int .i64 k2] 26)) none:=iq (ir _ _);have q:=heap_alloc_new b (.cells #[.int .i64 k0,.int .i64 k1,.int .i64 k2] 26);generalize b.alloc (.cells #[.int .i64 k0,.int .i64 k1,.int .i64 k2] 26)=w4 at o q ⊢;have j:Hid (w.grownBy w4 none):=il ai.out o;have ah:=ij (ip o _ _ ag.out);have ar:=ij (ip o _ _ W.out);have f0:w4.cell? ⟨b.heap.size,0,none⟩=some (.int .i64 k0):=by simp [World.cell?,q]
  have f1:w4.cell? ⟨b.heap.size,1,none⟩=some (.int .i64 k1):=by simp [World.cell?,q]
  have f2:w4.cell? ⟨b.heap.size,2,none⟩=some (.int .i64 k2):=by simp [World.cell?,q]
  have HF:Hid (w4.cell? ⟨b.heap.size,0,none⟩=some (.int .i64 k0)/\w4.cell? ⟨b.heap.size,1,none⟩=some (.int .i64 k1)/\w4.cell? ⟨b.heap.size,2,none⟩=some (.int .i64 k2)):=⟨f0,f1,f2⟩;clear o q ag W I B;by_cases G:vs=true
  case neg=>
   have aa:vs=false:=by simpa using G
   have d:Hid (jI ⟨p,s,(k0,k1,k2)⟩=2):=by unfold Hid jI;simp only;rw [if_pos k.out,if_neg (by rintro⟨R,_⟩;rw [C,aa]at R;cases R)]
   subst aa;clear G C;go_wp2_with fail
   refine bodyPost_ret (v:= .tuple #[.string ⟨#[]⟩,.int .i64 2]) (by simp [results,Tryz.results40,go_sem]) rfl ?_;exact⟨j.out,by unfold kh;rw [d.out];rfl⟩
  case pos=>
  subst G;have ae:=ij C;clear C;by_cases h:k0<1
  ·have d:Hid (jI ⟨p,s,(k0,k1,k2)⟩=2):=by unfold Hid jI;simp only;rw [if_pos k.out,if_neg (by rintro⟨_,f⟩;simp only [kG,Bool.and_eq_true,decide_eq_true_eq]at f;omega)]
   go_wp2_with fail
   refine bodyPost_ret (v:= .tuple #[.string ⟨#[]⟩,.int .i64 2]) (by simp [results,Tryz.results40,go_sem]) rfl ?_;exact⟨j.out,by unfold kh;rw [d.out];rfl⟩
  replace h:1<=k0:=by omega
  by_cases h:5<k0
  ·have d:Hid (jI ⟨p,s,(k0,k1,k2)⟩=2):=by unfold Hid jI;simp only;rw [if_pos k.out,if_neg (by rintro⟨_,f⟩;simp only [kG,Bool.and_eq_true,decide_eq_true_eq]at f;omega)]
   go_wp2_with fail
   refine bodyPost_ret (v:= .tuple #[.string ⟨#[]⟩,.int .i64 2]) (by simp [results,Tryz.results40,go_sem]) rfl ?_;exact⟨j.out,by unfold kh;rw [d.out];rfl⟩
  replace h:k0<=5:=by omega
  by_cases h:k1<0
  ·have d:Hid (jI ⟨p,s,(k0,k1,k2)⟩=2):=by unfold Hid jI;simp only;rw [if_pos k.out,if_neg (by rintro⟨_,f⟩;simp only [kG,Bool.and_eq_true,decide_eq_true_eq]at f;omega)]
   go_wp2_with fail
   refine bodyPost_ret (v:= .tuple #[.string ⟨#[]⟩,.int .i64 2]) (by simp [results,Tryz.results40,go_sem]) rfl ?_;exact⟨j.out,by unfold kh;rw [d.out];rfl⟩
  replace h:0<=k1:=by omega
  by_cases h:3<k1
  ·have d:Hid (jI ⟨p,s,(k0,k1,k2)⟩=2):=by unfold Hid jI;simp only;rw [if_pos k.out,if_neg (by rintro⟨_,f⟩;simp only [kG,Bool.and_eq_true,decide_eq_true_eq]at f;omega)]
   go_wp2_with fail
   refine bodyPost_ret (v:= .tuple #[.string ⟨#[]⟩,.int .i64 2]) (by simp [results,Tryz.results40,go_sem]) rfl ?_;exact⟨j.out,by unfold kh;rw [d.out];rfl⟩
  replace h:k1<=3:=by omega
  by_cases h:k2<0
  ·have d:Hid (jI ⟨p,s,(k0,k1,k2)⟩=2):=by unfold Hid jI;simp only;rw [if_pos k.out,if_neg (by rintro⟨_,f⟩;simp only [kG,Bool.and_eq_true,decide_eq_true_eq]at f;omega)]
   go_wp2_with fail
   refine bodyPost_ret (v:= .tuple #[.string ⟨#[]⟩,.int .i64 2]) (by simp [results,Tryz.results40,go_sem]) rfl ?_;exact⟨j.out,by unfold kh;rw [d.out];rfl⟩
  replace h:0<=k2:=by omega
  by_cases h:500<k2
  ·have d:Hid (jI ⟨p,s,(k0,k1,k2)⟩=2):=by unfold Hid jI;simp only;rw [if_pos k.out,if_neg (by rintro⟨_,f⟩;simp only [kG,Bool.and_eq_true,decide_eq_true_eq]at f;omega)]
   go_wp2_with fail
   refine bodyPost_ret (v:= .tuple #[.string ⟨#[]⟩,.int .i64 2]) (by simp [results,Tryz.results40,go_sem]) rfl ?_;exact⟨j.out,by unfold kh;rw [d.out];rfl⟩
  replace h:k2<=500:=by omega
  have H:kG (k0,k1,k2)=true:=by simp only [kG,Bool.and_eq_true,decide_eq_true_eq];omega
  have aq:=(jz k.out).2;have al:Hid (∀ c∈p,c.length<=16/\∀ i∈c,kA i):=by
   intro c hc;have O:=k.out;simp only [iU,Bool.and_eq_true,List.all_eq_true]at O;have f:=O.2.2 c hc;simp only [kT,Bool.and_eq_true,List.all_eq_true,decide_eq_true_eq]at f;refine⟨f.1,fun i hi'=>?_⟩;obtain⟨g1,g2,g3⟩:=pI (f.2 i hi');exact⟨g1,g2,g3,au.out c hc i hi'⟩
  have d:Hid (jI ⟨p,s,(k0,k1,k2)⟩=0):=by unfold Hid jI;simp only;rw [if_pos k.out,if_pos ⟨ae.out,H⟩]
  have aj:Hid (mM ⟨p,s,(k0,k1,k2)⟩=([82,82,1]++jY p.length++p.flatMap jS)++(mD s++mJ (k0,k1,k2))):=by
   unfold Hid mM me jw;simp
  have ap:Hid (kh ⟨p,s,(k0,k1,k2)⟩= .tuple #[.string (bs (([82,82,1]++jY p.length++p.flatMap jS)++(mD s++mJ (k0,k1,k2))++leB 4 (lz (([82,82,1]++jY p.length++p.flatMap jS)++(mD s++mJ (k0,k1,k2)))))),.int .i64 0]):=by
   unfold Hid kh;rw [if_pos d.out];unfold mN;rw [aj.out]
  have aB:=ij H;clear H;have M:decide (k0<1)=false:=decide_eq_false (by omega);have z1:decide (5<k0)=false:=decide_eq_false (by omega);have Q:decide (k1<0)=false:=decide_eq_false (by omega);have z3:decide (3<k1)=false:=decide_eq_false (by omega);have N:decide (k2<0)=false:=decide_eq_false (by omega);have K:decide (500<k2)=false:=decide_eq_false (by omega);have ZZ:Hid ((decide (k0<1) || decide (5<k0) || decide (k1<0) || decide (3<k1) || decide (k2<0) || decide (500<k2))=false):=by unfold Hid;rw [M,z1,Q,z3,N,K];rfl
  clear M z1 Q z3 N K;go_upto_if 58 with fail
  refine wp_cond_false (congrArg Value.bool ZZ.out) ?_;refine wp_skip ?_;refine ‹∀ a w,Code.wp Tryz.prog _ _ a w->_› _ _ ?_;refine Ee (X:=[82,82,1]++jY p.length) (p:=p) (s:=s) (v:=(k0,k1,k2)) (ij rfl) (T.out.pres (ip j.out)) aq al ((U.out.pres (ip j.out)).mono j.out.size) ae aB ah ar HF ?_ ?_
  ·exact fun _ _ _ _ _ h=>h
  intro M z1 N K z6 z7 z8 z9 z10 z11 z12 z13 z14 z15 z16 z17 z18 z19 z20 z21 z22 z23 z24 z25 z26 z27 z28 z29 z30 z31 z32 z33 z34 z35 z36 z37 z38 z39 z40 z41 z42 z43 z44 z45 z46 z47 z48 z49 z50 z51 z52 z53 z54 z55 z56 z57 z58 z59 z60 z61 z62 z63 z64 z65 z66 z67 z68 z69 z70 z71 z72 z73 z74 z75 z76 z77 z78 z79 z80 z81 z82 z83 z84 z85 z86 z87 z88 z89 z90 z91 z92 z93 z94 z95 z96 z97 z98 z99 z100 z101 z102 z103 z104 z105 z106 z107 z108 z109 z110 z111 z112 z113 z114 z115 z116 z117 z118 z119 z120 z121 z122 z123 z124 z125 z126 z127 z128 z129 z130 z131 z132 z133 z134 z135 z136 z137 z138 z139 z140 z141 z142 z143 z144 z145 z146 z147 z148 z149 z150 z151 z152 z153 z154 z155 z156 z157 z158 z159 z160 z161 z162 z163 z164 z165 z166 z167 z168 z169 z170 z171 z172 z173 z174 z175 z176 z177 z178 z179 z180 z181 z182 z183 z184 z185 z186 w' ab;have aC:=ij ab;clear ab;refine bodyPost_ret (v:=kh ⟨p,s,(k0,k1,k2)⟩) (by rw [ap.out];simp [results,Tryz.results40,go_sem]) rfl ?_;exact⟨il j.out aC.out,rfl⟩
def RDec(w:World)(s:ByteArray)(e:Ending)(w':World):Prop:=w.grownBy w' none/\
 ((ki (byt s)=none/\e= .returned (.tuple #[.agg #[.slice none 0 0,.slice none 0 0,.int .i64 0,.int .i64 0,.int .i64 0],.int .i64 3]))\/
 ∃ a tv sv,ki (byt s)=some a/\e= .returned (.tuple #[.agg #[tv,sv,.int .i64 a.ver.1,.int .i64 a.ver.2.1,.int .i64 a.ver.2.2],.int .i64 0])/\ProgAt w' (.agg #[tv]) a.prog/\IntsAt w'.heap.size w' sv a.sch)
theorem zR{l:List Nat}{s:ByteArray}(h:bs l=s)(hl:∀ x∈l,x<256):l=byt s:=by rw [<-h,yH hl]
theorem zY(s:ByteArray):bs (byt s)=s:=by
 apply ByteArray.ext;apply Array.ext';simp only [bs,strOfNums_data,byt,List.map_map];conv=>rhs;rw [<-List.map_id s.data.toList]
 refine List.map_congr_left fun x _=>?_
 simp
theorem D2(a:Art):∀ x∈mN a,x<256:=by
 intro x b;unfold mN mM at b;simp only [List.mem_append]at b;rcases b with (b | b | b | b) | b
 ·simp only [List.mem_cons,List.not_mem_nil,or_false]at b;omega
 ·unfold me jw at b;rcases List.mem_append.1 b with b | b
  ·exact k8 _ x b
  ·obtain⟨c,_,hc⟩:=List.mem_flatMap.1 b;exact xG c x hc
 ·unfold mD jw at b;rcases List.mem_append.1 b with b | b
  ·exact k8 _ x b
  ·obtain⟨y,_,d⟩:=List.mem_flatMap.1 b;unfold lQ jw at d;rcases List.mem_append.1 d with d | d<;>exact k8 _ x d
 ·unfold mJ jw at b;simp only [List.mem_append]at b;rcases b with b | b | b<;>exact k8 _ x b
 ·exact FO _ _ x b
theorem xt(s:ByteArray)(w:World)(hs:s.size<=9223372036854775000):Calls Tryz.prog 42 #[.string s] w (RDec w s):=by
 have P:Hid (ki (byt s)=si (byt s)):=(zd (fun b hb=>vc s b hb)).symm;have N:=ij (rP (byt s));have T:=ij (fun u=>ER s u hs);have M:Hid (si (byt s)=if (j3 (byt s)).2=true/\jI (j3 (byt s)).1=0/\mN (j3 (byt s)).1=byt s then some (j3 (byt s)).1 else none):=rfl;generalize hG:j3 (byt s)=G at*;clear hG;obtain⟨⟨p,d,k0,k1,k2⟩,ok⟩:=G;simp only at N T M;go_enter Tryz.func42,Tryz.ntmps42
 go_wp2_with fail
 have V:w.grownBy (w.alloc (.cells #[.slice none 0 0,.slice none 0 0,.int .i64 0,.int .i64 0,.int .i64 0] 56)) none:=iq (ir _ _);have Y:=heap_alloc_new w (.cells #[.slice none 0 0,.slice none 0 0,.int .i64 0,.int .i64 0,.int .i64 0] 56);generalize w.alloc (.cells #[.slice none 0 0,.slice none 0 0,.int .i64 0,.int .i64 0,.int .i64 0] 56)=w0 at V Y ⊢;have an:=ij V;have O:=ij Y;clear V Y;refine(T.out w0).mono ?_;clear T;rintro e f ⟨tv,sv,rfl,ab,ac,W⟩;have X:=ac.progAt;have ae:=jy W;have aB:=ij ac;have ao:=ij W;have ag:Hid (w.heap.size<w0.heap.size):=(Array.getElem?_eq_some_iff.1 O.out).1;clear ac W;obtain⟨r,o,af⟩:=X.form;simp only [Value.agg.injEq,Array.mk.injEq,List.cons.injEq,and_true]at af;subst af;obtain⟨n,m,rfl⟩:=ae.form;have am:=ij X;have ai:=ij ae;have aD:Hid (w.grownBy f none):=il an.out ab;have Q:Hid (f.heap[w.heap.size]?=some (.cells #[.slice none 0 0,.slice none 0 0,.int .i64 0,.int .i64 0,.int .i64 0] 56 (0,0))):=by
  unfold Hid;rw [ab.block _ (Array.getElem?_eq_some_iff.1 O.out).1 (by simp)];exact O.out
 clear X ae ab;go_upto_region 2 with fail
 have A:f.grownBy (f.alloc (.cells #[.slice r p.length o,.slice n d.length m,.int .i64 k0,.int .i64 k1,.int .i64 k2] 56)) none:=iq (ir _ _);have S:=heap_alloc_new f (.cells #[.slice r p.length o,.slice n d.length m,.int .i64 k0,.int .i64 k1,.int .i64 k2] 56);generalize f.alloc (.cells #[.slice r p.length o,.slice n d.length m,.int .i64 k0,.int .i64 k1,.int .i64 k2] 56)=w2 at A S ⊢;have ak:Hid (w.grownBy w2 none):=il aD.out A;have j:Hid (w2.heap[w.heap.size]?=some (.cells #[.slice none 0 0,.slice none 0 0,.int .i64 0,.int .i64 0,.int .i64 0] 56 (0,0))):=by
  unfold Hid;rw [A.block _ (Array.getElem?_eq_some_iff.1 Q.out).1 (by simp)];exact Q.out
 have y:=ij S;have au:=ij A;have Z:=ij (am.out.pres (ip A));have R:Hid (IntsAt w2.heap.size w2 (.slice n d.length m) d):=(ai.out.pres (ip A)).mono A.size;clear A S O Q an;cases ok with
 | false=>
  have J:Hid (ki (byt s)=none):=by unfold Hid;rw [P.out,M.out,if_neg (by rintro⟨h,_⟩;cases h)]
  have z0:w2.cell? ⟨w.heap.size,0,none⟩=some (.slice none 0 0):=by simp only [World.cell?,j.out];rfl
  have z1:w2.cell? ⟨w.heap.size,1,none⟩=some (.slice none 0 0):=by simp only [World.cell?,j.out];rfl
  have z2:w2.cell? ⟨w.heap.size,2,none⟩=some (.int .i64 0):=by simp only [World.cell?,j.out];rfl
  have z3:w2.cell? ⟨w.heap.size,3,none⟩=some (.int .i64 0):=by simp only [World.cell?,j.out];rfl
  have z4:w2.cell? ⟨w.heap.size,4,none⟩=some (.int .i64 0):=by simp only [World.cell?,j.out];rfl
  have y0:w2.frozen? ⟨w.heap.size,0,none⟩=false:=by simp [World.frozen?,j.out]
  have y1:w2.frozen? ⟨w.heap.size,1,none⟩=false:=by simp [World.frozen?,j.out]
  have y2:w2.frozen? ⟨w.heap.size,2,none⟩=false:=by simp [World.frozen?,j.out]
  have y3:w2.frozen? ⟨w.heap.size,3,none⟩=false:=by simp [World.frozen?,j.out]
  have y4:w2.frozen? ⟨w.heap.size,4,none⟩=false:=by simp [World.frozen?,j.out]
  go_wp2_with fail
  obtain⟨C,B,x,H,F,t⟩:=pc w2 w.heap.size _ _ _ _ _ j.out (.slice none 0 0) (.slice none 0 0) (.int .i64 0) (.int .i64 0) (.int .i64 0);generalize ((((w2.setCell ⟨w.heap.size,0,none⟩ (.slice none 0 0)).setCell ⟨w.heap.size,1,none⟩ (.slice none 0 0)).setCell ⟨w.heap.size,2,none⟩ (.int .i64 0)).setCell ⟨w.heap.size,3,none⟩ (.int .i64 0)).setCell ⟨w.heap.size,4,none⟩ (.int .i64 0)=w9 at*;have E:w.grownBy w9 none:=nY ak.out t (Nat.le_refl _);have I:Hid (RDec w s (.returned (.tuple #[.agg #[.slice none 0 0,.slice none 0 0,.int .i64 0,.int .i64 0,.int .i64 0],.int .i64 3])) w9):=⟨E,Or.inl ⟨J.out,rfl⟩⟩;refine bodyPost_ret (v:= .tuple #[.agg #[.slice none 0 0,.slice none 0 0,.int .i64 0,.int .i64 0,.int .i64 0],.int .i64 3]) ?_ rfl I.out;simp [results,Tryz.results42,go_sem,C,B,x,H,F]
 | true=>
  have d0:w2.cell? ⟨f.heap.size,0,none⟩=some (.slice r p.length o):=by simp only [World.cell?,y.out];rfl
  have d1:w2.cell? ⟨f.heap.size,1,none⟩=some (.slice n d.length m):=by simp only [World.cell?,y.out];rfl
  have d2:w2.cell? ⟨f.heap.size,2,none⟩=some (.int .i64 k0):=by simp only [World.cell?,y.out];rfl
  have d3:w2.cell? ⟨f.heap.size,3,none⟩=some (.int .i64 k1):=by simp only [World.cell?,y.out];rfl
  have d4:w2.cell? ⟨f.heap.size,4,none⟩=some (.int .i64 k2):=by simp only [World.cell?,y.out];rfl
  have ap:=ij (rA p d k0 k1 k2 _ _ w2 Z.out R.out (by have:=N.out.2;omega) (fun c hc=>by have:=(N.out.1 c hc).1;omega) (fun c hc i hi=>((N.out.1 c hc).2 i hi).2.2.2));go_wp2_with fail
  refine ap.out.mono ?_;clear ap d0 d1 d2 d3 d4;rintro e a ⟨z,rfl⟩;have aa:Hid (w.grownBy a none):=il ak.out z;have ad:Hid (f.grownBy a none):=il au.out z;have l:Hid (a.heap[w.heap.size]?=some (.cells #[.slice none 0 0,.slice none 0 0,.int .i64 0,.int .i64 0,.int .i64 0] 56 (0,0))):=by
   unfold Hid;rw [z.block _ (Array.getElem?_eq_some_iff.1 j.out).1 (by simp)];exact j.out
  have K:Hid (a.heap[f.heap.size]?=some (.cells #[.slice r p.length o,.slice n d.length m,.int .i64 k0,.int .i64 k1,.int .i64 k2] 56 (0,0))):=by
   unfold Hid;rw [z.block _ (Array.getElem?_eq_some_iff.1 y.out).1 (by simp)];exact y.out
  have HP3:=ij (Z.out.pres (ip z));have HI3:Hid (IntsAt a.heap.size a (.slice n d.length m) d):=(R.out.pres (ip z)).mono z.size;clear z j y Z R am ai;have z0:a.cell? ⟨w.heap.size,0,none⟩=some (.slice none 0 0):=by simp only [World.cell?,l.out];rfl
  have z1:a.cell? ⟨w.heap.size,1,none⟩=some (.slice none 0 0):=by simp only [World.cell?,l.out];rfl
  have z2:a.cell? ⟨w.heap.size,2,none⟩=some (.int .i64 0):=by simp only [World.cell?,l.out];rfl
  have z3:a.cell? ⟨w.heap.size,3,none⟩=some (.int .i64 0):=by simp only [World.cell?,l.out];rfl
  have z4:a.cell? ⟨w.heap.size,4,none⟩=some (.int .i64 0):=by simp only [World.cell?,l.out];rfl
  have y0:a.frozen? ⟨w.heap.size,0,none⟩=false:=by simp [World.frozen?,l.out]
  have y1:a.frozen? ⟨w.heap.size,1,none⟩=false:=by simp [World.frozen?,l.out]
  have y2:a.frozen? ⟨w.heap.size,2,none⟩=false:=by simp [World.frozen?,l.out]
  have y3:a.frozen? ⟨w.heap.size,3,none⟩=false:=by simp [World.frozen?,l.out]
  have y4:a.frozen? ⟨w.heap.size,4,none⟩=false:=by simp [World.frozen?,l.out]
  by_cases D:jI ⟨p,d,(k0,k1,k2)⟩=0
  ·have U:Hid (kh ⟨p,d,(k0,k1,k2)⟩= .tuple #[.string (bs (mN ⟨p,d,(k0,k1,k2)⟩)),.int .i64 0]):=by unfold Hid kh;rw [if_pos D]
   rw [U.out];by_cases L:bs (mN ⟨p,d,(k0,k1,k2)⟩)=s
   ·have aE:Hid (ki (byt s)=some ⟨p,d,(k0,k1,k2)⟩):=by unfold Hid;rw [P.out,M.out,if_pos ⟨by first | trivial | rfl,D,zR L (D2 _)⟩]
    rw [L];clear L D;have d0:a.cell? ⟨f.heap.size,0,none⟩=some (.slice r p.length o):=by simp only [World.cell?,K.out];rfl
    have d1:a.cell? ⟨f.heap.size,1,none⟩=some (.slice n d.length m):=by simp only [World.cell?,K.out];rfl
    have d2:a.cell? ⟨f.heap.size,2,none⟩=some (.int .i64 k0):=by simp only [World.cell?,K.out];rfl
    have d3:a.cell? ⟨f.heap.size,3,none⟩=some (.int .i64 k1):=by simp only [World.cell?,K.out];rfl
    have d4:a.cell? ⟨f.heap.size,4,none⟩=some (.int .i64 k2):=by simp only [World.cell?,K.out];rfl
    go_wp2_with fail
    obtain⟨C,B,x,H,F,t⟩:=pc a w.heap.size _ _ _ _ _ l.out (.slice r p.length o) (.slice n d.length m) (.int .i64 k0) (.int .i64 k1) (.int .i64 k2);generalize ((((a.setCell ⟨w.heap.size,0,none⟩ (.slice r p.length o)).setCell ⟨w.heap.size,1,none⟩ (.slice n d.length m)).setCell ⟨w.heap.size,2,none⟩ (.int .i64 k0)).setCell ⟨w.heap.size,3,none⟩ (.int .i64 k1)).setCell ⟨w.heap.size,4,none⟩ (.int .i64 k2)=w9 at*;have E:w.grownBy w9 none:=nY aa.out t (Nat.le_refl _);have I:Hid (RDec w s (.returned (.tuple #[.agg #[.slice r p.length o,.slice n d.length m,.int .i64 k0,.int .i64 k1,.int .i64 k2],.int .i64 0])) w9):=⟨E,Or.inr ⟨_,_,_,aE.out,rfl,((aB.out.step ad.out (fun _ e=>by cases e)).mono ad.out.size |>.step t (fun q e=>by simp only [Option.some.injEq]at e;have:=ag.out;omega)).progAt,jy (kB (kB ao.out ad.out (fun _ e=>by cases e)) t (fun k e x=>by simp only [Option.some.injEq]at e;have:=ag.out;have:=iA ao.out k x;omega))⟩⟩;refine bodyPost_ret (v:= .tuple #[.agg #[.slice r p.length o,.slice n d.length m,.int .i64 k0,.int .i64 k1,.int .i64 k2],.int .i64 0]) ?_ rfl I.out;simp [results,Tryz.results42,go_sem,C,B,x,H,F]
   ·have J:Hid (ki (byt s)=none):=by unfold Hid;rw [P.out,M.out,if_neg (by rintro⟨_,_,h⟩;exact L (by rw [h];exact zY s))]
    clear D;generalize bs (mN ⟨p,d,(k0,k1,k2)⟩)=TT at*;have hT2:(TT.toList==s.toList)=false:=by rw [beq_eq_false_iff_ne];intro h;rw [ByteArray.toList_eq,ByteArray.toList_eq]at h;exact L (ByteArray.ext (Array.ext' h))
    go_wp2_with fail
    obtain⟨C,B,x,H,F,t⟩:=pc a w.heap.size _ _ _ _ _ l.out (.slice none 0 0) (.slice none 0 0) (.int .i64 0) (.int .i64 0) (.int .i64 0);generalize ((((a.setCell ⟨w.heap.size,0,none⟩ (.slice none 0 0)).setCell ⟨w.heap.size,1,none⟩ (.slice none 0 0)).setCell ⟨w.heap.size,2,none⟩ (.int .i64 0)).setCell ⟨w.heap.size,3,none⟩ (.int .i64 0)).setCell ⟨w.heap.size,4,none⟩ (.int .i64 0)=w9 at*;have E:w.grownBy w9 none:=nY aa.out t (Nat.le_refl _);have I:Hid (RDec w s (.returned (.tuple #[.agg #[.slice none 0 0,.slice none 0 0,.int .i64 0,.int .i64 0,.int .i64 0],.int .i64 3])) w9):=⟨E,Or.inl ⟨J.out,rfl⟩⟩;refine bodyPost_ret (v:= .tuple #[.agg #[.slice none 0 0,.slice none 0 0,.int .i64 0,.int .i64 0,.int .i64 0],.int .i64 3]) ?_ rfl I.out;simp [results,Tryz.results42,go_sem,C,B,x,H,F]
  ·have U:Hid (kh ⟨p,d,(k0,k1,k2)⟩= .tuple #[.string ⟨#[]⟩,.int .i64 (jI ⟨p,d,(k0,k1,k2)⟩)]):=by unfold Hid kh;rw [if_neg D]
   have J:Hid (ki (byt s)=none):=by unfold Hid;rw [P.out,M.out,if_neg (by rintro⟨_,h,_⟩;exact D h)]
   rw [U.out];generalize jI ⟨p,d,(k0,k1,k2)⟩=ee at*;have h0':(ee !=0)=true:=by simpa using D
   go_wp2_with fail
   obtain⟨C,B,x,H,F,t⟩:=pc a w.heap.size _ _ _ _ _ l.out (.slice none 0 0) (.slice none 0 0) (.int .i64 0) (.int .i64 0) (.int .i64 0);generalize ((((a.setCell ⟨w.heap.size,0,none⟩ (.slice none 0 0)).setCell ⟨w.heap.size,1,none⟩ (.slice none 0 0)).setCell ⟨w.heap.size,2,none⟩ (.int .i64 0)).setCell ⟨w.heap.size,3,none⟩ (.int .i64 0)).setCell ⟨w.heap.size,4,none⟩ (.int .i64 0)=w9 at*;have E:w.grownBy w9 none:=nY aa.out t (Nat.le_refl _);have I:Hid (RDec w s (.returned (.tuple #[.agg #[.slice none 0 0,.slice none 0 0,.int .i64 0,.int .i64 0,.int .i64 0],.int .i64 3])) w9):=⟨E,Or.inl ⟨J.out,rfl⟩⟩;refine bodyPost_ret (v:= .tuple #[.agg #[.slice none 0 0,.slice none 0 0,.int .i64 0,.int .i64 0,.int .i64 0],.int .i64 3]) ?_ rfl I.out;simp [results,Tryz.results42,go_sem,C,B,x,H,F]
end
section
open Go.RowKit
theorem ThrD.low{B B':Nat}{w:World}{tv:Value}{T:List (Value × Nat × List Value)}(h:ThrD B w tv T)(hb:B'<=B):ThrD B' w tv T:=
 ⟨iQ h.row hb,fun x hx=>⟨iQ (h.el x hx).1 hb,(h.el x hx).2⟩,h.dis⟩
theorem ThrD.grown{B:Nat}{w w':World}{tv:Value}{T:List (Value × Nat × List Value)}(h:ThrD B w tv T)(hg:w.grownBy w' none):ThrD B w' tv T:=
 ⟨iD h.row hg (fun _ e=>by cases e),fun x hx=>⟨iD (h.el x hx).1 hg (fun _ e=>by cases e),(h.el x hx).2⟩,h.dis⟩
theorem DQ{L B:Nat}{w:World}{tv:Value}{p:List (List Ins)}(h:ThrAt L B w tv p)(s:∀ c∈p,c.length<=900):∃ T,T.length=p.length/\ThrD L w tv T:=by
 obtain⟨rows,d,l,m,q⟩:=h;have k:rows.length=p.length:=by have:=d.1;omega
 have b:(List.zipWith (fun(v:Value) (c:List Ins)=>(v,c.length,jk c)) rows p).length=p.length:=by simp [k]
 have o:(List.zipWith (fun(v:Value) (c:List Ins)=>(v,c.length,jk c)) rows p).map (·.1)=rows:=by
  apply List.ext_getElem
  ·simp [k]
  ·intro i d l;simp
 refine⟨_,b,⟨?_,fun x hx=>?_,fun i j hi a hij g e e'=>?_⟩⟩
 ·rw [b,o];exact d
 ·obtain⟨j,a,rfl⟩:=List.getElem_of_mem hx;rw [b]at a;obtain⟨rv,f,n,_⟩:=m j a;simp only [List.getElem_zipWith];have r:rows[j]'(by omega)=rv:=by
   rw [List.getElem?_eq_getElem (by omega)]at f;simpa using f
  rw [r];exact⟨n,s _ (List.getElem_mem a)⟩
 ·simp only [List.getElem_zipWith]at e e';rw [b]at hi a;exact q i j _ _ hij (List.getElem?_eq_getElem (by omega)) (List.getElem?_eq_getElem (by omega)) g e e'
def jO(s:ByteArray):Art × Int:=match ki (byt s)with
 | none=>(⟨[],[],(0,0,0)⟩,3)
 | some a=>(a,0)
theorem oU{s:ByteArray}(h:ki (byt s)=none):jO s=(⟨[],[],(0,0,0)⟩,3):=by unfold jO;rw [h]
theorem oF{s:ByteArray}{a:Art}(h:ki (byt s)=some a):jO s=(a,0):=by unfold jO;rw [h]
theorem vF(s:ByteArray):(jO s).1.prog.length<=4/\(∀ c∈(jO s).1.prog,c.length<=16)/\(jO s).1.sch.length<=500:=by
 cases h:ki (byt s)with
 | none=>rw [oU h];simp
 | some a=>
  rw [oF h];obtain⟨d,e,_⟩:=qW (ul (fun b hb=>vc s b hb) h).2;simp only [iU,Bool.and_eq_true,decide_eq_true_eq,List.all_eq_true]at d;simp only [jc,Bool.and_eq_true,decide_eq_true_eq]at e;refine⟨d.2.1,fun c hc=>?_,e.1⟩;have f:=d.2.2 c hc;simp only [kT,Bool.and_eq_true,decide_eq_true_eq]at f;exact f.1
theorem DecS.form{w w':World}{L:Nat}{s:ByteArray}{e:Ending}(h:DecS w L s e w'):w.grownBy w' none/\∃ tv sv,e= .returned (.tuple #[.agg #[tv,sv,.int .i64 (jO s).1.ver.1,.int .i64 (jO s).1.ver.2.1,.int .i64 (jO s).1.ver.2.2],.int .i64 (jO s).2])/\ThrAt L w'.heap.size w' tv (jO s).1.prog/\w'.ownsRow L 3 1 sv (jO s).1.sch.length (iL (jO s).1.sch):=by
 obtain⟨b,h⟩:=h;refine⟨b,?_⟩;rcases h with ⟨h0,rfl⟩ | ⟨a,tv,sv,h0,rfl,ht,ho⟩
 ·rw [oU h0];exact⟨_,_,rfl,⟨[],⟨rfl,Or.inl ⟨rfl,rfl⟩⟩,fun h e=>(by cases e),fun j hj=>absurd hj (Nat.not_lt_zero j),Apt.nil⟩,⟨rfl,Or.inl ⟨rfl,rfl⟩⟩⟩
 ·rw [oF h0];exact⟨_,_,rfl,ht,ho⟩
theorem RDec.form{w w':World}{s:ByteArray}{e:Ending}(h:RDec w s e w'):w.grownBy w' none/\∃ tv sv,e= .returned (.tuple #[.agg #[tv,sv,.int .i64 (jO s).1.ver.1,.int .i64 (jO s).1.ver.2.1,.int .i64 (jO s).1.ver.2.2],.int .i64 (jO s).2])/\ProgAt w' (.agg #[tv]) (jO s).1.prog/\IntsAt w'.heap.size w' sv (jO s).1.sch:=by
 obtain⟨b,h⟩:=h;refine⟨b,?_⟩;rcases h with ⟨h0,rfl⟩ | ⟨a,tv,sv,h0,rfl,hp,hi⟩
 ·rw [oU h0];exact⟨_,_,rfl,⟨none,0,rfl,fun k hk=>absurd hk (Nat.not_lt_zero k)⟩,⟨none,0,rfl,Nat.le_refl _,fun k hk=>absurd hk (Nat.not_lt_zero k)⟩⟩
 ·rw [oF h0];exact⟨_,_,rfl,hp,hi⟩
def HzD(W:World)(B b:Nat)(n:Int)(K:Nat->List (Value × Int))(e:Ending)(w':World):Prop:=
 e= .returned (.bool true)/\∃ n' who' f' K',n<=n'/\n'<=n+6/\Hz B w' b who' n' f' K'/\W.grownBy w' none/\∀ c,c<5->(K' c).length<=(K c).length+16
end
section
open Go.RowKit
attribute [local go_sem] Go.World.cell?_alloc_some
theorem yX{w w':World}(h:w.drew.grownBy w' none):w.grownBy w' none:=⟨h.os,h.tape,h.output,h.size,h.block⟩
theorem sN{w:World}{a:Option Addr}{f:Nat}{p:List (List Ins)}(h:ProgAt w (.agg #[.slice a p.length f]) p){t:Nat}(d:t<p.length):∃ g o,a=some ⟨g,o,none⟩/\∃ rv,w.cell? ⟨g,o+t,none⟩=some rv/\CodeAt w rv p[t]:=by
 obtain⟨ao',cap',e,i⟩:=h;simp only [Value.agg.injEq,Array.mk.injEq,List.cons.injEq,Value.slice.injEq,and_true,true_and]at e;obtain⟨g,o,b,rv,j,c⟩:=i t d;exact⟨g,o,by rw [e.1];exact b,rv,j,c⟩
theorem tH(p:List (List Ins))(a b:Value)(w:World)(K:ProgAt w a p)(E:ProgAt w b p)(hpl:p.length<=1000)(O:∀ c∈p,c.length<=4398046510976):
  Calls Tryz.prog 43 #[a,b] w fun e w'=>e= .returned (.bool true)/\w.grownBy w' none:=by
 obtain⟨z,q,rfl⟩:=K.form;obtain⟨B,o,rfl⟩:=E.form;have HA:=ij K;have HB:=ij E;have ae:=ij O;have qp:(p.length:Int)<=1000:=by omega
 clear K E O;go_enter Tryz.func43,Tryz.ntmps43
 go_upto_region 1 with fail
 obtain⟨f,s⟩:∃ f,f=(w.alloc (.cells #[.slice z p.length q] 37)).alloc (.cells #[.slice B p.length o] 37):=⟨_,rfl⟩;rw [<-s];have r:Hid (w.grownBy f none):=by unfold Hid;rw [s];exact iq (iq (ir _ _))
 have L:f.cell? ⟨w.heap.size,0,none⟩=some (.slice z p.length q):=by
  have C:f.heap[w.heap.size]?=some (.cells #[.slice z p.length q] 37 (0,0)):=by rw [s,Below.heap_alloc _ _ _ (by simp)];exact heap_alloc_new w _
  simp [World.cell?,C]
 have Y:f.cell? ⟨w.heap.size+1,0,none⟩=some (.slice B p.length o):=by
  have C:f.heap[w.heap.size+1]?=some (.cells #[.slice B p.length o] 37 (0,0)):=by
   have:=heap_alloc_new (w.alloc (.cells #[.slice z p.length q] 37)) (.cells #[.slice B p.length o] 37);rw [s];simpa using this
  simp [World.cell?,C]
 clear s;generalize w.heap.size=n2 at*;have Z:=ij L;have ak:=ij Y;go_wp2_with fail
 clear L Y;go_loopw [5] (fun iv w'=>∃ t:Nat,t<=p.length/\iv= .int .i64 t/\Hid (f.grownBy w' none)) (fun iv _=>p.length - (intOf iv).toNat)
 case atStart=>exact⟨0,Nat.zero_le _,rfl,ij (ir _ _)⟩
 case round=>
  obtain⟨t,ht,rfl,n⟩:=hrel;obtain⟨J,U⟩:∃ J,J=wr:=⟨_,rfl⟩;rw [<-U]at n ⊢;clear U;have k2:=ip n.out _ _ Z.out;by_cases I:t<p.length
  ·have q0:(0:Int)<=(t:Int):=by omega
   have q1:(t:Int)<p.length:=by omega
   obtain⟨v,A,rfl,rv,V,Q⟩:=sN HA.out I;obtain⟨x,y,rfl,rw',R,N⟩:=sN HB.out I;have hcl:=ae.out _ (List.getElem_mem I);have ac:=ij Q;have af:=ij N;obtain⟨H,D,ad,_⟩:=Q;obtain⟨F,G,ah,_⟩:=N;subst ad ah;generalize p[t]=c at*;have S:Hid (∀ u,f.grownBy u none->u.cell? ⟨n2,0,none⟩=some (.slice (some ⟨v,A,none⟩) p.length q)/\u.cell? ⟨n2+1,0,none⟩=some (.slice (some ⟨x,y,none⟩) p.length o)/\u.cell? ⟨v,A+t,none⟩=some (.slice H c.length D)/\u.cell? ⟨x,y+t,none⟩=some (.slice F c.length G)):=fun u hu=>⟨ip hu _ _ Z.out,ip hu _ _ ak.out,ip (il r.out hu) _ _ V,ip (il r.out hu) _ _ R⟩
   have aj:=ij (fun u hu=>pB c (.slice H c.length D) (.slice F c.length G) u (ac.out.pres (ip (il r.out hu))) (af.out.pres (ip (il r.out hu))) hcl);have W:=S.out J.drew (iy n.out);clear V R;go_upto_region 6 with fail
   refine iz (fun u=>u.cell? ⟨n2,0,none⟩=some (.slice (some ⟨v,A,none⟩) p.length q)/\u.cell? ⟨n2+1,0,none⟩=some (.slice (some ⟨x,y,none⟩) p.length o)/\u.cell? ⟨v,A+t,none⟩=some (.slice H c.length D)/\u.cell? ⟨x,y+t,none⟩=some (.slice F c.length G)) 11 (by kernel_rfl) (by kernel_rfl) W ?_;intro d;refine gJ 0 ?v0 rfl (by kernel_rfl) (fun _ _ _ h=>h) (by kernel_rfl) ?y0 d ?_
   case y0=>(rintro u ⟨j,l,k,m⟩;go_simp;try rfl)
   simp only [Act.put,List.setIfInBounds_toArray];refine gJ 1 ?v1 rfl (by kernel_rfl) (fun _ _ _ h=>h) (by kernel_rfl) ?y1 d ?_
   case y1=>(rintro u ⟨j,l,k,m⟩;go_simp;try rfl)
   simp only [Act.put];refine gJ 2 ?v2 rfl (by kernel_rfl) (fun _ _ _ h=>h) (by kernel_rfl) ?y2 d ?_
   case y2=>(rintro u ⟨j,l,k,m⟩;go_simp;try rfl)
   simp only [Act.put];refine gJ 3 ?v3 rfl (by kernel_rfl) (fun _ _ _ h=>h) (by kernel_rfl) ?y3 d ?_
   case y3=>(rintro u ⟨j,l,k,m⟩;go_simp;try rfl)
   simp only [Act.put];refine gJ 4 ?v4 rfl (by kernel_rfl) (fun _ _ _ h=>h) (by kernel_rfl) ?y4 d ?_
   case y4=>(rintro u ⟨j,l,k,m⟩;go_simp;try rfl)
   simp only [Act.put];refine gJ 5 ?v5 rfl (by kernel_rfl) (fun _ _ _ h=>h) (by kernel_rfl) ?y5 d ?_
   case y5=>(rintro u ⟨j,l,k,m⟩;go_simp;try rfl)
   simp only [Act.put];refine gJ 6 ?v6 rfl (by kernel_rfl) (fun _ _ _ h=>h) (by kernel_rfl) ?y6 d ?_
   case y6=>(rintro u ⟨j,l,k,m⟩;go_simp;try rfl)
   simp only [Act.put];refine gJ 7 ?v7 rfl (by kernel_rfl) (fun _ _ _ h=>h) (by kernel_rfl) ?y7 d ?_
   case y7=>(rintro u ⟨j,l,k,m⟩;go_simp;try rfl)
   simp only [Act.put];refine gJ 8 ?v8 rfl (by kernel_rfl) (fun _ _ _ h=>h) (by kernel_rfl) ?y8 d ?_
   case y8=>(rintro u ⟨j,l,k,m⟩;go_simp;try rfl)
   simp only [Act.put];refine gJ 9 ?v9 rfl (by kernel_rfl) (fun _ _ _ h=>h) (by kernel_rfl) ?y9 d ?_
   case y9=>(rintro u ⟨j,l,k,m⟩;go_simp;try rfl)
   simp only [Act.put];refine iu (i:=10) rfl (by kernel_rfl) (by kernel_rfl) (by kernel_rfl) ?_;intro K10 P;have ab:=ij P;clear P;go_simp;refine(aj.out _ (iy n.out)).mono ?_;rintro e w3 ⟨rfl,X⟩;have T:Hid (f.grownBy w3 none):=il n.out (yX (iK X));have M:=S.out w3 T.out;refine ab.out _ _ M ?_;clear ab X;try simp only [Act.put,List.setIfInBounds_toArray]
   refine iH rfl (by kernel_rfl) (by kernel_rfl) (by kernel_rfl) ?_;go_simp;clear d M W k2;go_wp2_with fail
   go_roundw
   case rel=>exact⟨t+1,by omega,by go_num,T⟩
   case measure=>simp [intOf]<;>omega
  ·have q1:(p.length:Int)<=(t:Int):=by omega
   go_wp2_with fail
   go_ret;exact⟨rfl,il r.out n.out⟩
structure WrL(W w:World)(b:Nat)(bv:Value)(l:List Nat)(T c:Nat)(vs:Array Value):Prop where
 wr:WrS W w b bv l
 var:w.heap[c]?=some (.cells vs T (0,0))
 cb:c≠b
 co:bv.ownBlock≠some c
theorem WrL.call{W w w':World}{b T c:Nat}{i a:Value}{l j:List Nat}{f:Array Value}(h:WrL W w b i l T c f)(k:WrS W w' b a j)(d:WrT w w' b i a):WrL W w' b a j T c f:=by
 have hc:=(Array.getElem?_eq_some_iff.1 h.var).1;refine⟨k,by rw [d.keep c hc h.cb h.co];exact h.var,h.cb,fun e=>?_⟩;rcases d.own c e with e | e
 ·exact h.co e
 ·omega
theorem WrL.cell{W w:World}{b T c:Nat}{d:Value}{l:List Nat}{a:Array Value}(h:WrL W w b d l T c a)(o:Nat):w.cell? ⟨c,o,none⟩=a[o]?:=by
 have:=h.var;simp [World.cell?,this]
theorem WrL.start{W w:World}{b:Nat}{a:Value}{l:List Nat}(h:WrS W w b a l)(T:Nat)(c:Array Value):WrL W (w.alloc (.cells c T)) b a l T w.heap.size c:=by
 have hb:=h.lt;refine⟨h.grown (iq (ir _ _)),heap_alloc_new _ _,by omega,fun e=>?_⟩;have:=h.row.lt _ e;omega
theorem AH(W:World)(b:Nat)(v:Int × Int × Int)(t:0<=v.1/\v.1<=9223372036854775807)(o:0<=v.2.1/\v.2.1<=9223372036854775807)(q:0<=v.2.2/\v.2.2<=9223372036854775807)
  (w:World) (j:Value) (l:List Nat) (h:WrS W w b j l) (hl:l.length<=900000):
  Calls Tryz.prog 94 #[pt b,.agg #[.int .i64 v.1,.int .i64 v.2.1,.int .i64 v.2.2]] w (uy W w b j (l++mJ v)):=by
 obtain⟨x,y,z⟩:=v;simp only at t o q ⊢;have J:=ij h;have I:pt b= .pointer (some ⟨b,0,none⟩):=rfl;rw [I]at*;clear h;go_enter Tryz.func94,Tryz.ntmps94
 go_wp2_with fail
 have m:=WrL.start J.out 26 #[.int .i64 x,.int .i64 y,.int .i64 z];have p:WrT w (w.alloc (.cells #[.int .i64 x,.int .i64 y,.int .i64 z] 26)) b j j:=(WrT.refl _ _ _).grown (iq (ir _ _));generalize w.alloc (.cells #[.int .i64 x,.int .i64 y,.int .i64 z] 26)=w1 at m p ⊢;refine(mh W b x t.1 t.2 w1 j (l) m.wr (by omega)).mono ?_;rintro e x1 ⟨⟨v1,rfl⟩,K,C,u⟩;have f:=m.call C u;have i:=p.trans u;have c1:x1.cell? ⟨w.heap.size,1,none⟩=some (.int .i64 y):=by simpa using f.cell 1
 have c:=ij f;have a:=ij i;clear f i m p C u;go_wp2_with fail
 have f:=c.out;have i:=a.out;clear c a c1;refine(mh W b y o.1 o.2 x1 K (l++jw x) f.wr (by simp [jw];have:=mL (n:=x.toNat) (by omega);omega)).mono ?_;rintro e x2 ⟨⟨v2,rfl⟩,G,E,r⟩;have d:=f.call E r;have k:=i.trans r;have F:x2.cell? ⟨w.heap.size,2,none⟩=some (.int .i64 z):=by simpa using d.cell 2
 have c:=ij d;have a:=ij k;clear d k f i E r;go_wp2_with fail
 have d:=c.out;have k:=a.out;clear c a F;refine(mh W b z q.1 q.2 x2 G (l++jw x++jw y) d.wr (by simp [jw];have:=mL (n:=x.toNat) (by omega);have:=mL (n:=y.toNat) (by omega);omega)).mono ?_;rintro e x3 ⟨⟨v3,rfl⟩,H,B,s⟩;have A:=d.call B s;have D:=k.trans s;have c:=ij A.wr;have a:=ij D;clear A D d k B s;go_wp2_with fail
 go_end0
 refine⟨⟨_,rfl⟩,H,?_,a.out⟩;have:=c.out;unfold mJ;simpa using this
theorem DR(W:World)(b:Nat)(w:World)(Z:Value)(l:List Nat)(h:WrS W w b Z l)(hl:l.length<=900000)(U:∀ x∈l,x<256):
  Calls Tryz.prog 95 #[pt b] w (uy W w b Z (l++leB 4 (lz l))):=by
 have HH:=ij h;have ac:pt b= .pointer (some ⟨b,0,none⟩):=rfl;rw [ac]at*;have c0:=h.cell;have cv:=h.row.str;have M:=ij (uD (bs l) w (by rw [rY];omega));rw [yH U]at M;have hC:=zL l U;generalize lz l=C at*;obtain⟨x1,x3,rfl⟩:=h.row.form;clear h U ac;go_enter Tryz.func95,Tryz.ntmps95
 go_wp2_with (go_at_call 135;refine M.out.mono ?_;rintro e w2 ⟨rfl,R⟩;have Y:=ij (HH.out.grown (iK R));have aa:=ij ((WrT.refl w b (.slice x1 l.length x3)).grown (iK R));clear R)
 clear c0 cv;go_loopw [10] (fun i w'=>∃ (j:Nat) (bv':Value),j<=4/\i= .int .i64 j/\Hid (WrS W w' b bv' (l++(leB 4 C).take j))/\Hid (WrT w w' b (.slice x1 l.length x3) bv')) (fun i _=>4 - (intOf i).toNat)
 case atStart=>exact⟨0,_,by omega,rfl,ij (by simpa using Y.out),aa⟩
 case round=>
  clear HH Y aa M;obtain⟨j,ag,hj,rfl,k,K⟩:=hrel;obtain⟨c,ab⟩:∃ c,c=wr:=⟨_,rfl⟩;rw [<-ab]at k K ⊢;clear ab;have af:j=0\/j=1\/j=2\/j=3\/j=4:=by omega
  rcases af with rfl | rfl | rfl | rfl | rfl
  ·have HX:Hid ((leB 4 C).take 1=(leB 4 C).take 0++[C % 256]):=by unfold Hid;simp [leB,Nat.div_div_eq_div_mul]
   have T:IntKind.i64.wrap 0=0:=by decide
   have V:IntKind.u8.wrap ((C:Int))=((C % 256:Nat):Int):=by rw [IntKind.wrap_u8'];omega
   have N:(l++(leB 4 C).take 0).length<=1000000:=by simp;omega
   generalize C % 256=y at*;generalize A:l++(leB 4 C).take 0=L at*;have F:=ij A;clear A;obtain⟨d,f,rfl⟩:=k.out.row.form;have I:c.cell? ⟨b,0,none⟩=some (.slice d L.length f):=k.out.cell;go_wp2_with fail
   refine iz (fun u=>u.cell? ⟨b,0,none⟩=some (.slice d L.length f)) 14 (by kernel_rfl) (by kernel_rfl) ?_ ?_
   ·simp [go_sem,I]
   intro Q;refine gJ 0 ?v0_1 rfl (by kernel_rfl) (fun _ _ _ h=>h) (by rfl) ?y0_1 (by assumption) ?_
   case y0_1=>(intro u a;go_simp;try rfl)
   simp only [Act.put,List.setIfInBounds_toArray];refine gJ 1 ?v1_2 rfl (by kernel_rfl) (fun _ _ _ h=>h) (by rfl) ?y1_2 (by assumption) ?_
   case y1_2=>(intro u a;go_simp;try rfl)
   simp only [Act.put];refine gJ 2 ?v2_3 rfl (by kernel_rfl) (fun _ _ _ h=>h) (by rfl) ?y2_3 (by assumption) ?_
   case y2_3=>(intro u a;go_simp;try rfl)
   simp only [Act.put];refine gJ 3 ?v3_4 rfl (by kernel_rfl) (fun _ _ _ h=>h) (by rfl) ?y3_4 (by assumption) ?_
   case y3_4=>(intro u a;go_simp;try rfl)
   simp only [Act.put];refine gJ 4 ?v4_5 rfl (by kernel_rfl) (fun _ _ _ h=>h) (by rfl) ?y4_5 (by assumption) ?_
   case y4_5=>(intro u a;go_simp;try rfl)
   simp only [Act.put];refine gJ 5 ?v5_6 rfl (by kernel_rfl) (fun _ _ _ h=>h) (by rfl) ?y5_6 (by assumption) ?_
   case y5_6=>(intro u a;go_simp;try rfl)
   simp only [Act.put];refine gJ 6 ?v6_7 rfl (by kernel_rfl) (fun _ _ _ h=>h) (by rfl) ?y6_7 (by assumption) ?_
   case y6_7=>(intro u a;go_simp;try rfl)
   simp only [Act.put];refine gJ 7 ?v7_8 rfl (by kernel_rfl) (fun _ _ _ h=>h) (by rfl) ?y7_8 (by assumption) ?_
   case y7_8=>(intro u a;go_simp;try rfl)
   simp only [Act.put];refine gJ 8 ?v8_9 rfl (by kernel_rfl) (fun _ _ _ h=>h) (by rfl) ?y8_9 (by assumption) ?_
   case y8_9=>(intro u a;go_simp;try rfl)
   simp only [Act.put];refine gJ 9 ?v9_10 rfl (by kernel_rfl) (fun _ _ _ h=>h) (by rfl) ?y9_10 (by assumption) ?_
   case y9_10=>(intro u a;go_simp;try rfl)
   simp only [Act.put];have m:Hid (WrS W c.drew b (.slice d L.length f) L):=k.out.grown (iy (ir _ _));have D:Hid (WrT w c.drew b (.slice x1 l.length x3) (.slice d L.length f)):=K.out.grown (iy (ir _ _));have O:W.heap.size<=c.heap.size:=k.out.base.size;refine iu (i:=10) rfl (by kernel_rfl) (by kernel_rfl) (by rfl) ?_;intro X n;have z:=ij n;clear n;go_simp;refine z.out _ _ (ip (iq (ir _ _)) _ _ m.out.cell) ?_;clear z;try simp only [Act.put,List.setIfInBounds_toArray]
   refine iu (i:=11) rfl (by kernel_rfl) (by kernel_rfl) (by rfl) ?_;intro S s;have o:=ij s;clear s;refine mT _ (.tmp 17) (.tmp 23) (by rfl) W.heap.size (.slice d L.length f) L.length (u8s L) (by rfl) m.out.row.alloc c.heap.size (.int .u8 (y:Int)) (by rfl) (heap_alloc_new c.drew _) rfl (by omega) (by simp;omega) (c.heap.size+1) (by simp) ?_;intro g6 q w6 p t B H;obtain⟨v,G,P,r⟩:=m.out.push p t B;have E:Hid (WrS W (w6.setCell ⟨b,0,none⟩ (.slice (some ⟨g6,0,none⟩) (L.length+1) q)) b (.slice (some ⟨g6,0,none⟩) (L.length+1) q) (l++(leB 4 C).take 1)):=by
    unfold Hid;rw [HX.out,<-List.append_assoc,F.out];exact v
   have J:=ij (D.out.trans r);clear v r p t B H;refine o.out _ _ G ?_;clear o;try simp only [Act.put,List.setIfInBounds_toArray]
   refine gJ 12 ?v12_0b rfl (by kernel_rfl) (fun _ _ _ h=>h) (by rfl) ?y12_0b (by assumption) ?_
   case y12_0b=>(intro u a;go_simp;try rfl)
   simp only [Act.put];refine gJ 13 ?v13_0b rfl (by kernel_rfl) (fun _ _ _ h=>h) (by rfl) ?y13_0b (by assumption) ?_
   case y13_0b=>(intro u a;go_simp;try rfl)
   simp only [Act.put];refine iH rfl (by kernel_rfl) (by kernel_rfl) (by rfl) ?_;go_simp;go_wp2
   go_roundw
   case rel=>exact⟨1,_,by omega,by first | rfl | go_num,E,J⟩
   case measure=>simp [intOf]
  ·have HX:Hid ((leB 4 C).take 2=(leB 4 C).take 1++[C / 256 % 256]):=by unfold Hid;simp [leB,Nat.div_div_eq_div_mul]
   have T:IntKind.i64.wrap 8=8:=by decide
   have V:IntKind.u8.wrap ((C:Int) / 256)=((C / 256 % 256:Nat):Int):=by rw [IntKind.wrap_u8'];omega
   have N:(l++(leB 4 C).take 1).length<=1000000:=by simp [pj];omega
   generalize C / 256 % 256=y at*;generalize A:l++(leB 4 C).take 1=L at*;have F:=ij A;clear A;obtain⟨d,f,rfl⟩:=k.out.row.form;have I:c.cell? ⟨b,0,none⟩=some (.slice d L.length f):=k.out.cell;go_wp2_with fail
   refine iz (fun u=>u.cell? ⟨b,0,none⟩=some (.slice d L.length f)) 14 (by kernel_rfl) (by kernel_rfl) ?_ ?_
   ·simp [go_sem,I]
   intro Q;refine gJ 0 ?v0_11 rfl (by kernel_rfl) (fun _ _ _ h=>h) (by rfl) ?y0_11 (by assumption) ?_
   case y0_11=>(intro u a;go_simp;try rfl)
   simp only [Act.put,List.setIfInBounds_toArray];refine gJ 1 ?v1_12 rfl (by kernel_rfl) (fun _ _ _ h=>h) (by rfl) ?y1_12 (by assumption) ?_
   case y1_12=>(intro u a;go_simp;try rfl)
   simp only [Act.put];refine gJ 2 ?v2_13 rfl (by kernel_rfl) (fun _ _ _ h=>h) (by rfl) ?y2_13 (by assumption) ?_
   case y2_13=>(intro u a;go_simp;try rfl)
   simp only [Act.put];refine gJ 3 ?v3_14 rfl (by kernel_rfl) (fun _ _ _ h=>h) (by rfl) ?y3_14 (by assumption) ?_
   case y3_14=>(intro u a;go_simp;try rfl)
   simp only [Act.put];refine gJ 4 ?v4_15 rfl (by kernel_rfl) (fun _ _ _ h=>h) (by rfl) ?y4_15 (by assumption) ?_
   case y4_15=>(intro u a;go_simp;try rfl)
   simp only [Act.put];refine gJ 5 ?v5_16 rfl (by kernel_rfl) (fun _ _ _ h=>h) (by rfl) ?y5_16 (by assumption) ?_
   case y5_16=>(intro u a;go_simp;try rfl)
   simp only [Act.put];refine gJ 6 ?v6_17 rfl (by kernel_rfl) (fun _ _ _ h=>h) (by rfl) ?y6_17 (by assumption) ?_
   case y6_17=>(intro u a;go_simp;try rfl)
   simp only [Act.put];refine gJ 7 ?v7_18 rfl (by kernel_rfl) (fun _ _ _ h=>h) (by rfl) ?y7_18 (by assumption) ?_
   case y7_18=>(intro u a;go_simp;try rfl)
   simp only [Act.put];refine gJ 8 ?v8_19 rfl (by kernel_rfl) (fun _ _ _ h=>h) (by rfl) ?y8_19 (by assumption) ?_
   case y8_19=>(intro u a;go_simp;try rfl)
   simp only [Act.put];refine gJ 9 ?v9_20 rfl (by kernel_rfl) (fun _ _ _ h=>h) (by rfl) ?y9_20 (by assumption) ?_
   case y9_20=>(intro u a;go_simp;try rfl)
   simp only [Act.put];have m:Hid (WrS W c.drew b (.slice d L.length f) L):=k.out.grown (iy (ir _ _));have D:Hid (WrT w c.drew b (.slice x1 l.length x3) (.slice d L.length f)):=K.out.grown (iy (ir _ _));have O:W.heap.size<=c.heap.size:=k.out.base.size;refine iu (i:=10) rfl (by kernel_rfl) (by kernel_rfl) (by rfl) ?_;intro X n;have z:=ij n;clear n;go_simp;refine z.out _ _ (ip (iq (ir _ _)) _ _ m.out.cell) ?_;clear z;try simp only [Act.put,List.setIfInBounds_toArray]
   refine iu (i:=11) rfl (by kernel_rfl) (by kernel_rfl) (by rfl) ?_;intro S s;have o:=ij s;clear s;refine mT _ (.tmp 17) (.tmp 23) (by rfl) W.heap.size (.slice d L.length f) L.length (u8s L) (by rfl) m.out.row.alloc c.heap.size (.int .u8 (y:Int)) (by rfl) (heap_alloc_new c.drew _) rfl (by omega) (by simp;omega) (c.heap.size+1) (by simp) ?_;intro g6 q w6 p t B H;obtain⟨v,G,P,r⟩:=m.out.push p t B;have E:Hid (WrS W (w6.setCell ⟨b,0,none⟩ (.slice (some ⟨g6,0,none⟩) (L.length+1) q)) b (.slice (some ⟨g6,0,none⟩) (L.length+1) q) (l++(leB 4 C).take 2)):=by
    unfold Hid;rw [HX.out,<-List.append_assoc,F.out];exact v
   have J:=ij (D.out.trans r);clear v r p t B H;refine o.out _ _ G ?_;clear o;try simp only [Act.put,List.setIfInBounds_toArray]
   refine gJ 12 ?v12_1b rfl (by kernel_rfl) (fun _ _ _ h=>h) (by rfl) ?y12_1b (by assumption) ?_
   case y12_1b=>(intro u a;go_simp;try rfl)
   simp only [Act.put];refine gJ 13 ?v13_1b rfl (by kernel_rfl) (fun _ _ _ h=>h) (by rfl) ?y13_1b (by assumption) ?_
   case y13_1b=>(intro u a;go_simp;try rfl)
   simp only [Act.put];refine iH rfl (by kernel_rfl) (by kernel_rfl) (by rfl) ?_;go_simp;go_wp2
   go_roundw
   case rel=>exact⟨2,_,by omega,by first | rfl | go_num,E,J⟩
   case measure=>simp [intOf]
  ·have HX:Hid ((leB 4 C).take 3=(leB 4 C).take 2++[C / 65536 % 256]):=by unfold Hid;simp [leB,Nat.div_div_eq_div_mul]
   have T:IntKind.i64.wrap 16=16:=by decide
   have V:IntKind.u8.wrap ((C:Int) / 65536)=((C / 65536 % 256:Nat):Int):=by rw [IntKind.wrap_u8'];omega
   have N:(l++(leB 4 C).take 2).length<=1000000:=by simp [pj];omega
   generalize C / 65536 % 256=y at*;generalize A:l++(leB 4 C).take 2=L at*;have F:=ij A;clear A;obtain⟨d,f,rfl⟩:=k.out.row.form;have I:c.cell? ⟨b,0,none⟩=some (.slice d L.length f):=k.out.cell;go_wp2_with fail
   refine iz (fun u=>u.cell? ⟨b,0,none⟩=some (.slice d L.length f)) 14 (by kernel_rfl) (by kernel_rfl) ?_ ?_
   ·simp [go_sem,I]
   intro Q;refine gJ 0 ?v0_21 rfl (by kernel_rfl) (fun _ _ _ h=>h) (by rfl) ?y0_21 (by assumption) ?_
   case y0_21=>(intro u a;go_simp;try rfl)
   simp only [Act.put,List.setIfInBounds_toArray];refine gJ 1 ?v1_22 rfl (by kernel_rfl) (fun _ _ _ h=>h) (by rfl) ?y1_22 (by assumption) ?_
   case y1_22=>(intro u a;go_simp;try rfl)
   simp only [Act.put];refine gJ 2 ?v2_23 rfl (by kernel_rfl) (fun _ _ _ h=>h) (by rfl) ?y2_23 (by assumption) ?_
   case y2_23=>(intro u a;go_simp;try rfl)
   simp only [Act.put];refine gJ 3 ?v3_24 rfl (by kernel_rfl) (fun _ _ _ h=>h) (by rfl) ?y3_24 (by assumption) ?_
   case y3_24=>(intro u a;go_simp;try rfl)
   simp only [Act.put];refine gJ 4 ?v4_25 rfl (by kernel_rfl) (fun _ _ _ h=>h) (by rfl) ?y4_25 (by assumption) ?_
   case y4_25=>(intro u a;go_simp;try rfl)
   simp only [Act.put];refine gJ 5 ?v5_26 rfl (by kernel_rfl) (fun _ _ _ h=>h) (by rfl) ?y5_26 (by assumption) ?_
   case y5_26=>(intro u a;go_simp;try rfl)
   simp only [Act.put];refine gJ 6 ?v6_27 rfl (by kernel_rfl) (fun _ _ _ h=>h) (by rfl) ?y6_27 (by assumption) ?_
   case y6_27=>(intro u a;go_simp;try rfl)
   simp only [Act.put];refine gJ 7 ?v7_28 rfl (by kernel_rfl) (fun _ _ _ h=>h) (by rfl) ?y7_28 (by assumption) ?_
   case y7_28=>(intro u a;go_simp;try rfl)
   simp only [Act.put];refine gJ 8 ?v8_29 rfl (by kernel_rfl) (fun _ _ _ h=>h) (by rfl) ?y8_29 (by assumption) ?_
   case y8_29=>(intro u a;go_simp;try rfl)
   simp only [Act.put];refine gJ 9 ?v9_30 rfl (by kernel_rfl) (fun _ _ _ h=>h) (by rfl) ?y9_30 (by assumption) ?_
   case y9_30=>(intro u a;go_simp;try rfl)
   simp only [Act.put];have m:Hid (WrS W c.drew b (.slice d L.length f) L):=k.out.grown (iy (ir _ _));have D:Hid (WrT w c.drew b (.slice x1 l.length x3) (.slice d L.length f)):=K.out.grown (iy (ir _ _));have O:W.heap.size<=c.heap.size:=k.out.base.size;refine iu (i:=10) rfl (by kernel_rfl) (by kernel_rfl) (by rfl) ?_;intro X n;have z:=ij n;clear n;go_simp;refine z.out _ _ (ip (iq (ir _ _)) _ _ m.out.cell) ?_;clear z;try simp only [Act.put,List.setIfInBounds_toArray]
   refine iu (i:=11) rfl (by kernel_rfl) (by kernel_rfl) (by rfl) ?_;intro S s;have o:=ij s;clear s;refine mT _ (.tmp 17) (.tmp 23) (by rfl) W.heap.size (.slice d L.length f) L.length (u8s L) (by rfl) m.out.row.alloc c.heap.size (.int .u8 (y:Int)) (by rfl) (heap_alloc_new c.drew _) rfl (by omega) (by simp;omega) (c.heap.size+1) (by simp) ?_;intro g6 q w6 p t B H;obtain⟨v,G,P,r⟩:=m.out.push p t B;have E:Hid (WrS W (w6.setCell ⟨b,0,none⟩ (.slice (some ⟨g6,0,none⟩) (L.length+1) q)) b (.slice (some ⟨g6,0,none⟩) (L.length+1) q) (l++(leB 4 C).take 3)):=by
    unfold Hid;rw [HX.out,<-List.append_assoc,F.out];exact v
   have J:=ij (D.out.trans r);clear v r p t B H;refine o.out _ _ G ?_;clear o;try simp only [Act.put,List.setIfInBounds_toArray]
   refine gJ 12 ?v12_2b rfl (by kernel_rfl) (fun _ _ _ h=>h) (by rfl) ?y12_2b (by assumption) ?_
   case y12_2b=>(intro u a;go_simp;try rfl)
   simp only [Act.put];refine gJ 13 ?v13_2b rfl (by kernel_rfl) (fun _ _ _ h=>h) (by rfl) ?y13_2b (by assumption) ?_
   case y13_2b=>(intro u a;go_simp;try rfl)
   simp only [Act.put];refine iH rfl (by kernel_rfl) (by kernel_rfl) (by rfl) ?_;go_simp;go_wp2
   go_roundw
   case rel=>exact⟨3,_,by omega,by first | rfl | go_num,E,J⟩
   case measure=>simp [intOf]
  ·have HX:Hid ((leB 4 C).take 4=(leB 4 C).take 3++[C / 16777216 % 256]):=by unfold Hid;simp [leB,Nat.div_div_eq_div_mul]
   have T:IntKind.i64.wrap 24=24:=by decide
   have V:IntKind.u8.wrap ((C:Int) / 16777216)=((C / 16777216 % 256:Nat):Int):=by rw [IntKind.wrap_u8'];omega
   have N:(l++(leB 4 C).take 3).length<=1000000:=by simp [pj];omega
   generalize C / 16777216 % 256=y at*;generalize A:l++(leB 4 C).take 3=L at*;have F:=ij A;clear A;obtain⟨d,f,rfl⟩:=k.out.row.form;have I:c.cell? ⟨b,0,none⟩=some (.slice d L.length f):=k.out.cell;go_wp2_with fail
   refine iz (fun u=>u.cell? ⟨b,0,none⟩=some (.slice d L.length f)) 14 (by kernel_rfl) (by kernel_rfl) ?_ ?_
   ·simp [go_sem,I]
   intro Q;refine gJ 0 ?v0_31 rfl (by kernel_rfl) (fun _ _ _ h=>h) (by rfl) ?y0_31 (by assumption) ?_
   case y0_31=>(intro u a;go_simp;try rfl)
   simp only [Act.put,List.setIfInBounds_toArray];refine gJ 1 ?v1_32 rfl (by kernel_rfl) (fun _ _ _ h=>h) (by rfl) ?y1_32 (by assumption) ?_
   case y1_32=>(intro u a;go_simp;try rfl)
   simp only [Act.put];refine gJ 2 ?v2_33 rfl (by kernel_rfl) (fun _ _ _ h=>h) (by rfl) ?y2_33 (by assumption) ?_
   case y2_33=>(intro u a;go_simp;try rfl)
   simp only [Act.put];refine gJ 3 ?v3_34 rfl (by kernel_rfl) (fun _ _ _ h=>h) (by rfl) ?y3_34 (by assumption) ?_
   case y3_34=>(intro u a;go_simp;try rfl)
   simp only [Act.put];refine gJ 4 ?v4_35 rfl (by kernel_rfl) (fun _ _ _ h=>h) (by rfl) ?y4_35 (by assumption) ?_
   case y4_35=>(intro u a;go_simp;try rfl)
   simp only [Act.put];refine gJ 5 ?v5_36 rfl (by kernel_rfl) (fun _ _ _ h=>h) (by rfl) ?y5_36 (by assumption) ?_
   case y5_36=>(intro u a;go_simp;try rfl)
   simp only [Act.put];refine gJ 6 ?v6_37 rfl (by kernel_rfl) (fun _ _ _ h=>h) (by rfl) ?y6_37 (by assumption) ?_
   case y6_37=>(intro u a;go_simp;try rfl)
   simp only [Act.put];refine gJ 7 ?v7_38 rfl (by kernel_rfl) (fun _ _ _ h=>h) (by rfl) ?y7_38 (by assumption) ?_
   case y7_38=>(intro u a;go_simp;try rfl)
   simp only [Act.put];refine gJ 8 ?v8_39 rfl (by kernel_rfl) (fun _ _ _ h=>h) (by rfl) ?y8_39 (by assumption) ?_
   case y8_39=>(intro u a;go_simp;try rfl)
   simp only [Act.put];refine gJ 9 ?v9_40 rfl (by kernel_rfl) (fun _ _ _ h=>h) (by rfl) ?y9_40 (by assumption) ?_
   case y9_40=>(intro u a;go_simp;try rfl)
   simp only [Act.put];have m:Hid (WrS W c.drew b (.slice d L.length f) L):=k.out.grown (iy (ir _ _));have D:Hid (WrT w c.drew b (.slice x1 l.length x3) (.slice d L.length f)):=K.out.grown (iy (ir _ _));have O:W.heap.size<=c.heap.size:=k.out.base.size;refine iu (i:=10) rfl (by kernel_rfl) (by kernel_rfl) (by rfl) ?_;intro X n;have z:=ij n;clear n;go_simp;refine z.out _ _ (ip (iq (ir _ _)) _ _ m.out.cell) ?_;clear z;try simp only [Act.put,List.setIfInBounds_toArray]
   refine iu (i:=11) rfl (by kernel_rfl) (by kernel_rfl) (by rfl) ?_;intro S s;have o:=ij s;clear s;refine mT _ (.tmp 17) (.tmp 23) (by rfl) W.heap.size (.slice d L.length f) L.length (u8s L) (by rfl) m.out.row.alloc c.heap.size (.int .u8 (y:Int)) (by rfl) (heap_alloc_new c.drew _) rfl (by omega) (by simp;omega) (c.heap.size+1) (by simp) ?_;intro g6 q w6 p t B H;obtain⟨v,G,P,r⟩:=m.out.push p t B;have E:Hid (WrS W (w6.setCell ⟨b,0,none⟩ (.slice (some ⟨g6,0,none⟩) (L.length+1) q)) b (.slice (some ⟨g6,0,none⟩) (L.length+1) q) (l++(leB 4 C).take 4)):=by
    unfold Hid;rw [HX.out,<-List.append_assoc,F.out];exact v
   have J:=ij (D.out.trans r);clear v r p t B H;refine o.out _ _ G ?_;clear o;try simp only [Act.put,List.setIfInBounds_toArray]
   refine gJ 12 ?v12_3b rfl (by kernel_rfl) (fun _ _ _ h=>h) (by rfl) ?y12_3b (by assumption) ?_
   case y12_3b=>(intro u a;go_simp;try rfl)
   simp only [Act.put];refine gJ 13 ?v13_3b rfl (by kernel_rfl) (fun _ _ _ h=>h) (by rfl) ?y13_3b (by assumption) ?_
   case y13_3b=>(intro u a;go_simp;try rfl)
   simp only [Act.put];refine iH rfl (by kernel_rfl) (by kernel_rfl) (by rfl) ?_;go_simp;go_wp2
   go_roundw
   case rel=>exact⟨4,_,by omega,by first | rfl | go_num,E,J⟩
   case measure=>simp [intOf]
  ·go_wp2_with fail
   go_end0
   refine⟨⟨_,rfl⟩,ag,?_,K.out⟩;have:=k.out;rwa [List.take_of_length_le (by rw [pj];exact Nat.le_refl _)]at this
end
end Go.Proofs.YtklenjmfalljgabGreatDoor
