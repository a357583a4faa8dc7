/- The texts RefG. -/
import Derived.Test.YtklenjmfalljgabGreatDoorM24
namespace Go.Proofs.YtklenjmfalljgabGreatDoor
set_option maxRecDepth 100000
set_option maxHeartbeats 8000000
section
open Go.RowKit
attribute [local go_sem] Go.World.cell?_alloc_some
def lenOf:Value->Nat
 | .slice _ n _=>n
 | _=>0
def dgs:ByteArray:=⟨#[48,49,50,51,52,53,54,55,56,57]⟩
theorem BD(k:Nat)(h:k<10):(dgs.extract k (k+1)).data.toList=[UInt8.ofNat (48+k)]:=by
 have:k=0\/k=1\/k=2\/k=3\/k=4\/k=5\/k=6\/k=7\/k=8\/k=9:=by omega
 rcases this with rfl | rfl | rfl | rfl | rfl | rfl | rfl | rfl | rfl | rfl<;>decide+kernel
def xO(n:Nat):List UInt8:=if n=0 then [] else Lib.decDigits n
theorem wq(n:Nat)(h:0<n):xO n=xO (n / 10)++[UInt8.ofNat (48+n % 10)]:=by
 unfold xO;rw [if_neg (by omega)];by_cases a:n<10
 ·rw [if_pos (by omega),Lib.decDigits,dif_pos a,Nat.mod_eq_of_lt a];rfl
 ·rw [if_neg (by omega)];conv=>lhs;rw [Lib.decDigits,dif_neg a]
theorem DA(n:Nat):Lib.decDigits n=xO (n / 10)++[UInt8.ofNat (48+n % 10)]:=by
 by_cases h:n=0
 ·subst h;decide+kernel
 ·have:=wq n (by omega);rw [<-this,xO,if_neg h]
theorem Bq(n:Nat)(w:World)(y:n<1000):
  Calls Tryz.prog 78 #[.int .i64 n] w fun e w'=>e= .returned (.string ⟨(Lib.itoa n).toArray⟩)/\w'=w:=by
 have c:(n:Int).tmod 10=((n % 10:Nat):Int):=by rw [Int.tmod_eq_emod_of_nonneg (by omega)];omega
 have s:(n:Int).tdiv 10=((n / 10:Nat):Int):=by rw [Int.tdiv_eq_ediv_of_nonneg (by omega)];omega
 have h:n % 10<10:=Nat.mod_lt _ (by decide);have r:Hid ((⟨(Lib.itoa n).toArray⟩:ByteArray).data.toList=Lib.decDigits n):=by
  unfold Hid Lib.itoa;rw [if_neg (by omega)];simp
 have u:=il (BD (n % 10) h);have j:=il (DA n);have o:n / 10<=100:=by omega
 generalize f:n % 10=d at*;generalize b:n / 10=q at*;clear f b;have e1:(0:Int)<=(d:Int):=by omega
 have e2:(d:Int)<10:=by omega
 go_enter Tryz.func78,Tryz.ntmps78
 go_wp2_with fail
 go_loopw [0,4] (fun i sv w'=>∃ (m:Nat) (t:ByteArray),i= .int .i64 m/\sv= .string t/\Hid (w'=w)/\Hid (xO m++t.data.toList=Lib.decDigits n)/\m<=100) (fun i _ _=>(intOf i).toNat)
 case atStart=>exact⟨q,dgs.extract d (d+1),rfl,rfl,il rfl,il (by rw [u.out,j.out]),o⟩
 case round=>
  obtain⟨m,t,rfl,rfl,p,a,hm⟩:=hrel;obtain rfl:=p.out;by_cases v:0<m
  ·have c:(m:Int).tmod 10=((m % 10:Nat):Int):=by rw [Int.tmod_eq_emod_of_nonneg (by omega)];omega
   have s:(m:Int).tdiv 10=((m / 10:Nat):Int):=by rw [Int.tdiv_eq_ediv_of_nonneg (by omega)];omega
   have h:m % 10<10:=Nat.mod_lt _ (by decide);have x:Hid (xO (m / 10)++(dgs.extract (m % 10) (m % 10+1)++t).data.toList=Lib.decDigits n):=by
    unfold Hid;rw [<-a.out,wq m v,ByteArray.data_append,Array.toList_append,BD (m % 10) h,List.append_assoc]
   have hts:t.size<=3:=by
    have l:=congrArg List.length a.out;have h2:=zq y;simp at l;omega
   have z:m / 10<=100:=by omega
   have hlt:m / 10<m:=by omega
   generalize f:m % 10=d' at*;generalize b:m / 10=q' at*;clear f b;have e3:(0:Int)<=(d':Int):=by omega
   have e4:(d':Int)<10:=by omega
   have e5:(0:Int)<(m:Int):=by omega
   go_wp2_with fail
   go_roundw
   case rel=>exact⟨q',dgs.extract d' (d'+1)++t,rfl,rfl,il trivial,x,z⟩
   case measure=>simp [intOf];omega
  ·have c:m=0:=by omega
   subst c;have k:Hid ((⟨(Lib.itoa n).toArray⟩:ByteArray)=t):=by
    unfold Hid;apply ByteArray.ext;apply Array.ext';rw [r.out,<-a.out];rfl
   go_wp2_with fail
   go_ret;exact⟨by rw [k.out];rfl,rfl⟩
def nX(m:Nat):ByteArray:=⟨(Lib.itoa m).toArray⟩
theorem qv(n:Nat)(w:World)(hn:n<1000):Calls Tryz.prog 78 #[.int .i64 n] w fun e w'=>e= .returned (.string (nX n))/\w'=w:=Bq n w hn
theorem ub{m:Nat}(h:m<1000):(nX m).size<=3:=by
 unfold nX;simpa [ByteArray.size]using oY (n:=(m:Int)) (by omega) (by omega)
theorem t7(m:Nat):(nX m).data.toList=Lib.itoa m:=rfl
def zV(out:List UInt8)(l:List Int):List UInt8:=if l=[] then out else if out=[] then lV l else out++[32]++lV l
theorem Ez(t n:Int):kV t n≠[]:=by
 have h:∀ n:Int,Lib.itoa n≠[]:=by
  intro n;unfold Lib.itoa;split
  ·simp
  ·rw [Lib.decDigits];split<;>simp
 unfold kV;split
 ·exact h t
 ·simp
theorem BI(x:List UInt8)(q:List (List UInt8)):Lib.join (x::q) [32]=if q=[] then x else x++[32]++Lib.join q [32]:=by
 cases q with
 | nil=>rw [Lib.join_one];rfl
 | cons y r=>rw [Lib.join_cons,Lib.join_cons,if_neg (by simp)];simp [Lib.joinTail]
def mh(out:List UInt8)(wd:List UInt8):List UInt8:=if out=[] then wd else out++[32]++wd
theorem Cf(out:List UInt8)(t:Int)(r:List Int):
  zV (mh out (kV t (lD (t::r)))) ((t::r).drop (lD (t::r)))=zV out (t::r):=by
 have e:=zf t r;have d:=Ez t (lD (t::r));have f:lV (t::r)=if ((t::r).drop (lD (t::r)))=[] then kV t (lD (t::r)) else kV t (lD (t::r))++[32]++lV ((t::r).drop (lD (t::r))):=by
  unfold lV;rw [e,List.map_cons,BI];by_cases c:(t::r).drop (lD (t::r))=[]
  ·rw [c];simp [grp]
  ·rw [if_neg c,if_neg (by simpa using Ff c)]
 generalize (t::r).drop (lD (t::r))=rest at*;generalize kV t (lD (t::r))=wd at*;unfold zV mh;rw [if_neg (show ¬(t::r)=[] by simp),f];by_cases b:out=[]
 ·rw [if_pos b,if_pos b];by_cases a:rest=[]
  ·rw [if_pos a,if_pos a]
  ·rw [if_neg a,if_neg d,if_neg a]
 ·rw [if_neg b,if_neg b];by_cases a:rest=[]
  ·rw [if_pos a,if_pos a]
  ·rw [if_neg a,if_neg (by simp),if_neg a];simp
theorem IntsAt.tail{B:Nat}{w:World}{g o b:Nat}{l:List Int}(h:IntsAt B w (.slice (some ⟨g,o,none⟩) l.length b) l)(k:Nat)(hk:k<=l.length)(a:Option Addr)(d:k<l.length->a=some ⟨g,o+k,none⟩):IntsAt B w (.slice a (l.length - k) (b - k)) (l.drop k):=by
 obtain⟨ao,cap',e,hcap,hc⟩:=h;simp only [Value.slice.injEq,true_and]at e;obtain⟨rfl,rfl⟩:=e;refine⟨a,b - k,by simp,by simp;omega,fun j hj=>?_⟩;have i:k+j<l.length:=by simp at hj;omega
 obtain⟨g',o',e,f,c⟩:=hc (k+j) i;simp only [Option.some.injEq,Addr.mk.injEq,and_true]at e;obtain⟨rfl,rfl⟩:=e;refine⟨g,o+k,d (by omega),f,?_⟩;rw [Nat.add_assoc,c];simp
theorem Cw(s:ByteArray):(⟨s.data.toList.toArray⟩:ByteArray)=s:=by cases s;rfl
theorem yG(l:List Int)(v:Value)(w:World)(B:IntsAt w.heap.size w v l):
  Calls Tryz.prog 48 #[v] w fun e w'=>w.grownBy w' none/\((jd l=true/\e= .returned (.tuple #[.string ⟨(lV l).toArray⟩,.int .i64 0]))\/(jd l=false/\e= .returned (.tuple #[.string ⟨#[]⟩,.int .i64 2]))):=by
 have K:=il B;obtain⟨U,N,rfl⟩:=B.form;clear B;go_enter Tryz.func48,Tryz.ntmps48
 go_wp2_with fail
 refine(rC l _ w K.out).mono ?_;rintro e j ⟨rfl,C⟩;have R:=il C;have ap:Hid (IntsAt j.heap.size j (.slice U l.length N) l):=(K.out.pres (iq C)).mono C.size;clear C K;cases hv:jd l with
 | false=>
  go_wp2_with fail
  refine bodyPost_ret (v:= .tuple #[.string ⟨#[]⟩,.int .i64 2]) (by simp [results,Tryz.results48,go_sem]) rfl ?_;exact⟨R.out,Or.inr ⟨hv,rfl⟩⟩
 | true=>
  have S:=hv;simp only [jd,Bool.and_eq_true,decide_eq_true_eq,List.all_eq_true]at S;obtain⟨W,T⟩:=S;have ag:=il T;have aj:=il hv;clear hv T;go_wp2_with fail
  go_loopw [0,5] (fun sv ov w'=>∃ (a:Option Addr) (c:Nat) (d:List Int) (out:ByteArray),sv= .slice a d.length c/\ov= .string out/\Hid (IntsAt j.heap.size j (.slice a d.length c) d)/\Hid (j.grownBy w' none)/\Hid (zV out.data.toList d=lV l)/\Hid (∀ x∈d,x∈l)/\d.length<=500/\out.size+8*d.length<=4000) (fun sv _ _=>lenOf sv)
  case atStart=>exact⟨U,N,l,⟨#[]⟩,rfl,rfl,ap,il (iu _ _),il (by unfold zV;cases l with | nil=>rfl | cons a b=>rw [if_neg (by simp)];rfl),il (fun x hx=>hx),W,by simp [ByteArray.size];omega⟩
  case round=>
   obtain⟨a,c,d,out,rfl,rfl,J,k,V,P,hr5,hsz⟩:=hrel;obtain⟨M,al⟩:∃ M,M=wr:=⟨_,rfl⟩;subst al;cases d with
   | nil=>
    have X:Hid ((⟨(lV l).toArray⟩:ByteArray)=out):=by
     unfold Hid;rw [<-V.out];exact Cw out
    simp only [List.length_nil];go_wp2_with fail
    refine bodyPost_ret (v:= .tuple #[.string out,.int .i64 0]) (by simp [results,Tryz.results48,go_sem]) rfl ?_;exact⟨ip R.out k.out,Or.inl ⟨aj.out,by rw [X.out]⟩⟩
   | cons t r=>
    have af:0<(t::r).length:=by simp
    have B:=J.out;obtain⟨ao',cp',O,ac,hc⟩:=B;simp only [Value.slice.injEq,true_and]at O;obtain⟨rfl,rfl⟩:=O;obtain⟨g,o,rfl,hgb,I⟩:=hc 0 af;simp only [List.getElem_cons_zero,Nat.add_zero]at I;have c0:=iq k.out _ _ I;have ht:=ag.out t (P.out t (by simp));have F:=il (zL t r (.slice (some ⟨g,o,none⟩) (t::r).length c) M ((J.out.pres (iq k.out)).mono k.out.size) (by omega));have ai:=Cq (t::r);have hn1:1<=lD (t::r):=by rw [nN];omega
    have ae:=il (Cf out.data.toList t r);have A:((t::r).drop (lD (t::r))).length=(t::r).length - lD (t::r):=by simp
    have ak:=J;clear hc I;obtain⟨t,rfl⟩:=Int.eq_ofNat_of_zero_le ht.1;have hdts:(nX t).size<=3:=ub (by omega);have m:=t7 t;generalize am:lD ((t:Int)::r)=n at*;have hdns:(nX n).size<=3:=ub (by omega);have y:=t7 n;clear am;generalize Q:(t:Int)::r=RL at*;have HLL:=il Q;clear Q;have q0:(0:Int)<RL.length:=by omega
    have q1:(n:Int)<=RL.length:=by omega
    have q2:(0:Int)<=(n:Int):=by omega
    have q3:(n:Int)<=c:=by omega
    have q4:RL.length<=c:=ac;have aa:=il A;have D:Hid (∀ (w':World) (z:ByteArray),Hid (j.grownBy w' none)->z.data.toList=mh out.data.toList (kV t n)->z.size<=out.size+8->
      ∃ (a:Option Addr) (c_1:Nat) (d:List Int) (out_1:ByteArray),Value.slice (if c=n then some { block:=g,off:=o} else some { block:=g,off:=o+n}) (RL.length - n) (c - n)= .slice a d.length c_1/\Value.string z= .string out_1/\Hid (IntsAt j.heap.size j (.slice a d.length c_1) d)/\Hid (j.grownBy w' none)/\Hid (zV out_1.data.toList d=lV l)/\Hid (∀ x∈d,x∈l)/\d.length<=500/\out_1.size+8*d.length<=4000):=by
     intro w' z an ah hs';have E:=aa.out;refine⟨_,c - n,RL.drop n,z,by rw [E],rfl,?_,an,?_,?_,by rw [E];omega,by rw [E];omega⟩
     ·rw [E];exact il (ak.out.tail n ai _ (fun h=>by rw [if_neg (by omega)]))
     ·rw [ah,ae.out];exact V
     ·exact il (fun x hx=>P.out x (List.mem_of_mem_drop hx))
    by_cases p:out.toList=[]
    ·have ad:out.toList.isEmpty=true:=by rw [p];rfl
     have i:out.data.toList=[]:=by rw [<-ByteArray.toList_eq];exact p
     have Z:¬9223372036854775807<out.size+(nX t).size:=by omega
     have b2:¬9223372036854775807<out.size+(nX t).size+1:=by omega
     have Y:¬9223372036854775807<out.size+(nX t).size+1+(nX n).size:=by omega
     by_cases q:n=1
     ·have s:Hid ((out++nX t).data.toList=mh out.data.toList (kV t n)):=by
       unfold Hid mh kV;rw [if_pos i,q];simp [i,m]
      have H:¬(1:Int)<(n:Int):=by omega
      clear p i q m y A;go_wp2_with (first | (go_at_call 68;refine F.out.mono ?_;rintro e w6 ⟨rfl,f⟩;have u:=il (ip k.out f);have c6:=iq f _ _ c0;clear f) | (go_at_call 78;refine(qv _ _ (by omega)).mono ?_;rintro e G ⟨rfl,rfl⟩))
      go_roundw
      case rel=>exact D.out _ _ u s.out (by have z1:(⟨#[42]⟩:ByteArray).size=1:=rfl;have L:(⟨#[32]⟩:ByteArray).size=1:=rfl;simp;omega)
      case measure=>simp [lenOf];omega
     ·have s:Hid ((out++nX t++⟨#[42]⟩++nX n).data.toList=mh out.data.toList (kV t n)):=by
       unfold Hid mh kV;rw [if_pos i,if_neg (by omega)];simp [i,m,y]
      have H:(1:Int)<(n:Int):=by omega
      clear p i q m y A;go_wp2_with (first | (go_at_call 68;refine F.out.mono ?_;rintro e w6 ⟨rfl,f⟩;have u:=il (ip k.out f);have c6:=iq f _ _ c0;clear f) | (go_at_call 78;refine(qv _ _ (by omega)).mono ?_;rintro e G ⟨rfl,rfl⟩))
      go_roundw
      case rel=>exact D.out _ _ u s.out (by have z1:(⟨#[42]⟩:ByteArray).size=1:=rfl;have L:(⟨#[32]⟩:ByteArray).size=1:=rfl;simp;omega)
      case measure=>simp [lenOf];omega
    ·have ad:out.toList.isEmpty=false:=by simpa using p
     have i:out.data.toList≠[]:=by rw [<-ByteArray.toList_eq];exact p
     have b0:¬9223372036854775807<out.size+1:=by omega
     have Z:¬9223372036854775807<out.size+1+(nX t).size:=by omega
     have b2:¬9223372036854775807<out.size+1+(nX t).size+1:=by omega
     have Y:¬9223372036854775807<out.size+1+(nX t).size+1+(nX n).size:=by omega
     by_cases q:n=1
     ·have s:Hid ((out++⟨#[32]⟩++nX t).data.toList=mh out.data.toList (kV t n)):=by
       unfold Hid mh kV;rw [if_neg i,q];simp [m]
      have H:¬(1:Int)<(n:Int):=by omega
      clear p i q m y A;go_wp2_with (first | (go_at_call 68;refine F.out.mono ?_;rintro e w6 ⟨rfl,f⟩;have u:=il (ip k.out f);have c6:=iq f _ _ c0;clear f) | (go_at_call 78;refine(qv _ _ (by omega)).mono ?_;rintro e G ⟨rfl,rfl⟩))
      go_roundw
      case rel=>exact D.out _ _ u s.out (by have z1:(⟨#[42]⟩:ByteArray).size=1:=rfl;have L:(⟨#[32]⟩:ByteArray).size=1:=rfl;simp;omega)
      case measure=>simp [lenOf];omega
     ·have s:Hid ((out++⟨#[32]⟩++nX t++⟨#[42]⟩++nX n).data.toList=mh out.data.toList (kV t n)):=by
       unfold Hid mh kV;rw [if_neg i,if_neg (by omega)];simp [m,y]
      have H:(1:Int)<(n:Int):=by omega
      clear p i q m y A;go_wp2_with (first | (go_at_call 68;refine F.out.mono ?_;rintro e w6 ⟨rfl,f⟩;have u:=il (ip k.out f);have c6:=iq f _ _ c0;clear f) | (go_at_call 78;refine(qv _ _ (by omega)).mono ?_;rintro e G ⟨rfl,rfl⟩))
      go_roundw
      case rel=>exact D.out _ _ u s.out (by have z1:(⟨#[42]⟩:ByteArray).size=1:=rfl;have L:(⟨#[32]⟩:ByteArray).size=1:=rfl;simp;omega)
      case measure=>simp [lenOf];omega
end
end Go.Proofs.YtklenjmfalljgabGreatDoor
