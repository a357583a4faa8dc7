/- The texts RefG. -/
import Derived.Test.YtklenjmfalljgabGreatDoorM24
namespace Go.Proofs.YtklenjmfalljgabGreatDoor
set_option maxRecDepth 100000
set_option maxHeartbeats 8000000
section
open Go.RowKit
attribute [local go_sem] Go.World.cell?_alloc_some
def lenOf:Value->Nat
 | .slice _ n _=>n
 | _=>0
def dgs:ByteArray:=⟨#[48,49,50,51,52,53,54,55,56,57]⟩
theorem xN(k:Nat)(h:k<10):(dgs.extract k (k+1)).data.toList=[UInt8.ofNat (48+k)]:=by
 have:k=0\/k=1\/k=2\/k=3\/k=4\/k=5\/k=6\/k=7\/k=8\/k=9:=by omega
 rcases this with rfl | rfl | rfl | rfl | rfl | rfl | rfl | rfl | rfl | rfl<;>decide+kernel
def preD(n:Nat):List UInt8:=if n=0 then [] else Lib.decDigits n
theorem sJ(n:Nat)(h:0<n):preD n=preD (n / 10)++[UInt8.ofNat (48+n % 10)]:=by
 unfold preD;rw [if_neg (by omega)];by_cases a:n<10
 ·rw [if_pos (by omega),Lib.decDigits,dif_pos a,Nat.mod_eq_of_lt a];rfl
 ·rw [if_neg (by omega)];conv=>lhs;rw [Lib.decDigits,dif_neg a]
theorem zW(n:Nat):Lib.decDigits n=preD (n / 10)++[UInt8.ofNat (48+n % 10)]:=by
 by_cases h:n=0
 ·subst h;decide+kernel
 ·have:=sJ n (by omega);rw [<-this,preD,if_neg h]
theorem xO(n:Nat)(w:World)(x:n<1000):
  Calls Tryz.prog 78 #[.int .i64 n] w fun e w'=>e= .returned (.string ⟨(Lib.itoa n).toArray⟩)/\w'=w:=by
 have f:(n:Int).tmod 10=((n % 10:Nat):Int):=by rw [Int.tmod_eq_emod_of_nonneg (by omega)];omega
 have y:(n:Int).tdiv 10=((n / 10:Nat):Int):=by rw [Int.tdiv_eq_ediv_of_nonneg (by omega)];omega
 have b:n % 10<10:=Nat.mod_lt _ (by decide);have o:Hid ((⟨(Lib.itoa n).toArray⟩:ByteArray).data.toList=Lib.decDigits n):=by
  unfold Hid Lib.itoa;rw [if_neg (by omega)];simp
 have j:=ij (xN (n % 10) b);have k:=ij (zW n);have z:n / 10<=100:=by omega
 generalize c:n % 10=d at*;generalize h:n / 10=q at*;clear c h;have e1:(0:Int)<=(d:Int):=by omega
 have e2:(d:Int)<10:=by omega
 go_enter Tryz.func78,Tryz.ntmps78
 go_wp2_with fail
 go_loopw [0,4] (fun i sv w'=>∃ (m:Nat) (t:ByteArray),i= .int .i64 m/\sv= .string t/\Hid (w'=w)/\Hid (preD m++t.data.toList=Lib.decDigits n)/\m<=100) (fun i _ _=>(intOf i).toNat)
 case atStart=>exact⟨q,dgs.extract d (d+1),rfl,rfl,ij rfl,ij (by rw [j.out,k.out]),z⟩
 case round=>
  obtain⟨m,t,rfl,rfl,r,a,hm⟩:=hrel;obtain rfl:=r.out;by_cases s:0<m
  ·have f:(m:Int).tmod 10=((m % 10:Nat):Int):=by rw [Int.tmod_eq_emod_of_nonneg (by omega)];omega
   have y:(m:Int).tdiv 10=((m / 10:Nat):Int):=by rw [Int.tdiv_eq_ediv_of_nonneg (by omega)];omega
   have b:m % 10<10:=Nat.mod_lt _ (by decide);have p:Hid (preD (m / 10)++(dgs.extract (m % 10) (m % 10+1)++t).data.toList=Lib.decDigits n):=by
    unfold Hid;rw [<-a.out,sJ m s,ByteArray.data_append,Array.toList_append,xN (m % 10) b,List.append_assoc]
   have hts:t.size<=3:=by
    have u:=congrArg List.length a.out;have h2:=uN x;simp at u;omega
   have v:m / 10<=100:=by omega
   have hlt:m / 10<m:=by omega
   generalize c:m % 10=d' at*;generalize h:m / 10=q' at*;clear c h;have e3:(0:Int)<=(d':Int):=by omega
   have e4:(d':Int)<10:=by omega
   have e5:(0:Int)<(m:Int):=by omega
   go_wp2_with fail
   go_roundw
   case rel=>exact⟨q',dgs.extract d' (d'+1)++t,rfl,rfl,ij trivial,p,v⟩
   case measure=>simp [intOf];omega
  ·have f:m=0:=by omega
   subst f;have l:Hid ((⟨(Lib.itoa n).toArray⟩:ByteArray)=t):=by
    unfold Hid;apply ByteArray.ext;apply Array.ext';rw [o.out,<-a.out];rfl
   go_wp2_with fail
   go_ret;exact⟨by rw [l.out];rfl,rfl⟩
def digS(m:Nat):ByteArray:=⟨(Lib.itoa m).toArray⟩
theorem mE(n:Nat)(w:World)(hn:n<1000):Calls Tryz.prog 78 #[.int .i64 n] w fun e w'=>e= .returned (.string (digS n))/\w'=w:=xO n w hn
theorem pW{m:Nat}(h:m<1000):(digS m).size<=3:=by
 unfold digS;simpa [ByteArray.size]using lA (n:=(m:Int)) (by omega) (by omega)
theorem pV(m:Nat):(digS m).data.toList=Lib.itoa m:=rfl
def finR(out:List UInt8)(l:List Int):List UInt8:=if l=[] then out else if out=[] then printS l else out++[32]++printS l
theorem Bj(t n:Int):wordS t n≠[]:=by
 have h:∀ n:Int,Lib.itoa n≠[]:=by
  intro n;unfold Lib.itoa;split
  ·simp
  ·rw [Lib.decDigits];split<;>simp
 unfold wordS;split
 ·exact h t
 ·simp
theorem yx(x:List UInt8)(q:List (List UInt8)):Lib.join (x::q) [32]=if q=[] then x else x++[32]++Lib.join q [32]:=by
 cases q with
 | nil=>rw [Lib.join_one];rfl
 | cons y r=>rw [Lib.join_cons,Lib.join_cons,if_neg (by simp)];simp [Lib.joinTail]
def outNext(out:List UInt8)(wd:List UInt8):List UInt8:=if out=[] then wd else out++[32]++wd
theorem xV(out:List UInt8)(t:Int)(r:List Int):
  finR (outNext out (wordS t (oftS (t::r)))) ((t::r).drop (oftS (t::r)))=finR out (t::r):=by
 have d:=uT t r;have f:=Bj t (oftS (t::r));have e:printS (t::r)=if ((t::r).drop (oftS (t::r)))=[] then wordS t (oftS (t::r)) else wordS t (oftS (t::r))++[32]++printS ((t::r).drop (oftS (t::r))):=by
  unfold printS;rw [d,List.map_cons,yx];by_cases c:(t::r).drop (oftS (t::r))=[]
  ·rw [c];simp [grp]
  ·rw [if_neg c,if_neg (by simpa using BF c)]
 generalize (t::r).drop (oftS (t::r))=rest at*;generalize wordS t (oftS (t::r))=wd at*;unfold finR outNext;rw [if_neg (show ¬(t::r)=[] by simp),e];by_cases b:out=[]
 ·rw [if_pos b,if_pos b];by_cases a:rest=[]
  ·rw [if_pos a,if_pos a]
  ·rw [if_neg a,if_neg f,if_neg a]
 ·rw [if_neg b,if_neg b];by_cases a:rest=[]
  ·rw [if_pos a,if_pos a]
  ·rw [if_neg a,if_neg (by simp),if_neg a];simp
theorem IntsAt.tail{B:Nat}{w:World}{g o b:Nat}{l:List Int}(h:IntsAt B w (.slice (some ⟨g,o,none⟩) l.length b) l)(k:Nat)(hk:k<=l.length)(a:Option Addr)(d:k<l.length->a=some ⟨g,o+k,none⟩):IntsAt B w (.slice a (l.length - k) (b - k)) (l.drop k):=by
 obtain⟨ao,cap',e,hcap,hc⟩:=h;simp only [Value.slice.injEq,true_and]at e;obtain⟨rfl,rfl⟩:=e;refine⟨a,b - k,by simp,by simp;omega,fun j hj=>?_⟩;have i:k+j<l.length:=by simp at hj;omega
 obtain⟨g',o',e,f,c⟩:=hc (k+j) i;simp only [Option.some.injEq,Addr.mk.injEq,and_true]at e;obtain⟨rfl,rfl⟩:=e;refine⟨g,o+k,d (by omega),f,?_⟩;rw [Nat.add_assoc,c];simp
theorem xE(s:ByteArray):(⟨s.data.toList.toArray⟩:ByteArray)=s:=by cases s;rfl
theorem uq(l:List Int)(v:Value)(w:World)(z:IntsAt w.heap.size w v l):
  Calls Tryz.prog 48 #[v] w fun e w'=>w.grownBy w' none/\((validS l=true/\e= .returned (.tuple #[.string ⟨(printS l).toArray⟩,.int .i64 0]))\/(validS l=false/\e= .returned (.tuple #[.string ⟨#[]⟩,.int .i64 2]))):=by
 have G:=ij z;obtain⟨Q,R,rfl⟩:=z.form;clear z;go_enter Tryz.func48,Tryz.ntmps48
 go_wp2_with fail
 refine(nR l _ w G.out).mono ?_;rintro e j ⟨rfl,F⟩;have O:=ij F;have aa:Hid (IntsAt j.heap.size j (.slice Q l.length R) l):=(G.out.pres (ip F)).mono F.size;clear F G;cases hv:validS l with
 | false=>
  go_wp2_with fail
  refine bodyPost_ret (v:= .tuple #[.string ⟨#[]⟩,.int .i64 2]) (by simp [results,Tryz.results48,go_sem]) rfl ?_;exact⟨O.out,Or.inr ⟨hv,rfl⟩⟩
 | true=>
  have V:=hv;simp only [validS,Bool.and_eq_true,decide_eq_true_eq,List.all_eq_true]at V;obtain⟨ag,U⟩:=V;have W:=ij U;have ac:=ij hv;clear hv U;go_wp2_with fail
  go_loopw [0,5] (fun sv ov w'=>∃ (a:Option Addr) (c:Nat) (d:List Int) (out:ByteArray),sv= .slice a d.length c/\ov= .string out/\Hid (IntsAt j.heap.size j (.slice a d.length c) d)/\Hid (j.grownBy w' none)/\Hid (finR out.data.toList d=printS l)/\Hid (∀ x∈d,x∈l)/\d.length<=500/\out.size+8*d.length<=4000) (fun sv _ _=>lenOf sv)
  case atStart=>exact⟨Q,R,l,⟨#[]⟩,rfl,rfl,aa,ij (ir _ _),ij (by unfold finR;cases l with | nil=>rfl | cons a b=>rw [if_neg (by simp)];rfl),ij (fun x hx=>hx),ag,by simp [ByteArray.size];omega⟩
  case round=>
   obtain⟨a,c,d,out,rfl,rfl,H,k,N,P,hr5,hsz⟩:=hrel;obtain⟨K,aq⟩:∃ K,K=wr:=⟨_,rfl⟩;subst aq;cases d with
   | nil=>
    have Y:Hid ((⟨(printS l).toArray⟩:ByteArray)=out):=by
     unfold Hid;rw [<-N.out];exact xE out
    simp only [List.length_nil];go_wp2_with fail
    refine bodyPost_ret (v:= .tuple #[.string out,.int .i64 0]) (by simp [results,Tryz.results48,go_sem]) rfl ?_;exact⟨il O.out k.out,Or.inl ⟨ac.out,by rw [Y.out]⟩⟩
   | cons t r=>
    have an:0<(t::r).length:=by simp
    have z:=H.out;obtain⟨ao',cp',S,ah,hc⟩:=z;simp only [Value.slice.injEq,true_and]at S;obtain⟨rfl,rfl⟩:=S;obtain⟨g,o,rfl,hgb,I⟩:=hc 0 an;simp only [List.getElem_cons_zero,Nat.add_zero]at I;have c0:=ip k.out _ _ I;have ht:=W.out t (P.out t (by simp));have D:=ij (uW t r (.slice (some ⟨g,o,none⟩) (t::r).length c) K ((H.out.pres (ip k.out)).mono k.out.size) (by omega));have ak:=yJ (t::r);have hn1:1<=oftS (t::r):=by rw [kU];omega
    have Z:=ij (xV out.data.toList t r);have A:((t::r).drop (oftS (t::r))).length=(t::r).length - oftS (t::r):=by simp
    have ab:=H;clear hc I;obtain⟨t,rfl⟩:=Int.eq_ofNat_of_zero_le ht.1;have hdts:(digS t).size<=3:=pW (by omega);have m:=pV t;generalize am:oftS ((t:Int)::r)=n at*;have hdns:(digS n).size<=3:=pW (by omega);have y:=pV n;clear am;generalize T:(t:Int)::r=RL at*;have HLL:=ij T;clear T;have q0:(0:Int)<RL.length:=by omega
    have q1:(n:Int)<=RL.length:=by omega
    have q2:(0:Int)<=(n:Int):=by omega
    have q3:(n:Int)<=c:=by omega
    have q4:RL.length<=c:=ah;have X:=ij A;have C:Hid (∀ (w':World) (B:ByteArray),Hid (j.grownBy w' none)->B.data.toList=outNext out.data.toList (wordS t n)->B.size<=out.size+8->
      ∃ (a:Option Addr) (c_1:Nat) (d:List Int) (out_1:ByteArray),Value.slice (if c=n then some { block:=g,off:=o} else some { block:=g,off:=o+n}) (RL.length - n) (c - n)= .slice a d.length c_1/\Value.string B= .string out_1/\Hid (IntsAt j.heap.size j (.slice a d.length c_1) d)/\Hid (j.grownBy w' none)/\Hid (finR out_1.data.toList d=printS l)/\Hid (∀ x∈d,x∈l)/\d.length<=500/\out_1.size+8*d.length<=4000):=by
     intro w' B ai al hs';have E:=X.out;refine⟨_,c - n,RL.drop n,B,by rw [E],rfl,?_,ai,?_,?_,by rw [E];omega,by rw [E];omega⟩
     ·rw [E];exact ij (ab.out.tail n ak _ (fun h=>by rw [if_neg (by omega)]))
     ·rw [al,Z.out];exact N
     ·exact ij (fun x hx=>P.out x (List.mem_of_mem_drop hx))
    by_cases p:out.toList=[]
    ·have aj:out.toList.isEmpty=true:=by rw [p];rfl
     have i:out.data.toList=[]:=by rw [<-ByteArray.toList_eq];exact p
     have b1:¬9223372036854775807<out.size+(digS t).size:=by omega
     have b2:¬9223372036854775807<out.size+(digS t).size+1:=by omega
     have b3:¬9223372036854775807<out.size+(digS t).size+1+(digS n).size:=by omega
     by_cases u:n=1
     ·have s:Hid ((out++digS t).data.toList=outNext out.data.toList (wordS t n)):=by
       unfold Hid outNext wordS;rw [if_pos i,u];simp [i,m]
      have J:¬(1:Int)<(n:Int):=by omega
      clear p i u m y A;go_wp2_with (first | (go_at_call 68;refine D.out.mono ?_;rintro e w6 ⟨rfl,f⟩;have q:=ij (il k.out f);have c6:=ip f _ _ c0;clear f) | (go_at_call 78;refine(mE _ _ (by omega)).mono ?_;rintro e L ⟨rfl,rfl⟩))
      go_roundw
      case rel=>exact C.out _ _ q s.out (by have z1:(⟨#[42]⟩:ByteArray).size=1:=rfl;have M:(⟨#[32]⟩:ByteArray).size=1:=rfl;simp;omega)
      case measure=>simp [lenOf];omega
     ·have s:Hid ((out++digS t++⟨#[42]⟩++digS n).data.toList=outNext out.data.toList (wordS t n)):=by
       unfold Hid outNext wordS;rw [if_pos i,if_neg (by omega)];simp [i,m,y]
      have J:(1:Int)<(n:Int):=by omega
      clear p i u m y A;go_wp2_with (first | (go_at_call 68;refine D.out.mono ?_;rintro e w6 ⟨rfl,f⟩;have q:=ij (il k.out f);have c6:=ip f _ _ c0;clear f) | (go_at_call 78;refine(mE _ _ (by omega)).mono ?_;rintro e L ⟨rfl,rfl⟩))
      go_roundw
      case rel=>exact C.out _ _ q s.out (by have z1:(⟨#[42]⟩:ByteArray).size=1:=rfl;have M:(⟨#[32]⟩:ByteArray).size=1:=rfl;simp;omega)
      case measure=>simp [lenOf];omega
    ·have aj:out.toList.isEmpty=false:=by simpa using p
     have i:out.data.toList≠[]:=by rw [<-ByteArray.toList_eq];exact p
     have b0:¬9223372036854775807<out.size+1:=by omega
     have b1:¬9223372036854775807<out.size+1+(digS t).size:=by omega
     have b2:¬9223372036854775807<out.size+1+(digS t).size+1:=by omega
     have b3:¬9223372036854775807<out.size+1+(digS t).size+1+(digS n).size:=by omega
     by_cases u:n=1
     ·have s:Hid ((out++⟨#[32]⟩++digS t).data.toList=outNext out.data.toList (wordS t n)):=by
       unfold Hid outNext wordS;rw [if_neg i,u];simp [m]
      have J:¬(1:Int)<(n:Int):=by omega
      clear p i u m y A;go_wp2_with (first | (go_at_call 68;refine D.out.mono ?_;rintro e w6 ⟨rfl,f⟩;have q:=ij (il k.out f);have c6:=ip f _ _ c0;clear f) | (go_at_call 78;refine(mE _ _ (by omega)).mono ?_;rintro e L ⟨rfl,rfl⟩))
      go_roundw
      case rel=>exact C.out _ _ q s.out (by have z1:(⟨#[42]⟩:ByteArray).size=1:=rfl;have M:(⟨#[32]⟩:ByteArray).size=1:=rfl;simp;omega)
      case measure=>simp [lenOf];omega
     ·have s:Hid ((out++⟨#[32]⟩++digS t++⟨#[42]⟩++digS n).data.toList=outNext out.data.toList (wordS t n)):=by
       unfold Hid outNext wordS;rw [if_neg i,if_neg (by omega)];simp [m,y]
      have J:(1:Int)<(n:Int):=by omega
      clear p i u m y A;go_wp2_with (first | (go_at_call 68;refine D.out.mono ?_;rintro e w6 ⟨rfl,f⟩;have q:=ij (il k.out f);have c6:=ip f _ _ c0;clear f) | (go_at_call 78;refine(mE _ _ (by omega)).mono ?_;rintro e L ⟨rfl,rfl⟩))
      go_roundw
      case rel=>exact C.out _ _ q s.out (by have z1:(⟨#[42]⟩:ByteArray).size=1:=rfl;have M:(⟨#[32]⟩:ByteArray).size=1:=rfl;simp;omega)
      case measure=>simp [lenOf];omega
end
end Go.Proofs.YtklenjmfalljgabGreatDoor
