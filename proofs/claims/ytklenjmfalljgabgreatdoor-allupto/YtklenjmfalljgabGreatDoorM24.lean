/- The texts RefA RefB RefC RefD RefE RefF. -/
import Derived.Test.YtklenjmfalljgabGreatDoorM17
namespace Go.Proofs.YtklenjmfalljgabGreatDoor
set_option maxRecDepth 100000
set_option maxHeartbeats 8000000
section
open Go.RowKit
attribute [local go_sem] Go.World.cell?_alloc_some
theorem vh(s:ByteArray)(p:Nat->Bool)(k:Nat)(h:k<s.size):((byt s).take (k+1)).all p=(((byt s).take k).all p && p s[k].toNat):=by
 have a:k<(byt s).length:=by rw [iT];exact h
 rw [kY (byt s) p k a];have:(byt s)[k]=s[k].toNat:=by
  have:=mt s k h;rw [List.getElem?_eq_getElem a]at this;exact Option.some.inj this
 rw [this]
theorem xZ(s:ByteArray):byt s=s.toList.map UInt8.toNat:=by rw [ByteArray.toList_eq];rfl
theorem CB(s:ByteArray)(l:List UInt8):byt s=l.map UInt8.toNat↔s.toList=l:=by
 rw [xZ];constructor
 ·intro h;exact(List.map_inj_right (fun a b h=>UInt8.toNat_inj.1 h)).1 h
 ·intro h;rw [h]
theorem nB(s:ByteArray):byt s=[]↔s.toList=[]:=CB s []
theorem pI(s:ByteArray):byt s=[48]↔s.toList=[48]:=CB s [48]
theorem Dc(s:ByteArray)(h:0<s.size):(byt s).head?=some s[0].toNat:=by
 rw [List.head?_eq_getElem?];exact mt s 0 h
theorem Ca{s:ByteArray}(h:¬s.toList=[]):0<s.size:=by
 by_cases a:s.size=0
 ·exact absurd ((nB s).1 (List.length_eq_zero_iff.1 (by rw [iT];exact a))) h
 ·omega
theorem lz(s:ByteArray)(w:World)(hs:s.size<=9223372036854775806):
  Calls Tryz.prog 105 #[.string s] w fun e w'=>e= .returned (.bool (i8 (byt s)))/\w'=w:=by
 go_enter Tryz.func105,Tryz.ntmps105
 go_wp2
 go_loopw [3] (fun i w'=>∃ k:Nat,k<=s.size/\i= .int .i64 k/\Hid (w'=w)/\Hid (((byt s).take k).all isD=true)) (fun i _=>s.size - (intOf i).toNat)
 case atStart=>exact⟨0,Nat.zero_le _,rfl,rfl,rfl⟩
 case round=>
  obtain⟨k,hk,rfl,r,m⟩:=hrel;obtain rfl:=r.out;by_cases v:k<s.size
  ·have f:=il (vh s isD k v);have hk0:(0:Int)<=(k:Int):=by omega
   have hk1:(k:Int)<s.size:=by omega
   have o:Hid (isD s[k].toNat=false->i8 (byt s)=false):=by
    intro h;have:((byt s).take (k+1)).all isD=false:=by rw [f.out,h];simp
    unfold i8;rw [<-List.take_append_drop (k+1) (byt s),List.all_append,this];rfl
   by_cases n:s[k].toNat<48
   ·have j:((s[k].toNat:Nat):Int)<48:=by omega
    have a:=il (o.out (by simp [isD];omega));go_wp2
    go_ret;exact⟨by rw [a.out];rfl,rfl⟩
   ·have j:¬((s[k].toNat:Nat):Int)<48:=by omega
    by_cases h1:s[k].toNat<=57
    ·have x:¬57<((s[k].toNat:Nat):Int):=by omega
     have d:Hid (((byt s).take (k+1)).all isD=true):=by unfold Hid;rw [f.out,m.out];simp [isD];omega
     go_wp2
     go_roundw
     case rel=>exact⟨k+1,by omega,by go_num,il trivial,d⟩
     case measure=>simp [intOf];omega
    ·have x:57<((s[k].toNat:Nat):Int):=by omega
     have a:=il (o.out (by simp [isD];omega));go_wp2
     go_ret;exact⟨by rw [a.out];rfl,rfl⟩
  ·have d:Hid ((byt s).all isD=true):=by
    have:=m.out;rw [List.take_of_length_le (by rw [iT];omega)]at this;exact this
   have q2:(s.size:Int)<=(k:Int):=by omega
   by_cases c:s.toList=[48]
   ·have a:Hid (i8 (byt s)=true):=by unfold Hid;rw [(pI s).2 c];rfl
    go_wp2_with fail
    go_ret;exact⟨by rw [a.out];rfl,rfl⟩
   ·by_cases b:s.toList=[]
    ·have a:Hid (i8 (byt s)=false):=by unfold Hid;rw [(nB s).2 b];rfl
     go_wp2_with fail
     go_ret;exact⟨by rw [a.out];rfl,rfl⟩
    ·have n:=Ca b;have a:Hid (i8 (byt s)=(s.toList==[48] || (!s.toList.isEmpty && (((s[0].toNat:Nat):Int) !=48)))):=by
      unfold Hid i8;have p:(byt s==[48])=false:=by simpa using fun e=>c ((pI s).1 e)
      have u:(byt s==[])=false:=by simpa using fun e=>b ((nB s).1 e)
      have y:(s.toList==[48])=false:=by simpa using c
      have z:s.toList.isEmpty=false:=by simpa using b
      rw [d.out,p,u,y,z,Dc s n];by_cases l:s[0].toNat=48
      ·simp [l]
      ·have q:((s[0].toNat:Nat):Int)≠48:=by omega
       have t:(((s[0].toNat:Nat):Int) !=48)=true:=by simpa using q
       rw [t];simpa using l
     have j:(0:Int)<s.size:=by omega
     go_wp2_with fail
     all_goals
      go_ret;exact⟨by rw [a.out];rfl,rfl⟩
theorem yw(n:Int)(s:ByteArray)(k:Nat)(h:k<s.size):iF n ((byt s).drop k)=if n<1000 then iF (10*n+(((s[k].toNat+208) % 256:Nat):Int)) ((byt s).drop (k+1)) else min n 1000:=by
 rw [ns (mt s k h),iF]
theorem A7(n:Int)(s:ByteArray)(k:Nat)(h:s.size<=k):iF n ((byt s).drop k)=min n 1000:=by
 rw [List.drop_eq_nil_of_le (by rw [iT];exact h),iF]
theorem lu(s:ByteArray)(w:World)(hs:s.size<=9223372036854775806):
  Calls Tryz.prog 106 #[.string s] w fun e w'=>e= .returned (.int .i64 (iF 0 (byt s)))/\w'=w:=by
 go_enter Tryz.func106,Tryz.ntmps106
 go_wp2
 go_loopw [3,4] (fun v i w'=>∃ (k:Nat) (n:Int),k<=s.size/\i= .int .i64 k/\v= .int .i64 n/\Hid (w'=w)/\Hid (0<=n/\n<=20000/\iF n ((byt s).drop k)=iF 0 (byt s))) (fun _ i _=>s.size - (intOf i).toNat)
 case atStart=>exact⟨0,0,Nat.zero_le _,rfl,rfl,rfl,by simp [Hid]⟩
 case round=>
  obtain⟨k,n,hk,rfl,rfl,m,j⟩:=hrel;obtain rfl:=m.out;obtain⟨hn0,hn1,l⟩:=j.out;have c:=il l;clear l j;by_cases p:k<s.size
  ·have hk0:(0:Int)<=(k:Int):=by omega
   have hk1:(k:Int)<s.size:=by omega
   have hb:=s[k].toNat_lt;have f:=il (yw n s k p);by_cases h:n<1000
   ·have hu:IntKind.u8.wrap (((s[k].toNat:Nat):Int) - 48)=(((s[k].toNat+208) % 256:Nat):Int):=by
     simp only [IntKind.wrap,IntKind.signed,IntKind.bits];simp;omega
    have q:Hid (iF (10*n+(((s[k].toNat+208) % 256:Nat):Int)) ((byt s).drop (k+1))=iF 0 (byt s)):=by
     unfold Hid;rw [<-c.out,f.out,if_pos h]
    have hm:(s[k].toNat+208) % 256<256:=Nat.mod_lt _ (by decide);generalize ((s[k].toNat+208) % 256)=d at*;have hd0:(0:Int)<=(d:Int):=by omega
    have hd1:(d:Int)<256:=by omega
    go_wp2_with fail
    go_roundw
    case rel=>exact⟨k+1,_,by omega,by go_num,rfl,il trivial,il ⟨by omega,by omega,q.out⟩⟩
    case measure=>simp [intOf];omega
   ·have b:Hid (iF 0 (byt s)=1000):=by unfold Hid;rw [<-c.out,f.out,if_neg h];omega
    by_cases o:1000<n
    ·go_wp2_with fail
     go_ret;exact⟨by rw [b.out];rfl,rfl⟩
    ·have a:Hid (n=1000):=by unfold Hid;omega
     go_wp2_with fail
     go_ret;exact⟨by rw [b.out,<-a.out];rfl,rfl⟩
  ·have b:Hid (iF 0 (byt s)=min n 1000):=by unfold Hid;rw [<-c.out,A7 n s k (by omega)]
   have q2:(s.size:Int)<=(k:Int):=by omega
   by_cases o:1000<n
   ·have a:Hid (min n 1000=1000):=by unfold Hid;omega
    go_wp2_with fail
    go_ret;exact⟨by rw [b.out,a.out];rfl,rfl⟩
   ·have a:Hid (min n 1000=n):=by unfold Hid;omega
    go_wp2_with fail
    go_ret;exact⟨by rw [b.out,a.out];rfl,rfl⟩
theorem ny(s:ByteArray)(a b:Nat):byt (s.extract a b)=((byt s).take b).drop a:=by
 unfold byt;rw [ByteArray.data_extract,Array.toList_extract,List.extract_eq_take_drop,List.map_take,List.map_drop];rw [List.drop_take]
theorem Ey(l:List Nat)(k:Nat)(b:l[k]?=some 42)(h:∀ x∈l.take k,x≠42):jn l=l.take k/\mY l=l.drop (k+1)/\lB l=true:=by
 have e:l=l.take k++42::l.drop (k+1):=by rw [<-ns b,List.take_append_drop]
 have:=pf (bb:=l.drop (k+1)) h;rw [<-e]at this;exact this
theorem wP(s:ByteArray)(w:World)(hs:s.size<=9223372036854775806):
  Calls Tryz.prog 104 #[.string s] w fun e w'=>ju w' w/\∃ a b,e= .returned (.tuple #[.string a,.string b,.bool (lB (byt s))])/\byt a=jn (byt s)/\byt b=mY (byt s)/\a.size<=s.size/\b.size<=s.size:=by
 go_enter Tryz.func104,Tryz.ntmps104
 go_wp2
 go_loopw [5] (fun i w'=>∃ k:Nat,k<=s.size/\i= .int .i64 k/\Hid (w'=w)/\Hid (∀ x∈(byt s).take k,x≠42)) (fun i _=>s.size - (intOf i).toNat)
 case atStart=>exact⟨0,Nat.zero_le _,rfl,rfl,by simp [Hid]⟩
 case round=>
  obtain⟨k,hk,rfl,o,j⟩:=hrel;obtain rfl:=o.out;by_cases l:k<s.size
  ·have hk0:(0:Int)<=(k:Int):=by omega
   have hk1:(k:Int)<s.size:=by omega
   have hk2:(k:Int)<=s.size:=by omega
   have hk3:(k:Int)+1<=s.size:=by omega
   have n:=il (mt s k l);by_cases f:s[k].toNat=42
   ·have h:((s[k].toNat:Nat):Int)=42:=by omega
    have h42'':(((s[k].toNat:Nat):Int)==42)=true:=by simpa using h
    have d:Hid (jn (byt s)=(byt s).take k/\mY (byt s)=(byt s).drop (k+1)/\lB (byt s)=true):=Ey _ k (by rw [n.out,f]) j.out;clear f h;go_wp2_with fail
    go_quiet (fail)
    go_wp2_with fail
    refine bodyPost_ret (v:= .tuple #[.string (s.extract 0 k),.string (s.extract (k+1) s.size),.bool true]) (by simp [results,Tryz.results104,go_sem]) rfl ?_;refine⟨jW (jr _) _,_,_,by rw [d.out.2.2],?_,?_,by simp<;>omega,by simp<;>omega⟩
    ·rw [d.out.1,ny,List.drop_zero]
    ·rw [d.out.2.1,ny,List.take_of_length_le (by rw [iT];exact Nat.le_refl _)]
   ·have h:((s[k].toNat:Nat):Int)≠42:=by omega
    have p:Hid (∀ x∈(byt s).take (k+1),x≠42):=by
     intro x c;have m:k<(byt s).length:=by rw [iT];exact l
     rw [List.take_succ_eq_append_getElem m]at c;rcases List.mem_append.1 c with c | c
     ·exact j.out x c
     ·have e:=n.out;rw [List.getElem?_eq_getElem m]at e;rw [Option.some.inj e]at c;simp at c;rw [c];exact f
    clear f;go_wp2_with fail
    go_roundw
    case rel=>exact⟨k+1,by omega,by go_num,il trivial,p⟩
    case measure=>simp [intOf];omega
  ·have q2:(s.size:Int)<=(k:Int):=by omega
   have d:Hid (jn (byt s)=byt s/\mY (byt s)=[]/\lB (byt s)=false):=by
    have:=j.out;rw [List.take_of_length_le (by rw [iT];omega)]at this;exact pl this
   go_wp2_with fail
   refine bodyPost_ret (v:= .tuple #[.string s,.string ⟨#[]⟩,.bool false]) (by simp [results,Tryz.results104,go_sem]) rfl ?_;exact⟨jr _,s,⟨#[]⟩,by rw [d.out.2.2],d.out.1.symm,d.out.2.1.symm,Nat.le_refl _,Nat.zero_le _⟩
def Fz(o:Option (Int × Int)):Value:=match o with
 | none=> .tuple #[.int .i64 0,.int .i64 0,.bool false]
 | some (t,n)=> .tuple #[.int .i64 t,.int .i64 n,.bool true]
theorem FH(s:ByteArray)(c:Int)(w:World)(q:s.size<=9223372036854775806):
  Calls Tryz.prog 103 #[.string s,.int .i64 c] w fun e w'=>ju w' w/\e= .returned (Fz (kP (byt s) c)):=by
 go_enter Tryz.func103,Tryz.ntmps103
 go_wp2_with fail
 refine(wP s w q).mono ?_;rintro e w1 ⟨p,a,b,rfl,r,n,u,t⟩;have f:=il p;have l:kP (byt s) c=if (!i8 (byt a) || decide (63<iF 0 (byt a)) || (iF 0 (byt a)==c))=true then none
  else if (lB (byt s) && (!i8 (byt b) || decide (iF 0 (byt b)<2)))=true then none
  else if lB (byt s)=true then some (iF 0 (byt a),iF 0 (byt b)) else some (iF 0 (byt a),1):=by rw [r,n];rfl
 have hza:a.size<=9223372036854775806:=by omega
 have hzb:b.size<=9223372036854775806:=by omega
 have i:=il l;clear p r n u t q l;cases hpa:i8 (byt a)with
 | false=>
  have d:Hid (kP (byt s) c=none):=by unfold Hid;rw [i.out,hpa];simp
  go_wp2_with (first | (go_at_call 105;refine(lz _ _ (by assumption)).mono ?_;rintro e w' ⟨rfl,rfl⟩;first | rw [hpa]) | (go_at_call 106;refine(lu _ _ (by assumption)).mono ?_;rintro e w' ⟨rfl,rfl⟩))
  refine bodyPost_ret (v:= .tuple #[.int .i64 0,.int .i64 0,.bool false]) (by simp [results,Tryz.results103,go_sem]) rfl ?_;exact⟨f.out,by rw [d.out];rfl⟩
 | true=>
  by_cases m:63<iF 0 (byt a)
  ·have d:Hid (kP (byt s) c=none):=by unfold Hid;rw [i.out,hpa];simp [m]
   go_wp2_with (first | (go_at_call 105;refine(lz _ _ (by assumption)).mono ?_;rintro e w' ⟨rfl,rfl⟩;first | rw [hpa]) | (go_at_call 106;refine(lu _ _ (by assumption)).mono ?_;rintro e w' ⟨rfl,rfl⟩))
   refine bodyPost_ret (v:= .tuple #[.int .i64 0,.int .i64 0,.bool false]) (by simp [results,Tryz.results103,go_sem]) rfl ?_;exact⟨f.out,by rw [d.out];rfl⟩
  ·by_cases h:iF 0 (byt a)=c
   ·have d:Hid (kP (byt s) c=none):=by unfold Hid;rw [i.out,hpa];simp [h]
    have o:(iF 0 (byt a)==c)=true:=by simpa using h
    clear h;go_wp2_with (first | (go_at_call 105;refine(lz _ _ (by assumption)).mono ?_;rintro e w' ⟨rfl,rfl⟩;first | rw [hpa]) | (go_at_call 106;refine(lu _ _ (by assumption)).mono ?_;rintro e w' ⟨rfl,rfl⟩))
    refine bodyPost_ret (v:= .tuple #[.int .i64 0,.int .i64 0,.bool false]) (by simp [results,Tryz.results103,go_sem]) rfl ?_;exact⟨f.out,by rw [d.out];rfl⟩
   ·have o:(iF 0 (byt a)==c)=false:=by simpa using h
    have j:Hid (kP (byt s) c=if (lB (byt s) && (!i8 (byt b) || decide (iF 0 (byt b)<2)))=true then none else if lB (byt s)=true then some (iF 0 (byt a),iF 0 (byt b)) else some (iF 0 (byt a),1)):=by
     unfold Hid;rw [i.out,o,hpa];have:decide (63<iF 0 (byt a))=false:=by simpa using m
     rw [this];simp
    clear h;cases hst:lB (byt s)with
    | false=>
     have d:Hid (kP (byt s) c=some (iF 0 (byt a),1)):=by unfold Hid;rw [j.out,hst];simp
     cases hpb:i8 (byt b)with
     | true=>
      go_wp2_with (first | (go_at_call 105;refine(lz _ _ (by assumption)).mono ?_;rintro e w' ⟨rfl,rfl⟩;first | rw [hpa] | rw [hpb]) | (go_at_call 106;refine(lu _ _ (by assumption)).mono ?_;rintro e w' ⟨rfl,rfl⟩))
      refine bodyPost_ret (v:= .tuple #[.int .i64 (iF 0 (byt a)),.int .i64 1,.bool true]) (by simp [results,Tryz.results103,go_sem]) rfl ?_;exact⟨f.out,by rw [d.out];rfl⟩
     | false=>
      go_wp2_with (first | (go_at_call 105;refine(lz _ _ (by assumption)).mono ?_;rintro e w' ⟨rfl,rfl⟩;first | rw [hpa] | rw [hpb]) | (go_at_call 106;refine(lu _ _ (by assumption)).mono ?_;rintro e w' ⟨rfl,rfl⟩))
      refine bodyPost_ret (v:= .tuple #[.int .i64 (iF 0 (byt a)),.int .i64 1,.bool true]) (by simp [results,Tryz.results103,go_sem]) rfl ?_;exact⟨f.out,by rw [d.out];rfl⟩
    | true=>
     cases hpb:i8 (byt b)with
     | false=>
      have d:Hid (kP (byt s) c=none):=by unfold Hid;rw [j.out,hst,hpb];simp
      go_wp2_with (first | (go_at_call 105;refine(lz _ _ (by assumption)).mono ?_;rintro e w' ⟨rfl,rfl⟩;first | rw [hpa] | rw [hpb]) | (go_at_call 106;refine(lu _ _ (by assumption)).mono ?_;rintro e w' ⟨rfl,rfl⟩))
      refine bodyPost_ret (v:= .tuple #[.int .i64 0,.int .i64 0,.bool false]) (by simp [results,Tryz.results103,go_sem]) rfl ?_;exact⟨f.out,by rw [d.out];rfl⟩
     | true=>
      by_cases k:iF 0 (byt b)<2
      ·have d:Hid (kP (byt s) c=none):=by unfold Hid;rw [j.out,hst,hpb];simp [k]
       go_wp2_with (first | (go_at_call 105;refine(lz _ _ (by assumption)).mono ?_;rintro e w' ⟨rfl,rfl⟩;first | rw [hpa] | rw [hpb]) | (go_at_call 106;refine(lu _ _ (by assumption)).mono ?_;rintro e w' ⟨rfl,rfl⟩))
       refine bodyPost_ret (v:= .tuple #[.int .i64 0,.int .i64 0,.bool false]) (by simp [results,Tryz.results103,go_sem]) rfl ?_;exact⟨f.out,by rw [d.out];rfl⟩
      ·have d:Hid (kP (byt s) c=some (iF 0 (byt a),iF 0 (byt b))):=by unfold Hid;rw [j.out,hst,hpb];simp [k]
       go_wp2_with (first | (go_at_call 105;refine(lz _ _ (by assumption)).mono ?_;rintro e w' ⟨rfl,rfl⟩;first | rw [hpa] | rw [hpb]) | (go_at_call 106;refine(lu _ _ (by assumption)).mono ?_;rintro e w' ⟨rfl,rfl⟩))
       refine bodyPost_ret (v:= .tuple #[.int .i64 (iF 0 (byt a)),.int .i64 (iF 0 (byt b)),.bool true]) (by simp [results,Tryz.results103,go_sem]) rfl ?_;exact⟨f.out,by rw [d.out];rfl⟩
theorem Ah(s:ByteArray)(c:Int)(w:World)(r:s.size<=9223372036854775806):
  Calls Tryz.prog 75 #[.string s,.int .i64 c] w fun e w'=>ju w' w/\e= .returned (.bool (jg (byt s) c)):=by
 go_enter Tryz.func75,Tryz.ntmps75
 go_wp2_with fail
 refine(wP s w r).mono ?_;rintro e w1 ⟨q,a,b,rfl,o,p,y,v⟩;have f:=il q;by_cases k:s.toList=[]
 ·have i:Hid (jg (byt s) c=true):=by unfold Hid;rw [(nB s).2 k];rfl
  clear q o p y v r;generalize lB (byt s)=st at*;go_wp2_with fail
  go_ret;exact⟨f.out,by rw [i.out];rfl⟩
 ·have u:(byt b=[])↔b.toList=[]:=nB b;have t:(byt b=[48])↔b.toList=[48]:=pI b;have n:jg (byt s) c=if (!i8 (byt a) || decide (63<iF 0 (byt a)))=true then false
   else if lB (byt s)=true then !(iF 0 (byt a)==c) && ((byt b==[]) || (i8 (byt b) && !(byt b==[48])))
   else !(iF 0 (byt a)==c) || (decide (1<=iF 0 (byt a)) && decide (iF 0 (byt a)<=6)):=by
   conv=>lhs;unfold jg
   rw [if_neg (fun e=>k ((nB s).1 e)),o,p]
  have z:(byt b==[])=b.toList.isEmpty:=by
   by_cases h:b.toList=[]
   ·rw [u.2 h,h];rfl
   ·have m:byt b≠[]:=fun e=>h (u.1 e)
    have l:b.toList.isEmpty=false:=by simpa using h
    rw [l];simpa using m
  have A:(byt b==[48])=(b.toList==[48]):=by
   by_cases h:b.toList=[48]
   ·rw [t.2 h,h];rfl
   ·have m:byt b≠[48]:=fun e=>h (t.1 e)
    have l:(b.toList==[48])=false:=by simpa using h
    rw [l];simpa using m
  rw [z,A]at n;have hza:a.size<=9223372036854775806:=by omega
  have hzb:b.size<=9223372036854775806:=by omega
  have j:=il n;have hie:s.toList.isEmpty=false:=by simpa using k
  clear q o p y v r u t z A n k;cases hpa:i8 (byt a)with
  | false=>
   have i:Hid (jg (byt s) c=false):=by unfold Hid;rw [j.out,hpa];simp
   go_wp2_with (first | (go_at_call 105;refine(lz _ _ (by assumption)).mono ?_;rintro e w' ⟨rfl,rfl⟩;first | rw [hpa]) | (go_at_call 106;refine(lu _ _ (by assumption)).mono ?_;rintro e w' ⟨rfl,rfl⟩))
   go_ret;exact⟨f.out,by rw [i.out];rfl⟩
  | true=>
   by_cases x:63<iF 0 (byt a)
   ·have i:Hid (jg (byt s) c=false):=by unfold Hid;rw [j.out,hpa];simp [x]
    go_wp2_with (first | (go_at_call 105;refine(lz _ _ (by assumption)).mono ?_;rintro e w' ⟨rfl,rfl⟩;first | rw [hpa]) | (go_at_call 106;refine(lu _ _ (by assumption)).mono ?_;rintro e w' ⟨rfl,rfl⟩))
    go_ret;exact⟨f.out,by rw [i.out];rfl⟩
   ·have d:Hid (jg (byt s) c=if lB (byt s)=true then !(iF 0 (byt a)==c) && (b.toList.isEmpty || (i8 (byt b) && !(b.toList==[48]))) else !(iF 0 (byt a)==c) || (decide (1<=iF 0 (byt a)) && decide (iF 0 (byt a)<=6))):=by
     unfold Hid;rw [j.out,hpa];have:decide (63<iF 0 (byt a))=false:=by simpa using x
     rw [this];simp
    clear j;cases hst:lB (byt s)with
    | false=>
     rw [hst]at d;simp only [Bool.false_eq_true,if_false]at d;go_wp2_with (first | (go_at_call 105;refine(lz _ _ (by assumption)).mono ?_;rintro e w' ⟨rfl,rfl⟩;first | rw [hpa]) | (go_at_call 106;refine(lu _ _ (by assumption)).mono ?_;rintro e w' ⟨rfl,rfl⟩))
     all_goals
      go_ret;refine⟨f.out,?_⟩;rw [d.out];simp [*]<;>first | rfl | omega
    | true=>
     rw [hst]at d;simp only [if_true]at d;cases hpb:i8 (byt b)with
     | true=>
      rw [hpb]at d;go_wp2_with (first | (go_at_call 105;refine(lz _ _ (by assumption)).mono ?_;rintro e w' ⟨rfl,rfl⟩;first | rw [hpa] | rw [hpb]) | (go_at_call 106;refine(lu _ _ (by assumption)).mono ?_;rintro e w' ⟨rfl,rfl⟩))
      all_goals
       go_ret;refine⟨f.out,?_⟩;rw [d.out];simp [*]<;>first | rfl | omega
     | false=>
      rw [hpb]at d;go_wp2_with (first | (go_at_call 105;refine(lz _ _ (by assumption)).mono ?_;rintro e w' ⟨rfl,rfl⟩;first | rw [hpa] | rw [hpb]) | (go_at_call 106;refine(lu _ _ (by assumption)).mono ?_;rintro e w' ⟨rfl,rfl⟩))
      all_goals
       go_ret;refine⟨f.out,?_⟩;rw [d.out];simp [*]<;>first | rfl | omega
def vd(L:List ByteArray):List Value:=L.map fun x=> .string x
theorem pY(s:ByteArray)(f k:Nat)(_hf:f<=k):byt (s.extract f k)=((byt s).drop f).take (k - f):=by
 rw [ny,List.drop_take]
structure PtsIn(s:ByteArray)(D:List ByteArray)(f k:Nat):Prop where
 le:k<=s.size
 fk:f<=k
 no:∀ x∈((byt s).drop f).take (k - f),x≠32
 eq:ja (byt s)=D.map byt++ja ((byt s).drop f)
 sz:∀ x∈D,x.size<=s.size
 ln:D.length<=f
theorem PtsIn.cut{s:ByteArray}{D:List ByteArray}{f k:Nat}(h:PtsIn s D f k)(b:(byt s)[k]?=some 32)(hlt:k<s.size):PtsIn s (D++[s.extract f k]) (k+1) (k+1):=by
 have d:=h.fk;refine⟨by omega,Nat.le_refl _,by simp,?_,?_,by have:=h.ln;simp;omega⟩
 ·rw [h.eq,List.map_append,List.append_assoc];congr 1
  have e:(byt s).drop f=((byt s).drop f).take (k - f)++32::(byt s).drop (k+1):=by
   have i:=ns b;have c:((byt s).drop f).drop (k - f)=(byt s).drop k:=by rw [List.drop_drop];congr 1;omega
   conv=>lhs;rw [<-List.take_append_drop (k - f) ((byt s).drop f),c,i]
  rw [e,qQ _ _ h.no];simp [pY s f k d]
 ·intro x a;rcases List.mem_append.1 a with a | a
  ·exact h.sz x a
  ·simp at a;rw [a];simp;omega
theorem PtsIn.step{s:ByteArray}{D:List ByteArray}{f k:Nat}(h:PtsIn s D f k)(i:k<s.size)(d:s[k].toNat≠32):PtsIn s D f (k+1):=by
 have hf:=h.fk;refine⟨by omega,by omega,?_,h.eq,h.sz,h.ln⟩;intro x a;have b:k - f<((byt s).drop f).length:=by rw [List.length_drop,iT];omega
 have e:k+1 - f=(k - f)+1:=by omega
 rw [e,List.take_succ_eq_append_getElem b]at a;rcases List.mem_append.1 a with a | a
 ·exact h.no x a
 ·have c:((byt s).drop f)[k - f]?=some s[k].toNat:=by
   rw [List.getElem?_drop,show f+(k - f)=k by omega];exact mt s k i
  rw [List.getElem?_eq_getElem b]at c;rw [Option.some.inj c]at a;simp at a;rw [a];exact d
theorem PtsIn.fin{s:ByteArray}{D:List ByteArray}{f:Nat}(h:PtsIn s D f s.size):ja (byt s)=(D++[s.extract f s.size]).map byt/\(∀ x∈D++[s.extract f s.size],x.size<=s.size)/\(D++[s.extract f s.size]).length<=s.size+1:=by
 have d:=h.fk;have b:=h.no;have c:((byt s).drop f).take (s.size - f)=(byt s).drop f:=List.take_of_length_le (by rw [List.length_drop,iT];omega);rw [c]at b;refine⟨?_,?_,by have:=h.ln;simp;omega⟩
 ·rw [h.eq,qY _ b,List.map_append];simp [pY s f s.size d,c]
 ·intro x a;rcases List.mem_append.1 a with a | a
  ·exact h.sz x a
  ·simp at a;rw [a];simp
theorem Dr(s:ByteArray)(w:World)(hs:s.size<=1048576):
  Calls Tryz.prog 74 #[.string s] w fun e w'=>∃ (L:List ByteArray) (x:Option Addr) (z:Nat),e= .returned (.slice x L.length z)/\L.map byt=ja (byt s)/\(∀ y∈L,y.size<=s.size)/\w'.ownsRow w.heap.size 9 1 (.slice x L.length z) L.length (vd L)/\w.grownBy w' none:=by
 obtain⟨G,C,H,A,E⟩:=info_parts xE;have W:Hid (PtsIn s [] 0 0):=⟨by omega,by omega,by simp,by simp,by simp,by simp⟩;go_enter Tryz.func74,Tryz.ntmps74
 go_wp2_with fail
 go_loopw [3,4,5] (fun lv fv i w'=>∃ (D:List ByteArray) (f k:Nat),i= .int .i64 k/\fv= .int .i64 f/\k<=s.size+1/\Hid (PtsIn s D f k\/(k=s.size+1/\D.map byt=ja (byt s)/\(∀ y∈D,y.size<=s.size)))/\Hid (D.length<=k)/\Hid (w'.ownsRow w.heap.size 9 1 lv D.length (vd D)/\w.grownBy w' none)) (fun _ _ i _=>s.size+1 - (intOf i).toNat)
 case atStart=>exact⟨[],0,0,rfl,rfl,by omega,il (Or.inl W.out),il (by simp),⟨rfl,Or.inl ⟨rfl,rfl⟩⟩,iu _ _⟩
 case round=>
  obtain⟨D,f,k,rfl,rfl,hk,n,J,c⟩:=hrel;obtain⟨a,T⟩:∃ a,a=wr:=⟨_,rfl⟩;subst T;obtain⟨x1,x2,x3,rfl⟩:=iy c.out.1;have X:=iC c.out.1;subst X;have h:=il c.out.1;have o:=il c.out.2;have hsz2:=c.out.2.size;have V:=iB h.out;have hDl:=J.out;have B:D.length+1<=maxLen:=by unfold maxLen;omega
  rcases n.out with hp | ⟨hk1,hd1,hd2⟩
  ·have r:=il hp;have Y:=hp.le;have hfk:=hp.fk;have N:(k:Int)<=s.size:=by omega
   have q1:(0:Int)<=(f:Int):=by omega
   have q2:(f:Int)<=k:=by omega
   have I:Hid (∀ (w6:World) (g6 b:Nat),w6.ownsRow w.heap.size 9 1 (.slice (some ⟨g6,0,none⟩) (D.length+1) b) (D.length+1) (vd D++[.string (s.extract f k)])->(a.alloc (.cells #[.string (s.extract f k)] 9)).grownBy w6 (Value.slice x1 D.length x3).ownBlock->w6.ownsRow w.heap.size 9 1 (.slice (some ⟨g6,0,none⟩) (D.length+1) b) (D++[s.extract f k]).length (vd (D++[s.extract f k]))/\w.grownBy w6 none):=by
    intro w6 g6 b Q M;refine⟨?_,jH (ir o.out) M (fun q e=>V q e)⟩;simpa [vd]using Q
   clear hp n c;by_cases u:k<s.size
   ·have q3:(k:Int)<s.size:=by omega
    have U:((k:Int)==(s.size:Int))=false:=by simp;omega
    by_cases m:s[k].toNat=32
    ·have O:(((s[k].toNat:Nat):Int)==32)=true:=by simp;omega
     have d:Hid (PtsIn s (D++[s.extract f k]) (k+1) (k+1)):=r.out.cut (by rw [mt s k u,m]) u;clear m;go_wp2_with (at_builtin;refine wpList_append_lies _ rfl _ _ _ rfl w.heap.size 9 G _ 1 16 Tryz.underlying24 C H A E rfl (by omega) (.slice x1 D.length x3) D.length (vd D) rfl (iK h.out) ⟨a.heap.size,0,none⟩ 1 1 [.string (s.extract f k)] rfl rfl (World.news_of_block (cs:= #[.string (s.extract f k)]) (t:=9) (fr:=(0,0)) (heap_alloc_new a _)) (by simp [Value.oneCell']) (by omega) B (by omega) (by simp;omega) (a.heap.size+1) (by simp) ?_;intro g6 b w6 l j v R;have F:=il (I.out w6 g6 b l j);clear l j v)
     go_roundw
     case rel=>exact⟨D++[s.extract f k],k+1,k+1,by go_num,by go_num,by omega,il (Or.inl d.out),il (by simp;omega),F⟩
     case measure=>simp [intOf];omega
    ·have O:(((s[k].toNat:Nat):Int)==32)=false:=by simp;omega
     have d:Hid (PtsIn s D f (k+1)):=r.out.step u m;clear m;go_wp2_with fail
     go_roundw
     case rel=>exact⟨D,f,k+1,by go_num,rfl,by omega,il (Or.inl d.out),il (by omega),h.out,o.out⟩
     case measure=>simp [intOf];omega
   ·have p:k=s.size:=by omega
    have U:((k:Int)==(s.size:Int))=true:=by simp;omega
    have q5:k<=s.size:=Y;have d:Hid (ja (byt s)=(D++[s.extract f k]).map byt/\(∀ x∈D++[s.extract f k],x.size<=s.size)/\(D++[s.extract f k]).length<=s.size+1):=by
     have:=r.out;rw [p]at this ⊢;exact this.fin
    have S:=il p;clear p;go_wp2_with (at_builtin;refine wpList_append_lies _ rfl _ _ _ rfl w.heap.size 9 G _ 1 16 Tryz.underlying24 C H A E rfl (by omega) (.slice x1 D.length x3) D.length (vd D) rfl (iK h.out) ⟨a.heap.size,0,none⟩ 1 1 [.string (s.extract f k)] rfl rfl (World.news_of_block (cs:= #[.string (s.extract f k)]) (t:=9) (fr:=(0,0)) (heap_alloc_new a _)) (by simp [Value.oneCell']) (by omega) B (by omega) (by simp;omega) (a.heap.size+1) (by simp) ?_;intro g6 b w6 l j v R;have F:=il (I.out w6 g6 b l j);clear l j v)
    go_roundw
    case rel=>exact⟨D++[s.extract f k],k+1,k+1,by go_num,by go_num,by omega,il (Or.inr ⟨by rw [S.out],d.out.1.symm,d.out.2.1⟩),il (by simp;omega),F⟩
    case measure=>simp [intOf];omega
  ·have N:(s.size:Int)<k:=by omega
   have K:=il hd1;have P:=il hd2;clear hd1 hd2 hk1 n c;go_wp2_with fail
   go_ret;exact⟨D,x1,x3,rfl,K.out,P.out,h.out,o.out⟩
def StrsAt(w:World)(v:Value)(L:List ByteArray):Prop:=
 ∃ ao cap,v= .slice ao L.length cap/\∀ k (hk:k<L.length),∃ g o,ao=some ⟨g,o,none⟩/\w.cell? ⟨g,o+k,none⟩=some (.string L[k])
theorem StrsAt.pres{w w':World}{v:Value}{L:List ByteArray}(h:StrsAt w v L)(d:Pres w w'):StrsAt w' v L:=by
 obtain⟨a,f,e,hc⟩:=h;exact⟨a,f,e,fun k hk=>by obtain⟨g,o,b,c⟩:=hc k hk;exact⟨g,o,b,d _ _ c⟩⟩
theorem AD{w:World}{base:Nat}{x:Option Addr}{z:Nat}{L:List ByteArray}(h:w.ownsRow base 9 1 (.slice x L.length z) L.length (vd L)):StrsAt w (.slice x L.length z) L:=by
 rcases h.2 with ⟨e,e0⟩ | ⟨g,cap,cur,hv,hb,hh,hc,_⟩
 ·exact⟨x,z,rfl,fun k hk=>by omega⟩
 ·simp only [Value.slice.injEq,true_and]at hv;obtain⟨rfl,rfl⟩:=hv;refine⟨some ⟨g,0,none⟩,z,rfl,fun k hk=>⟨g,0,rfl,?_⟩⟩;rw [Nat.zero_add,h.cellAt k (by omega)];simp [vd,hk]
theorem StrsAt.init{w:World}{x:Option Addr}{z:Nat}{L:List ByteArray}(h:StrsAt w (.slice x L.length z) L)(m:Nat)(d:m<=L.length):StrsAt w (.slice x m z) (L.take m):=by
 obtain⟨ao,cap,e,hc⟩:=h;simp only [Value.slice.injEq,true_and]at e;obtain⟨rfl,rfl⟩:=e;refine⟨x,z,by simp [Nat.min_eq_left d],fun k hk=>?_⟩;have b:k<L.length:=by simp at hk;omega
 obtain⟨g,o,a,c⟩:=hc k b;exact⟨g,o,a,by simpa using c⟩
theorem Ai(out:List Int)(t n:Int)(hn:0<n)(ho:out.length<=500):lG (out++[t]) t (n - 1)=lG out t n:=by
 unfold lG;have e:min n.toNat (501 - out.length)=min (n - 1).toNat (501 - (out++[t]).length)+1:=by simp;omega
 rw [e,List.replicate_succ,List.append_assoc];rfl
theorem ww(out:List Int)(t n:Int)(h:¬(0<n/\out.length<=500)):lG out t n=out:=by
 unfold lG;have e:min n.toNat (501 - out.length)=0:=by omega
 rw [e];simp
theorem BF(l:List Nat):∀ n,iF n l<=1000:=by
 induction l with
 | nil=>intro n;unfold iF;omega
 | cons b r ih=>intro n;unfold iF;split
          ·exact ih _
          ·omega
theorem Fp{l:List Nat}{a t n:Int}(h:kP l a=some (t,n)):n<=1000:=by
 unfold kP at h;split at h
 ·cases h
 ·split at h
  ·cases h
  ·split at h
   ·simp only [Option.some.injEq,Prod.mk.injEq]at h;rw [<-h.2];exact BF _ _
   ·simp only [Option.some.injEq,Prod.mk.injEq]at h;omega
def sQ(o:Option (List Int × Int))(v:Value):Value:=match o with
 | none=> .tuple #[.slice none 0 0,.int .i64 0,.bool false]
 | some (_,a)=> .tuple #[v,.int .i64 a,.bool true]
def rH(o:Option (List Int × Int)):List Int:=match o with
 | none=>[]
 | some (l,_)=>l
def E3(L:List (List Nat))(w:World)(e:Ending)(w':World):Prop:=
 ∃ x y z,e= .returned (sQ (jl L (-1) []) (.slice x y z))/\w'.ownsRow w.heap.size 3 1 (.slice x y z) (rH (jl L (-1) [])).length (iM (rH (jl L (-1) [])))/\w.grownBy w' none/\(rH (jl L (-1) [])).length<=501
theorem zF(L:List ByteArray)(v:Value)(w:World)(hS:StrsAt w v L)(B:∀ x∈L,x.size<=9223372036854775806)(hln:L.length<=9223372036854775806):
  Calls Tryz.prog 73 #[v] w (E3 (L.map byt) w):=by
 obtain⟨i0,Q,ap,Z,S⟩:=info_parts kn;obtain⟨ao,cap,rfl,hc⟩:=hS;have U:=il hc;have HZ:=il B;clear hc B;go_enter Tryz.func73,Tryz.ntmps73
 go_wp2_with fail
 go_loopw [5,6,7] (fun ov av i w'=>∃ (out:List Int) (c:Int) (k:Nat),k<=L.length/\i= .int .i64 k/\av= .int .i64 c/\Hid (jl ((L.map byt).drop k) c out=jl (L.map byt) (-1) [])/\Hid (out.length<=501)/\Hid (w'.ownsRow w.heap.size 3 1 ov out.length (iM out)/\w.grownBy w' none)) (fun _ _ i _=>L.length - (intOf i).toNat)
 case atStart=>exact⟨[], -1,0,Nat.zero_le _,rfl,rfl,by simp [Hid],il (by simp),⟨rfl,Or.inl ⟨rfl,rfl⟩⟩,iu _ _⟩
 case round=>
  obtain⟨out,c,k,hk,rfl,rfl,h,D,b⟩:=hrel;obtain⟨A,ag⟩:∃ A,A=wr:=⟨_,rfl⟩;subst ag;obtain⟨x1,x2,x3,rfl⟩:=iy b.out.1;have ar:=iC b.out.1;subst ar;have H:=il b.out.1;have m:=il b.out.2;have F:=D.out;by_cases z:k<L.length
  ·obtain⟨g,o,rfl,c0⟩:=U.out k z;have d0:=iq m.out _ _ c0;have hk0:(0:Int)<=(k:Int):=by omega
   have hk1:(k:Int)<L.length:=by omega
   have ae:k<(L.map byt).length:=by simpa using z
   have y:Hid (jl ((L.map byt).drop k) c out=match kP (byt L[k]) c with | none=>none | some (t,n)=>jl ((L.map byt).drop (k+1)) t (lG out t n)):=by
    unfold Hid;rw [List.drop_eq_getElem_cons ae,jl];simp only [List.getElem_map];cases kP (byt L[k]) c<;>rfl
   have C:=il (FH L[k] c A (HZ.out _ (List.getElem_mem z)));clear c0 b D;generalize G:kP (byt L[k]) c=R at*;generalize L[k]=sk at*;go_wp2_with fail
   refine C.out.mono ?_;clear C;rintro e w6 ⟨s,rfl⟩;have aa:Hid (w6.ownsRow w.heap.size 3 1 (.slice x1 out.length x3) out.length (iM out)):=iE H.out (iL (r:=none) s) (fun _ e=>by cases e);have E:Hid (w.grownBy w6 none):=ji m.out s;clear s;cases R with
   | none=>
    simp only [Fz];have d:Hid (jl (L.map byt) (-1) []=none):=by unfold Hid;rw [<-h.out,y.out]
    go_wp2_with fail
    refine bodyPost_ret (v:= .tuple #[.slice none 0 0,.int .i64 0,.bool false]) (by simp [results,Tryz.results73,go_sem]) rfl ?_;refine⟨none,0,0,by rw [d.out];rfl,?_,E.out,?_⟩
    ·rw [d.out];exact⟨rfl,Or.inl ⟨rfl,rfl⟩⟩
    ·rw [d.out];simp [rH]
   | some tn=>
    obtain⟨t,n⟩:=tn;simp only [Fz];have N:Hid (jl ((L.map byt).drop (k+1)) t (lG out t n)=jl (L.map byt) (-1) []):=by unfold Hid;rw [<-h.out,y.out]
    have hn1000:=Fp G;clear y h G;go_wp2_with fail
    go_loopw [5,9] (fun ov nv w'=>∃ (a:List Int) (n':Int),nv= .int .i64 n'/\Hid (n'<=n/\lG a t n'=lG out t n/\a.length<=501)/\Hid (w'.ownsRow w.heap.size 3 1 ov a.length (iM a)/\w.grownBy w' none)) (fun _ nv _=>(intOf nv).toNat)
    case atStart=>exact⟨out,n,rfl,il ⟨by omega,rfl,F⟩,aa.out,E.out⟩
    case round=>
     obtain⟨a,n',rfl,P,b⟩:=hrel;obtain⟨f,al⟩:∃ f,f=wr:=⟨_,rfl⟩;subst al;obtain⟨y1,y2,W,rfl⟩:=iy b.out.1;have V:=iC b.out.1;subst V;obtain⟨f1,K,O⟩:=P.out;have j:=il b.out.1;have p:=il b.out.2;have hsz7:=b.out.2.size;have ak:=iB j.out;have u:=il K;clear P b K;have ab:a.length+1<=maxLen:=by unfold maxLen;omega
     by_cases au:0<n'
     ·by_cases am:a.length<=500
      ·have q5:(a.length:Int)<=500:=by omega
       have aj:Hid (lG (a++[t]) t (n' - 1)=lG out t n):=by unfold Hid;rw [Ai a t n' au am];exact u.out
       go_wp2_with (at_builtin;refine wpList_append_lies _ rfl _ _ _ rfl w.heap.size 3 i0 _ 1 8 Tryz.underlying39 Q ap Z S rfl (by omega) (.slice y1 a.length W) a.length (iM a) rfl (iK j.out) ⟨f.heap.size,0,none⟩ 1 1 [.int .i64 t] rfl rfl (World.news_of_block (cs:= #[.int .i64 t]) (t:=3) (fr:=(0,0)) (heap_alloc_new f _)) (by simp [Value.oneCell']) (by omega) ab (by omega) (by simp;omega) (f.heap.size+1) (by simp) ?_;intro g8 Y J M I X hlt8)
       have T:Hid (J.ownsRow w.heap.size 3 1 (.slice (some ⟨g8,0,none⟩) (a.length+1) Y) (a++[t]).length (iM (a++[t]))/\w.grownBy J none):=by
        refine⟨?_,jH (ir p.out) I (fun q e=>ak q e)⟩;simpa [iM]using M
       clear M I X;go_wp2
       go_roundw
       case rel=>exact⟨a++[t],n' - 1,rfl,il ⟨by omega,aj.out,by simp;omega⟩,T⟩
       case measure=>simp [intOf];omega
      ·have q5:¬(a.length:Int)<=500:=by omega
       have l:Hid (a=lG out t n):=by unfold Hid;rw [<-u.out,ww a t n' (by omega)]
       go_wp2_with fail
       go_roundw
       case rel=>exact⟨a,t,k+1,by omega,by go_num,rfl,il (by rw [l.out];exact N.out),il O,j.out,p.out⟩
       case measure=>simp [intOf];omega
     ·have l:Hid (a=lG out t n):=by unfold Hid;rw [<-u.out,ww a t n' (by omega)]
      go_wp2_with fail
      go_roundw
      case rel=>exact⟨a,t,k+1,by omega,by go_num,rfl,il (by rw [l.out];exact N.out),il O,j.out,p.out⟩
      case measure=>simp [intOf];omega
  ·have q2:(L.length:Int)<=(k:Int):=by omega
   have d:Hid (jl (L.map byt) (-1) []=some (out,c)):=by
    unfold Hid;rw [<-h.out,List.drop_eq_nil_of_le (by simp;omega)];rfl
   go_wp2_with fail
   refine bodyPost_ret (v:= .tuple #[.slice x1 out.length x3,.int .i64 c,.bool true]) (by simp [results,Tryz.results73,go_sem]) rfl ?_;refine⟨x1,out.length,x3,by rw [d.out];rfl,?_,m.out,?_⟩
   ·rw [d.out];exact H.out
   ·rw [d.out];exact F
def F6(p:AW)(v:Value):Value:= .tuple #[v,.int .i64 p.at_,.int .i64 (FR p.ok)]
theorem wT(l:List Nat)(k:Nat):kN l (k+1)=if mV (-1) (l.take (k+1))=true then k+1 else kN l k:=rfl
theorem x8(s:ByteArray)(w:World)(hs:s.size<=1048576):
  Calls Tryz.prog 46 #[.string s] w fun e w'=>∃ x y z,e= .returned (F6 (lF (byt s)) (.slice x y z))/\w'.ownsRow w.heap.size 3 1 (.slice x y z) (lF (byt s)).out.length (iM (lF (byt s)).out)/\w.grownBy w' none:=by
 have av:∀ w4:World,w4.ownsRow w.heap.size 3 1 (.slice none 0 0) ([]:List Int).length (iM []):=fun w4=>⟨rfl,Or.inl ⟨rfl,rfl⟩⟩
 have K:=il av;clear av;by_cases N:s.toList=[]
 ·have c:Hid (lF (byt s)=⟨[],0,true⟩):=by unfold Hid;rw [(nB s).2 N];rfl
  go_enter Tryz.func46,Tryz.ntmps46
  go_wp2_with fail
  refine bodyPost_ret (v:= .tuple #[.slice none 0 0,.int .i64 0,.int .i64 0]) (by simp [results,Tryz.results46,go_sem]) rfl ?_;exact⟨none,0,0,by rw [c.out];rfl,by rw [c.out];exact K.out _,iu _ _⟩
 ·have hie:s.toList.isEmpty=false:=by simpa using N
  have H:Hid (lF (byt s)=match jl (ja (byt s)) (-1) []with
    | some (o,_)=>if 500<o.length then ⟨[],0,false⟩ else ⟨o,0,true⟩
    | none=>⟨[],kN (byt s) (byt s).length,false⟩):=by
   unfold Hid;conv=>lhs;unfold lF
   rw [if_neg (fun e=>N ((nB s).1 e))];cases jl (ja (byt s)) (-1) []<;>rfl
  clear N;have an:Hid (∀ (u:ByteArray),u.size<=1048576->∀ d:World,w.grownBy d none->Calls Tryz.prog 74 #[.string u] d fun e w'=>∃ (L:List ByteArray) (x:Option Addr) (z:Nat),e= .returned (.slice x L.length z)/\L.map byt=ja (byt u)/\(∀ y∈L,y.size<=1048576)/\StrsAt w' (.slice x L.length z) L/\w.grownBy w' none/\L.length<=z/\L.length<=9223372036854775806):=by
   intro u hu d B;refine(Dr u d hu).mono ?_;rintro e w3 ⟨L,x,z,rfl,A,n,t,I⟩;have hz:L.length<=z/\z<=maxLen:=by
    rcases t.2 with ⟨q,e2⟩ | ⟨_,_,_,q,_,_,e2,e3,_⟩
    ·simp only [Value.slice.injEq]at q;exact⟨by omega,by unfold maxLen;omega⟩
    ·simp only [Value.slice.injEq,true_and]at q;exact⟨by omega,by omega⟩
   have hL:L.length<=u.size+1:=by
    have q:=congrArg List.length A;rw [List.length_map]at q;have:∀ l:List Nat,(ja l).length<=l.length+1:=by
     intro l;induction l with
     | nil=>simp [ja]
     | cons b r ih=>
      unfold ja;split
      ·simp;omega
      ·simp;omega
    have:=this (byt u);rw [iT]at this;omega
   exact⟨L,x,z,rfl,A,fun y hy=>by have:=n y hy;omega,AD t,ip B I,hz.1,by omega⟩
  go_enter Tryz.func46,Tryz.ntmps46
  go_wp2_with fail
  refine(an.out s hs w (iu _ _)).mono ?_;rintro e w1 ⟨L,x,z,rfl,A,n,t,I,F,h6⟩;have am:=il I;have f:=il (zF L (.slice x L.length z) w1 t (fun y hy=>by have:=n y hy;omega) h6);rw [A]at f;clear A n t I F h6;go_wp2_with fail
  refine f.out.mono ?_;clear f;rintro e d ⟨V,y2,P,rfl,X,B,hl2⟩;have ae:Hid (w.grownBy d none):=ip am.out B;have au:Hid (d.ownsRow w.heap.size 3 1 (.slice V y2 P) (rH (jl (ja (byt s)) (-1) [])).length (iM (rH (jl (ja (byt s)) (-1) [])))):=iR X am.out.size;have aC:=iC X;clear X B;generalize jl (ja (byt s)) (-1) []=W at*;cases W with
  | some oa=>
   obtain⟨o,a⟩:=oa;simp only [sQ,rH]at*;subst aC;by_cases F:500<o.length
   ·have c:Hid (lF (byt s)=⟨[],0,false⟩):=by unfold Hid;rw [H.out,if_pos F]
    have az:500<(o.length:Int):=by omega
    go_wp2_with fail
    refine bodyPost_ret (v:= .tuple #[.slice none 0 0,.int .i64 0,.int .i64 4]) (by simp [results,Tryz.results46,go_sem]) rfl ?_;exact⟨none,0,0,by rw [c.out];rfl,by rw [c.out];exact K.out _,ae.out⟩
   ·have c:Hid (lF (byt s)=⟨o,0,true⟩):=by unfold Hid;rw [H.out,if_neg F]
    have az:¬500<(o.length:Int):=by omega
    go_wp2_with fail
    refine bodyPost_ret (v:= .tuple #[.slice V o.length P,.int .i64 0,.int .i64 0]) (by simp [results,Tryz.results46,go_sem]) rfl ?_;exact⟨V,o.length,P,by rw [c.out];rfl,by rw [c.out];exact au.out,ae.out⟩
  | none=>
   simp only [sQ,rH]at*;have c:Hid (lF (byt s)=⟨[],kN (byt s) s.size,false⟩):=by unfold Hid;rw [H.out,iT]
   clear H au;go_wp2_with fail
   go_loopw [8] (fun kv w'=>∃ k:Nat,k<=s.size/\kv= .int .i64 k/\Hid (kN (byt s) k=kN (byt s) s.size)/\Hid (w.grownBy w' none)) (fun kv _=>(intOf kv).toNat)
   case atStart=>exact⟨s.size,Nat.le_refl _,rfl,il rfl,ae⟩
   case round=>
    obtain⟨k,hk,rfl,O,HG⟩:=hrel;obtain⟨w5,aI⟩:∃ w5,w5=wr:=⟨_,rfl⟩;subst aI;cases k with
    | zero=>
     have p:Hid (lF (byt s)=⟨[],0,false⟩):=by unfold Hid;rw [c.out,<-O.out];rfl
     go_wp2_with fail
     refine bodyPost_ret (v:= .tuple #[.slice none 0 0,.int .i64 0,.int .i64 4]) (by simp [results,Tryz.results46,go_sem]) rfl ?_;exact⟨none,0,0,by rw [p.out];rfl,by rw [p.out];exact K.out _,HG.out⟩
    | succ k=>
     have C:=wT (byt s) k;rw [O.out]at C;have aL:((k+1:Nat):Int)=(k:Int)+1:=by omega
     obtain⟨m,Z⟩:∃ m,m=k+1:=⟨_,rfl⟩;rw [<-Z]at C hk ⊢;have q0:(0:Int)<(m:Int):=by omega
     have q1:(m:Int)<=s.size:=by omega
     have ai:(s.extract 0 m).size<=1048576:=by simp;omega
     have al:byt (s.extract 0 m)=(byt s).take m:=by rw [ny,List.drop_zero]
     have Q:=il (an.out (s.extract 0 m) ai w5 HG.out);rw [al]at Q;have Y:=il C;have i:=il Z;clear C ai al O aL Z;go_wp2_with fail
     refine Q.out.mono ?_;clear Q;rintro e w6 ⟨M,x',R,rfl,J,S,U,m4,m5,m6⟩;have aB:0<M.length:=by
      have:=congrArg List.length J;rw [List.length_map]at this;have n:=List.length_pos_iff.2 (sD ((byt s).take m));omega
     obtain⟨j,D⟩:∃ j,M.length=j+1:=⟨M.length - 1,by omega⟩;have G:j<M.length:=by omega
     have aF:=U;obtain⟨ao,cp,e3,aj⟩:=aF;simp only [Value.slice.injEq,true_and]at e3;obtain⟨rfl,rfl⟩:=e3;obtain⟨g,o,rfl,c0⟩:=aj j G;have ag:=il (U.init j (by omega));have aq:(M.take j).map byt=(ja ((byt s).take m)).dropLast:=by
      rw [<-J,List.dropLast_eq_take,List.length_map,D,Nat.add_sub_cancel,List.map_take]
     have ap:(ja ((byt s).take m)).getLastD []=byt M[j]:=by
      rw [<-J];rw [List.getLastD_eq_getLast?,List.getLast?_eq_getElem?,List.length_map,D,Nat.add_sub_cancel,List.getElem?_map,List.getElem?_eq_getElem G];rfl
     have f:=il (zF (M.take j) (.slice (some ⟨g,o,none⟩) j R) w6 ag.out (fun y hy=>by have:=S y (List.mem_of_mem_take hy);omega) (by simp;omega));rw [aq]at f;have h:Hid (mV (-1) ((byt s).take m)=match jl (ja ((byt s).take m)).dropLast (-1) []with
       | none=>false
       | some (_,a)=>jg (byt M[j]) a):=by
      unfold Hid mV;rw [ap];cases jl (ja ((byt s).take m)).dropLast (-1) []<;>rfl
     have aO:=il (S M[j] (List.getElem_mem G));have aN:=il m4;have hjz:(j:Int)<=(R:Int):=by omega
     have hjz2:(j:Int)+1<=(R:Int):=by omega
     generalize M[j]=mj at*;rw [D];have hj0:(0:Int)<=(j:Int):=by omega
     have hj1:(j:Int)<(j:Int)+1:=by omega
     have hj9:(j:Int)<=9223372036854775805:=by omega
     clear J S U m4 m5 aj aq ap ag aB G m6 D;go_wp2_with (go_at_call 73;refine f.out.mono ?_)
     clear f;rintro e w7 ⟨a1,a2,a3,rfl,aD,T,aG⟩;have ad:Hid (w.grownBy w7 none):=ip aN.out T;have d0:=iq T _ _ c0;clear aD T aG c0;cases hW:jl (ja ((byt s).take m)).dropLast (-1) []with
     | none=>
      rw [hW]at h;simp only [sQ];have ab:Hid (kN (byt s) k=kN (byt s) s.size):=by
       unfold Hid;rw [Y.out,h.out,if_neg (by simp)]
      go_wp2_with fail
      go_roundw
      case rel=>exact⟨k,by have:=i.out;omega,by rw [i.out];go_num,ab,ad⟩
      case measure=>have:=i.out;simp [intOf];omega
     | some oa=>
      obtain⟨o',a⟩:=oa;rw [hW]at h;simp only [sQ];simp only at h;have HB:=il (Ah mj a w7 (by have:=aO.out;omega));cases hbg:jg (byt mj) a with
      | true=>
       have p:Hid (lF (byt s)=⟨[],m,false⟩):=by unfold Hid;rw [c.out,Y.out,h.out,hbg,if_pos rfl]
       rw [hbg]at HB;go_wp2_with (go_at_call 75;refine HB.out.mono ?_;rintro e w8 ⟨E,rfl⟩)
       refine bodyPost_ret (v:= .tuple #[.slice none 0 0,.int .i64 m,.int .i64 4]) (by simp [results,Tryz.results46,go_sem]) rfl ?_;exact⟨none,0,0,by rw [p.out];rfl,by rw [p.out];exact K.out _,ji ad.out E⟩
      | false=>
       have ab:Hid (kN (byt s) k=kN (byt s) s.size):=by
        unfold Hid;rw [Y.out,h.out,hbg,if_neg (by simp)]
       rw [hbg]at HB;go_wp2_with (go_at_call 75;refine HB.out.mono ?_;rintro e w8 ⟨E,rfl⟩;have aE:Hid (w.grownBy w8 none):=ji ad.out E;clear E)
       go_roundw
       case rel=>exact⟨k,by have:=i.out;omega,by rw [i.out];go_num,ab,aE⟩
       case measure=>have:=i.out;simp [intOf];omega
theorem rC(l:List Int)(v:Value)(w:World)(t:IntsAt w.heap.size w v l):
  Calls Tryz.prog 65 #[v] w fun e w'=>e= .returned (.bool (jd l))/\w.grownBy w' none:=by
 obtain⟨ao,cap,rfl,hcap,hc⟩:=t;by_cases n:l.length<=500
 ·have q:(l.length:Int)<=500:=by omega
  have b:Hid (jd l=l.all okN):=by unfold Hid jd;rw [decide_eq_true n];rfl
  have u:=il hc;clear hc;go_enter Tryz.func65,Tryz.ntmps65
  go_wp2
  go_loopw [3] (fun i w'=>∃ k:Nat,k<=l.length/\i= .int .i64 k/\w'=w/\Hid ((l.take k).all okN=true)) (fun i _=>l.length - (intOf i).toNat)
  case atStart=>exact⟨0,Nat.zero_le _,rfl,rfl,rfl⟩
  case round=>
   obtain⟨k,hk,rfl,rfl,j⟩:=hrel;by_cases f:k<l.length
   ·obtain⟨g,o,rfl,hg,c0⟩:=u.out k f;have c:=il (kY l okN k f);have hk0:(0:Int)<=(k:Int):=by omega
    have hk1:(k:Int)<l.length:=by omega
    have p:Hid (okN l[k]=false->jd l=false):=by
     intro h;rw [b.out];have:(l.take (k+1)).all okN=false:=by rw [c.out,h];simp
     rw [<-List.take_append_drop (k+1) l,List.all_append,this];rfl
    generalize l[k]=x at*;by_cases m:0<=x
    ·by_cases d:x<=63
     ·have r:Hid ((l.take (k+1)).all okN=true):=by unfold Hid;rw [c.out,j.out];simp [okN,m,d]
      have y:¬x<0:=by omega
      have s:¬63<x:=by omega
      go_wp2
      go_roundw
      case rel=>exact⟨k+1,by omega,by go_num,trivial,r⟩
      case measure=>simp [intOf];omega
     ·have a:=il (p.out (by simp [okN,d]));have s:63<x:=by omega
      go_wp2
      go_ret;exact⟨by rw [a.out];rfl,iu _ _⟩
    ·have a:=il (p.out (by simp [okN,m]));have y:x<0:=by omega
     go_wp2
     go_ret;exact⟨by rw [a.out];rfl,iu _ _⟩
   ·have a:Hid (jd l=true):=by
     unfold Hid;rw [b.out];have:=j.out;rw [List.take_of_length_le (by omega)]at this;exact this
    go_wp2
    go_ret;exact⟨by rw [a.out];rfl,iu _ _⟩
 ·have q:500<(l.length:Int):=by omega
  have b:Hid (jd l=false):=by unfold Hid jd;rw [decide_eq_false n];rfl
  clear hc;go_enter Tryz.func65,Tryz.ntmps65
  go_wp2
  go_ret;exact⟨by rw [b.out];rfl,iu _ _⟩
def lD:List Int->Nat
 | []=>0
 | t::r=>(r.takeWhile (·==t)).length+1
theorem nN(t:Int)(r:List Int):lD (t::r)=(r.takeWhile (·==t)).length+1:=rfl
theorem Fw(t:Int)(r:List Int)(k:Nat)(a:k<(t::r).length)(i:∀ j (c:j<(t::r).length),j<k->(t::r)[j]=t)(e:(t::r)[k]≠t):lD (t::r)=k:=by
 rw [nN];cases k with
 | zero=>exact absurd rfl e
 | succ k=>
  have d:∀ (q:List Int) (k:Nat) (a:k<q.length),(∀ j (c:j<q.length),j<k->q[j]=t)->q[k]≠t->(q.takeWhile (·==t)).length=k:=by
   intro q;induction q with
   | nil=>intro k a;simp at a
   | cons b q ih=>
    intro k a d h;cases k with
    | zero=>rw [List.takeWhile_cons,if_neg (by simpa using h)];rfl
    | succ k=>
     have f:=d 0 (by simp) (by omega);simp at f;rw [List.takeWhile_cons,if_pos (by simpa using f)];simp;exact ih k (by simpa using a) (fun j c hjk=>by have:=d (j+1) (by simpa using c) (by omega);simpa using this) (by simpa using h)
  rw [d r k (by simpa using a) (fun j c hjk=>by have:=i (j+1) (by simpa using c) (by omega);simpa using this) (by simpa using e)]
theorem DF(t:Int)(r:List Int)(c:∀ j (e:j<(t::r).length),(t::r)[j]=t):lD (t::r)=(t::r).length:=by
 rw [nN];have:r.takeWhile (·==t)=r:=by
  have d:∀ x∈r,x=t:=by
   intro x a;obtain⟨j,e,rfl⟩:=List.getElem_of_mem a;have:=c (j+1) (by simpa using e);simpa using this
  clear c;induction r with
  | nil=>rfl
  | cons b q ih=>rw [List.takeWhile_cons,if_pos (by simpa using d b (by simp)),ih (fun x a=>d x (by simp [a]))]
 rw [this];rfl
theorem zf(t:Int)(r:List Int):grp (t::r)=(t,(lD (t::r):Int))::grp ((t::r).drop (lD (t::r))):=by
 induction r generalizing t with
 | nil=>simp [grp,lD]
 | cons b q ih=>
  have e:=ih b;by_cases h:t=b
  ·subst h;have a:lD (t::t::q)=lD (t::q)+1:=by simp [lD]
   rw [grp,e,a];simp
  ·have a:lD (t::b::q)=1:=by
    rw [nN,List.takeWhile_cons,if_neg (by simpa using fun e=>h e.symm)];rfl
   rw [grp,a,e];simp [h];exact e.symm
theorem Cq(l:List Int):lD l<=l.length:=by
 cases l with
 | nil=>simp [lD]
 | cons t r=>
  rw [nN];have:=(List.takeWhile_sublist (·==t) (l:=r)).length_le;simpa using this
theorem zL(t:Int)(r:List Int)(v:Value)(w:World)(H:IntsAt w.heap.size w v (t::r))(hln:(t::r).length<=1000000):
  Calls Tryz.prog 68 #[v] w fun e w'=>e= .returned (.int .i64 (lD (t::r)))/\w.grownBy w' none:=by
 obtain⟨ao,cap,rfl,hcap,hc⟩:=H;obtain⟨g,o,rfl,hg,c0⟩:=hc 0 (by simp);have E:Hid (∀ k (m:k<(t::r).length),w.cell? ⟨g,o+k,none⟩=some (.int .i64 (t::r)[k])):=by
  intro k m;obtain⟨g',o',e,_,c⟩:=hc k m;simp only [Option.some.injEq,Addr.mk.injEq,and_true]at e;obtain⟨rfl,rfl⟩:=e;exact c
 simp only [List.getElem_cons_zero,Nat.add_zero]at c0;clear hc;have hpos:0<(t::r).length:=by simp
 generalize B:t::r=l at*;have A:=il B;clear B;have hpos':(0:Int)<l.length:=by omega
 go_enter Tryz.func68,Tryz.ntmps68
 go_wp2_with fail
 go_loopw [3] (fun i w'=>∃ k:Nat,k<=l.length/\i= .int .i64 k/\Hid (ju w' w)/\Hid (∀ j (d:j<l.length),j<k->l[j]=t)) (fun i _=>l.length - (intOf i).toNat)
 case atStart=>exact⟨0,Nat.zero_le _,rfl,il (jr _),il (fun j _ h=>by omega)⟩
 case round=>
  obtain⟨k,m,rfl,p,z⟩:=hrel;obtain⟨f,D⟩:∃ f,f=wr:=⟨_,rfl⟩;subst D;have q:∀ a,f.cell? a=w.cell? a:=fun a=>by simp [World.cell?,p.out.1]
  have c1:f.cell? ⟨g,o,none⟩=some (.int .i64 t):=by rw [q];exact c0
  by_cases n:k<l.length
  ·have c2:f.cell? ⟨g,o+k,none⟩=some (.int .i64 l[k]):=by rw [q];exact E.out k n
   have hk0:(0:Int)<=(k:Int):=by omega
   have F:(k:Int)<l.length:=by omega
   clear q c0;by_cases b:l[k]=t
   ·have C:(l[k]==t)=true:=by simpa using b
    have G:Hid (∀ j (d:j<l.length),j<k+1->l[j]=t):=by
     intro j d hjk;by_cases e:j=k
     ·subst e;exact b
     ·exact z.out j d (by omega)
    clear b;generalize l[k]=x at*;go_wp2_with fail
    go_quiet (fail)
    go_wp2_with fail
    go_roundw
    case rel=>exact⟨k+1,by omega,by go_num,il (jW p.out _),G⟩
    case measure=>simp [intOf];omega
   ·have C:(l[k]==t)=false:=by simpa using b
    have s:Hid (lD l=k):=by
     have y:=z.out;have u:=A.out;subst u;exact Fw t r k n y b
    clear b;generalize l[k]=x at*;go_wp2_with fail
    go_quiet (fail)
    go_wp2_with fail
    go_ret;exact⟨by rw [s.out];rfl,iY _ (iL p.out)⟩
  ·have s:Hid (lD l=k):=by
    have y:=z.out;have u:=A.out;subst u;rw [DF t r (fun j d=>y j d (Nat.lt_of_lt_of_le d (Nat.le_of_not_lt n)))];exact Nat.le_antisymm (Nat.le_of_not_lt n) m
   have F:decide ((k:Int)<l.length)=false:=by simp;omega
   clear q c0;go_wp2_with fail
   go_quiet (fail)
   go_wp2_with fail
   go_ret;exact⟨by rw [s.out];rfl,iY _ (iL p.out)⟩
end
end Go.Proofs.YtklenjmfalljgabGreatDoor
