/- The texts TxtP TxtQ TxtR TxtW Scn Scn2. -/
import Derived.Test.YtklenjmfalljgabGreatDoorM02
import Derived.RowKit
import Derived.Lib.ItoaNum
import Derived.Lib.Join
import Derived.WalkSpells
import Derived.WalkLawsBesides
import Derived.Deep.Light
namespace Go.Proofs.YtklenjmfalljgabGreatDoor
set_option maxRecDepth 100000
set_option maxHeartbeats 8000000
section
def isD(b:Nat):Bool:=decide (48<=b) && decide (b<=57)
def nxt(n:Int)(b:Nat):Int:=max n 0*10+((b:Int) - 48)
def kz(m:Int):Bool:=decide (0<m) && decide (10*m<63)
def lE(n d last:Int):Bool:=
 !(n==0) && ((decide (max n 0*10+d<=63) && !(max n 0*10+d==last)) || kz (max n 0*10+d))
def thr(last:Int):Int->List Nat->Int × Nat
 | n,[]=>(n,0)
 | n,b::r=>if (isD b && lE n ((b:Int) - 48) last)=true then ((thr last (nxt n b) r).1,(thr last (nxt n b) r).2+1) else (n,0)
def cnt:Int->List Nat->Int × Nat
 | n,[]=>(n,0)
 | n,b::r=>if (isD b && !(n==0 && b==48))=true then ((cnt (min (10*n+((b:Int) - 48)) 501) r).1,(cnt (min (10*n+((b:Int) - 48)) 501) r).2+1) else (n,0)
structure FW where
 thread:Int
 count:Int
 ok:Bool
 len:Nat
def lC(last n:Int):Bool:=!(n== -1) && !(n==last)
def jJ(last:Int)(l:List Nat):FW:=
 if (lC last (thr last (-1) l).1 && (l[(thr last (-1) l).2]?==some 42))=true then
  ⟨(thr last (-1) l).1,(cnt 0 (l.drop ((thr last (-1) l).2+1))).1,decide (1<(cnt 0 (l.drop ((thr last (-1) l).2+1))).1),(thr last (-1) l).2+1+(cnt 0 (l.drop ((thr last (-1) l).2+1))).2⟩
 else ⟨(thr last (-1) l).1,1,lC last (thr last (-1) l).1,(thr last (-1) l).2⟩
structure AW where
 out:List Int
 at_:Nat
 ok:Bool
def mr(sch:List Int)(total' count thread:Int):List Int:=if total'<501 then sch++List.replicate count.toNat thread else sch
def mw:Nat->List Int->Int->Int->Nat->List Nat->AW
 | 0,_,_,_,_,_=>⟨[],0,false⟩
 | f+1,sch,last,total,at_,l=>
  if (jJ last l).ok=true then
   match l.drop (jJ last l).len with
   | []=>if min (total+(jJ last l).count) 501=501 then ⟨[],0,false⟩ else ⟨mr sch (min (total+(jJ last l).count) 501) (jJ last l).count (jJ last l).thread,0,true⟩
   | b::rest=>if b=32 then mw f (mr sch (min (total+(jJ last l).count) 501) (jJ last l).count (jJ last l).thread) (jJ last l).thread (min (total+(jJ last l).count) 501) (at_+(jJ last l).len+1) rest
     else ⟨[],at_+(jJ last l).len,false⟩
  else ⟨[],at_+(jJ last l).len,false⟩
def jN(l:List Nat):AW:=if l=[] then ⟨[],0,true⟩ else mw (l.length+1) [] (-1) 0 0 l
def ja:List Nat->List (List Nat)
 | []=>[[]]
 | b::r=>if b=32 then []::ja r else (b::(ja r).headD [])::(ja r).tail
def jn(l:List Nat):List Nat:=l.takeWhile (· !=42)
def mY(l:List Nat):List Nat:=(l.dropWhile (· !=42)).drop 1
def lB(l:List Nat):Bool:=l.any (·==42)
def i8(l:List Nat):Bool:=l.all isD && ((l==[48]) || (!(l==[]) && !(l.head?==some 48)))
def iF:Int->List Nat->Int
 | n,[]=>min n 1000
 | n,b::r=>if n<1000 then iF (10*n+(((b+208) % 256:Nat):Int)) r else min n 1000
def kP(l:List Nat)(ahead:Int):Option (Int × Int):=
 if (!i8 (jn l) || decide (63<iF 0 (jn l)) || (iF 0 (jn l)==ahead))=true then none
 else if (lB l && (!i8 (mY l) || decide (iF 0 (mY l)<2)))=true then none
 else if lB l=true then some (iF 0 (jn l),iF 0 (mY l)) else some (iF 0 (jn l),1)
def jg(l:List Nat)(ahead:Int):Bool:=
 if l=[] then true
 else if (!i8 (jn l) || decide (63<iF 0 (jn l)))=true then false
 else if lB l=true then !(iF 0 (jn l)==ahead) && ((mY l==[]) || (i8 (mY l) && !(mY l==[48])))
 else !(iF 0 (jn l)==ahead) || (decide (1<=iF 0 (jn l)) && decide (iF 0 (jn l)<=6))
def lG(out:List Int)(t n:Int):List Int:=out++List.replicate (min n.toNat (501 - out.length)) t
def jl:List (List Nat)->Int->List Int->Option (List Int × Int)
 | [],ahead,out=>some (out,ahead)
 | q::qs,ahead,out=>match kP q ahead with
  | none=>none
  | some (t,n)=>jl qs t (lG out t n)
def mV(ahead:Int)(l:List Nat):Bool:=
 match jl (ja l).dropLast ahead []with
 | none=>false
 | some (_,a)=>jg ((ja l).getLastD []) a
def kN(l:List Nat):Nat->Nat
 | 0=>0
 | k+1=>if mV (-1) (l.take (k+1))=true then k+1 else kN l k
def lF(l:List Nat):AW:=
 if l=[] then ⟨[],0,true⟩
 else match jl (ja l) (-1) []with
  | some (o,_)=>if 500<o.length then ⟨[],0,false⟩ else ⟨o,0,true⟩
  | none=>⟨[],kN l l.length,false⟩
theorem DV(n:Int)(l:List Nat):(cnt n l).2<=l.length:=by
 induction l generalizing n with
 | nil=>simp [cnt]
 | cons b r ih=>unfold cnt;split
          ·simpa using ih _
          ·simp
theorem sH(n:Int)(hn:0<n)(l:List Nat)(k:Nat)(a:k<=l.length):(l.take k).all isD=decide (k<=(cnt n l).2):=by
 induction l generalizing n k with
 | nil=>simp at a;subst a;simp [cnt]
 | cons b r ih=>
  cases k with
  | zero=>simp
  | succ k=>
   unfold cnt;cases hd:isD b
   ·simp [hd]
   ·have c:(n==0)=false:=by simp;omega
    simp only [List.take_succ_cons,List.all_cons,hd,Bool.true_and,c,Bool.false_and,Bool.not_false,if_true];have hb:48<=b/\b<=57:=by simpa [isD]using hd
    rw [ih (min (10*n+((b:Int) - 48)) 501) (by omega) k (by simpa using a)];simp
theorem Ar(n m:Int)(hn:0<n)(hm:n=min m 501)(l:List Nat)(h:l.all isD=true):(cnt n l).1=min (iF m l) 501:=by
 induction l generalizing n m with
 | nil=>simp [cnt,iF];omega
 | cons b r ih=>
  simp only [List.all_cons,Bool.and_eq_true]at h;have hb:48<=b/\b<=57:=by simpa [isD]using h.1
  unfold cnt iF;have d:(n==0)=false:=by simp;omega
  simp only [h.1,d,Bool.true_and,Bool.false_and,Bool.not_false,if_true];have e:(((b+208) % 256:Nat):Int)=(b:Int) - 48:=by omega
  rw [e];split
  ·exact ih _ _ (by omega) (by omega) h.2
  ·have:∀ (x:Int) (l:List Nat),x=501->l.all isD=true->(cnt x l).1=501:=by
    intro x l f a;induction l generalizing x with
    | nil=>simp [cnt,f]
    | cons c s ih2=>
     simp only [List.all_cons,Bool.and_eq_true]at a;have hc:48<=c/\c<=57:=by simpa [isD]using a.1
     unfold cnt;have d:(x==0)=false:=by simp;omega
     simp only [a.1,d,Bool.true_and,Bool.false_and,Bool.not_false,if_true];exact ih2 _ (by omega) a.2
   rw [this _ r (by omega) h.2];omega
theorem pA(l:List Nat)(k:Nat)(d:k<=l.length):((l.take k==[]) || (i8 (l.take k) && !(l.take k==[48])))=decide (k<=(cnt 0 l).2):=by
 cases l with
 | nil=>simp at d;subst d;simp [cnt]
 | cons b r=>
  cases k with
  | zero=>simp
  | succ k=>
   unfold cnt i8;cases hd:isD b
   ·simp [hd]
   ·have hb:48<=b/\b<=57:=by simpa [isD]using hd
    by_cases c:b=48
    ·subst c;simp [hd]
    ·have f:((b::r.take k)==[48])=false:=by
      cases r.take k<;>simp [c]
     have e:(b==48)=false:=by simpa using c
     simp only [List.take_succ_cons,List.all_cons,hd,Bool.true_and,f,Bool.false_or,List.head?_cons,e,Bool.and_false,Bool.not_false,if_true,Bool.and_true];rw [sH (min (10*0+((b:Int) - 48)) 501) (by omega) r k (by simpa using d)];have e3:(some b==some 48)=false:=by simpa using c
     simp [c]
theorem ue(l:List Nat)(h:(cnt 0 l).2=l.length):(cnt 0 l).1=min (iF 0 l) 501:=by
 cases l with
 | nil=>simp [cnt,iF];omega
 | cons b r=>
  unfold cnt at h ⊢;split at h
  ·rename_i hc
   simp only [hc,if_true];simp only [Bool.and_eq_true,Bool.not_eq_true']at hc;have hb:48<=b/\b<=57:=by simpa [isD]using hc.1
   have h48:b≠48:=by
    intro e;have:=hc.2;simp [e]at this
   unfold iF;simp only [show (0:Int)<1000 by decide,if_true];have e:(((b+208) % 256:Nat):Int)=(b:Int) - 48:=by omega
   rw [e];have a:(cnt (min (10*0+((b:Int) - 48)) 501) r).2=r.length:=by simpa using h
   refine Ar _ _ (by omega) (by omega) r ?_;have:=sH (min (10*0+((b:Int) - 48)) 501) (by omega) r r.length (Nat.le_refl _);rw [List.take_length,a]at this;simpa using this
  ·simp at h
theorem yD(last:Int)(l:List Nat):thr last (-1) l=match l with
  | []=>(-1,0)
  | b::r=>if isD b=true/\(((b:Int) - 48≠last)\/(49<=b/\b<=54)) then
    (match r with
    | []=>((b:Int) - 48,1)
    | c::_=>if isD c=true/\b≠48/\((b:Int) - 48)*10+((c:Int) - 48)<=63/\((b:Int) - 48)*10+((c:Int) - 48)≠last then (((b:Int) - 48)*10+((c:Int) - 48),2) else ((b:Int) - 48,1))
   else (-1,0):=by
 have i:∀ (n:Int) (r:List Nat),10<=n->thr last n r=(n,0):=by
  intro n r hn;cases r with
  | nil=>rfl
  | cons c s=>
   unfold thr;rw [if_neg];simp only [isD,lE,kz,Bool.and_eq_true,Bool.or_eq_true,decide_eq_true_eq,Bool.not_eq_true',beq_eq_false_iff_ne];omega
 have j:∀ (b:Nat) (r:List Nat),48<=b->b<=57->thr last ((b:Int) - 48) r=match r with
   | []=>((b:Int) - 48,0)
   | c::_=>if isD c=true/\b≠48/\((b:Int) - 48)*10+((c:Int) - 48)<=63/\((b:Int) - 48)*10+((c:Int) - 48)≠last then (((b:Int) - 48)*10+((c:Int) - 48),1) else ((b:Int) - 48,0):=by
  intro b r h1 h2;cases r with
  | nil=>rfl
  | cons c s=>
   unfold thr;simp only;by_cases hc:isD c=true/\b≠48/\((b:Int) - 48)*10+((c:Int) - 48)<=63/\((b:Int) - 48)*10+((c:Int) - 48)≠last
   ·have f:48<=c/\c<=57:=by simpa [isD]using hc.1
    rw [if_pos hc,if_pos]
    ·have e:nxt ((b:Int) - 48) c=((b:Int) - 48)*10+((c:Int) - 48):=by unfold nxt;rw [Int.max_eq_left (by omega)]
     rw [e,i _ s (by omega)]
    ·simp only [lE,kz,hc.1,Bool.true_and,Bool.and_eq_true,Bool.or_eq_true,decide_eq_true_eq,Bool.not_eq_true',beq_eq_false_iff_ne];rw [Int.max_eq_left (by omega)];omega
   ·rw [if_neg hc,if_neg];intro h;apply hc;simp only [lE,kz,Bool.and_eq_true,Bool.or_eq_true,decide_eq_true_eq,Bool.not_eq_true',beq_eq_false_iff_ne]at h;rw [Int.max_eq_left (by omega)]at h;obtain⟨d,a,k⟩:=h;have f:48<=c/\c<=57:=by simpa [isD]using d
    exact⟨d,by omega,by omega,by omega⟩
 cases l with
 | nil=>rfl
 | cons b r=>
  unfold thr;simp only;by_cases a:isD b=true/\(((b:Int) - 48≠last)\/(49<=b/\b<=54))
  ·have f:48<=b/\b<=57:=by simpa [isD]using a.1
   rw [if_pos a,if_pos]
   ·have e:nxt (-1) b=(b:Int) - 48:=by unfold nxt;rw [Int.max_eq_right (by omega)];omega
    rw [e,j b r f.1 f.2];cases r with
    | nil=>rfl
    | cons c s=>simp only;split<;>rfl
   ·simp only [lE,kz,a.1,Bool.true_and,Bool.and_eq_true,Bool.or_eq_true,decide_eq_true_eq,Bool.not_eq_true',beq_eq_false_iff_ne];rw [Int.max_eq_right (by omega)];omega
  ·rw [if_neg a,if_neg];intro h;apply a;simp only [lE,kz,Bool.and_eq_true,Bool.or_eq_true,decide_eq_true_eq,Bool.not_eq_true',beq_eq_false_iff_ne]at h;rw [Int.max_eq_right (by omega)]at h;obtain⟨d,hc,k⟩:=h;exact⟨d,by omega⟩
theorem pk{b:Nat}(h:isD b=true){n:Int}(a:n<1000)(r:List Nat):iF n (b::r)=iF (10*n+((b:Int) - 48)) r:=by
 have hb':48<=b/\b<=57:=by simpa [isD]using h
 have c:(((b+208) % 256:Nat):Int)=(b:Int) - 48:=by omega
 rw [iF,if_pos a,c]
theorem uo(n:Int):iF n []=min n 1000:=rfl
theorem o9{b:Nat}(h:isD b=true):iF 0 [b]=(b:Int) - 48:=by
 have hb':48<=b/\b<=57:=by simpa [isD]using h
 rw [pk h (by omega),uo];omega
theorem nY{b c:Nat}(h:isD b=true)(a:isD c=true):iF 0 [b,c]=((b:Int) - 48)*10+((c:Int) - 48):=by
 have hb':48<=b/\b<=57:=by simpa [isD]using h
 have hc':48<=c/\c<=57:=by simpa [isD]using a
 rw [pk h (by omega),pk a (by omega),uo];omega
theorem A8(n:Int)(hn:64<=n)(l:List Nat):63<iF n l:=by
 induction l generalizing n with
 | nil=>unfold iF;omega
 | cons b r ih=>
  unfold iF;split
  ·exact ih _ (by omega)
  ·omega
theorem mR(a:List Nat):(i8 a=true/\iF 0 a<=63)↔
  (∃ b,a=[b]/\isD b=true)\/(∃ b c,a=[b,c]/\isD b=true/\isD c=true/\b≠48/\((b:Int) - 48)*10+((c:Int) - 48)<=63):=by
 constructor
 ·rintro⟨f,j⟩;rcases a with _ | ⟨b,_ | ⟨c,_ | ⟨d,r⟩⟩⟩
  ·simp [i8]at f
  ·left;exact⟨b,rfl,by simpa [i8]using f⟩
  ·right
   simp [i8]at f;obtain⟨⟨e,hc⟩,i⟩:=f;rw [nY e hc]at j;exact⟨b,c,rfl,e,hc,i,j⟩
  ·exfalso
   simp [i8]at f;obtain⟨⟨e,hc,k,_⟩,i⟩:=f;have m:48<=b/\b<=57:=by simpa [isD]using e
   have hc':48<=c/\c<=57:=by simpa [isD]using hc
   have hd':48<=d/\d<=57:=by simpa [isD]using k
   rw [pk e (by omega),pk hc (by omega),pk k (by omega)]at j;have:=A8 (10*(10*(10*0+((b:Int) - 48))+((c:Int) - 48))+((d:Int) - 48)) (by omega) r;omega
 ·rintro(⟨b,rfl,e⟩ | ⟨b,c,rfl,e,hc,i,l⟩)
  ·have m:48<=b/\b<=57:=by simpa [isD]using e
   refine⟨?_,?_⟩
   ·by_cases h:b=48
    ·subst h;rfl
    ·simp [i8,e]
   ·rw [o9 e];omega
  ·exact⟨by simp [i8,e,hc,i],by rw [nY e hc];exact l⟩
theorem pf{a bb:List Nat}(b:∀ x∈a,x≠42):jn (a++42::bb)=a/\mY (a++42::bb)=bb/\lB (a++42::bb)=true:=by
 induction a with
 | nil=>simp [jn,mY,lB]
 | cons x a ih=>
  have c:x≠42:=b x (by simp);obtain⟨d,e,h3⟩:=ih (fun y hy=>b y (by simp [hy]));refine⟨?_,?_,?_⟩
  ·unfold jn at*;rw [List.cons_append,List.takeWhile_cons,if_pos (by simpa using c),d]
  ·unfold mY at*;rw [List.cons_append,List.dropWhile_cons,if_pos (by simpa using c),e]
  ·simp [lB]
theorem pl{a:List Nat}(c:∀ x∈a,x≠42):jn a=a/\mY a=[]/\lB a=false:=by
 induction a with
 | nil=>simp [jn,mY,lB]
 | cons x a ih=>
  have b:x≠42:=c x (by simp);obtain⟨e,f,d⟩:=ih (fun y hy=>c y (by simp [hy]));refine⟨?_,?_,?_⟩
  ·unfold jn at*;rw [List.takeWhile_cons,if_pos (by simpa using b),e]
  ·unfold mY at*;rw [List.dropWhile_cons,if_pos (by simpa using b),f]
  ·unfold lB at*;rw [List.any_cons,d];simpa using b
theorem nj{l:List Nat}(d:l≠[])(last:Int)(h:¬(i8 (jn l)=true/\iF 0 (jn l)<=63)):jg l last=false/\kP l last=none:=by
 have b:(!i8 (jn l) || decide (63<iF 0 (jn l)))=true:=by
  cases hp:i8 (jn l)
  ·rfl
  ·simp only [Bool.not_true,Bool.false_or,decide_eq_true_eq];by_cases c:iF 0 (jn l)<=63
   ·exact absurd ⟨hp,c⟩ h
   ·omega
 unfold jg kP;rw [if_neg d,if_pos b,b,Bool.true_or,if_pos rfl];exact⟨rfl,rfl⟩
theorem rF{a bb:List Nat}(e:∀ x∈a,x≠42)(d:i8 a=true)(hv:iF 0 a<=63)(last:Int):
  jg (a++42::bb) last=(!(iF 0 a==last) && ((bb==[]) || (i8 bb && !(bb==[48])))):=by
 obtain⟨c,f,b⟩:=pf (bb:=bb) e;unfold jg;rw [if_neg (by simp),c,f,b,d,if_neg (by simp;omega),if_pos rfl]
theorem qD{a:List Nat}(c:∀ x∈a,x≠42)(d:a≠[])(f:i8 a=true)(hv:iF 0 a<=63)(last:Int):
  jg a last=(!(iF 0 a==last) || (decide (1<=iF 0 a) && decide (iF 0 a<=6))):=by
 obtain⟨e,h2,b⟩:=pl c;unfold jg;rw [if_neg d,e,b,f,if_neg (by simp;omega),if_neg (by simp)]
theorem wF{a bb:List Nat}(c:∀ x∈a,x≠42)(h:i8 a=true)(hv:iF 0 a<=63)(last:Int)(e:iF 0 a≠last):
  kP (a++42::bb) last=if (!i8 bb || decide (iF 0 bb<2))=true then none else some (iF 0 a,iF 0 bb):=by
 obtain⟨f,d,b⟩:=pf (bb:=bb) c;unfold kP;rw [f,d,b,h,if_neg (by simp;exact⟨by omega,e⟩),Bool.true_and,if_pos rfl]
theorem qJ{l:List Nat}{last:Int}(a:iF 0 (jn l)=last):kP l last=none:=by
 unfold kP;rw [if_pos];simp [a]
theorem pn{a:List Nat}(f:∀ x∈a,x≠42)(e:i8 a=true)(hv:iF 0 a<=63)(last:Int)(c:iF 0 a≠last):
  kP a last=some (iF 0 a,1):=by
 obtain⟨d,h2,b⟩:=pl f;unfold kP;rw [d,b,e,if_neg (by simp;exact⟨by omega,c⟩),if_neg (by simp),if_neg (by simp)]
structure FM(last:Int)(q:List Nat):Prop where
 len:(jJ last q).len<=q.length
 pre:∀ k,k<=q.length->jg (q.take k) last=decide (k<=(jJ last q).len)
 yes:∀ t n,kP q last=some (t,n)->(jJ last q).ok=true/\(jJ last q).len=q.length/\(jJ last q).thread=t/\(jJ last q).count=min n 501/\1<=n
 no:kP q last=none->(jJ last q).ok=true->(jJ last q).len≠q.length
theorem te(last:Int):jg [] last=true:=rfl
theorem wX{b:Nat}(h:isD b=true):b≠42/\b≠32:=by
 have:48<=b/\b<=57:=by simpa [isD]using h
 omega
theorem uE(last:Int)(a bb:List Nat)(p:∀ x∈a,x≠42)(q:i8 a=true)(m:iF 0 a<=63)(f:iF 0 a≠last)(hn0:0<=iF 0 a)
  (B:thr last (-1) (a++42::bb)=(iF 0 a,a.length)) (u:∀ k,k<=a.length->jg (a.take k) last=true):FM last (a++42::bb):=by
 have e:jJ last (a++42::bb)=⟨iF 0 a,(cnt 0 bb).1,decide (1<(cnt 0 bb).1),a.length+1+(cnt 0 bb).2⟩:=by
  unfold jJ;rw [B];have z:(a++42::bb)[a.length]?=some 42:=by simp
  have v:(a++42::bb).drop (a.length+1)=bb:=by
   rw [List.drop_append];simp
  have E:lC last (iF 0 a)=true:=by
   simp only [lC,Bool.and_eq_true,Bool.not_eq_true',beq_eq_false_iff_ne];exact⟨by omega,f⟩
  simp only [z,v,E,Bool.true_and,beq_self_eq_true,if_true]
 have hc:=DV 0 bb;have l:∀ k,k<=bb.length->jg (a++42::bb.take k) last=decide (k<=(cnt 0 bb).2):=by
  intro k l;rw [rF p q m,pA bb k l];have:(iF 0 a==last)=false:=by simpa using f
  rw [this];simp
 refine⟨?_,?_,?_,?_⟩
 ·rw [e];simp;omega
 ·intro k D;rw [e];simp only;by_cases h:k<=a.length
  ·rw [List.take_append_of_le_length h,u k h];symm;simp;omega
  ·obtain⟨j,rfl⟩:∃ j,k=a.length+1+j:=⟨k - (a.length+1),by omega⟩;have F:(a++42::bb).take (a.length+1+j)=a++42::bb.take j:=by
    rw [List.take_append,List.take_of_length_le (by omega)];have:a.length+1+j - a.length=j+1:=by omega
    rw [this,List.take_succ_cons]
   have y:j<=bb.length:=by simp at D;omega
   rw [F,l j y];by_cases C:j<=(cnt 0 bb).2<;>simp [C]<;>omega
 ·intro t n h;rw [wF p q m last f]at h;split at h
  ·cases h
  ·rename_i hb
   simp only [Option.some.injEq,Prod.mk.injEq]at h;obtain⟨rfl,rfl⟩:=h;simp only [Bool.or_eq_true,Bool.not_eq_true',decide_eq_true_eq,not_or,Bool.not_eq_false]at hb;have i:bb≠[]:=by intro c;rw [c]at hb;simp [i8]at hb
   have w:bb≠[48]:=by intro c;rw [c]at hb;exact hb.2 (by rw [o9 (by rfl)];omega)
   have b:=pA bb bb.length (Nat.le_refl _);rw [List.take_length,hb.1]at b;have o:(bb==[])=false:=by simpa using i
   have A:(bb==[48])=false:=by simpa using w
   rw [o,A]at b;have r:bb.length<=(cnt 0 bb).2:=by simpa using b.symm
   have s:=ue bb (by omega);rw [e];refine⟨?_,?_,rfl,s,by omega⟩
   ·simp only [decide_eq_true_eq];omega
   ·simp;omega
 ·intro h d;rw [e]at d ⊢;simp only [decide_eq_true_eq]at d;rw [wF p q m last f]at h;split at h
  ·rename_i hb
   simp only [List.length_append,List.length_cons];intro hl;have s:=ue bb (by omega);have b:=pA bb bb.length (Nat.le_refl _);rw [List.take_length]at b;have r:decide (bb.length<=(cnt 0 bb).2)=true:=by simp;omega
   rw [r]at b;have i:bb≠[]:=by intro c;rw [c]at d;simp [cnt]at d
   have o:(bb==[])=false:=by simpa using i
   rw [o,Bool.false_or]at b;simp only [Bool.and_eq_true]at b;rw [b.1]at hb;simp only [Bool.not_true,Bool.false_or,decide_eq_true_eq]at hb;omega
  ·cases h
theorem nc(last:Int)(a r:List Nat)(n:Int)(f:thr last (-1) (a++r)=(n,a.length))(d:∀ k,k<=a.length->jg (a.take k) last=true)
  (j:(lC last n && (r.head?==some 42))=false)
  (o:∀ k,0<k->k<=r.length->jg (a++r.take k) last=false)
  (l:∀ t m,kP (a++r) last=some (t,m)->lC last n=true/\r=[]/\n=t/\m=1)
  (c:kP (a++r) last=none->lC last n=true->r≠[]):FM last (a++r):=by
 have e:jJ last (a++r)=⟨n,1,lC last n,a.length⟩:=by
  unfold jJ;rw [f];have p:(a++r)[a.length]?=r.head?:=by rw [List.getElem?_append_right (Nat.le_refl _)];simp [List.head?_eq_getElem?]
  simp only [p,j];simp
 refine⟨?_,?_,?_,?_⟩
 ·rw [e];simp
 ·intro k i;rw [e];simp only;by_cases h:k<=a.length
  ·rw [List.take_append_of_le_length h,d k h];symm;simpa using h
  ·have q:(a++r).take k=a++r.take (k - a.length):=by rw [List.take_append,List.take_of_length_le (by omega)]
   rw [q,o _ (by omega) (by simp at i;omega)];symm;simpa using h
 ·intro t m h;obtain⟨b,rfl,rfl,rfl⟩:=l t m h;rw [e];simp [b];omega
 ·intro h b;rw [e]at b ⊢;have:=c h b;simp;exact this
theorem Bk(last:Int)(q:List Nat):FM last q:=by
 have T:=yD last q;rcases q with _ | ⟨b,r⟩
 ·refine nc last [] [] (-1) T (fun k C=>?_) rfl (fun k i f=>by simp at f;omega) ?_ ?_
  ·simp [te]
  ·intro t m h;simp [kP,jn,i8]at h
  ·intro _ h;simp [lC]at h
 ·simp only at T;by_cases B:isD b=true/\(((b:Int) - 48≠last)\/(49<=b/\b<=54))
  ·rw [if_pos B]at T;obtain⟨w,hb2⟩:=B;have E:=wX w;have X:48<=b/\b<=57:=by simpa [isD]using w
   have n:=(mR [b]).2 (Or.inl ⟨b,rfl,w⟩);have o:=o9 w;have z:∀ x∈[b],x≠42:=by simp;exact E.1
   have L:jg [b] last=true:=by
    rw [qD z (by simp) n.1 n.2,o];simp;omega
   have D:∀ k,k<=[b].length->jg ([b].take k) last=true:=by
    intro k C;have:k=0\/k=1:=by simp at C;omega
    rcases this with rfl | rfl
    ·rfl
    ·exact L
   rcases r with _ | ⟨c,r⟩
   ·refine nc last [b] [] ((b:Int) - 48) T D (by simp) (fun k i f=>by simp at f;omega) ?_ ?_
    ·intro t m h;by_cases l:(b:Int) - 48=last
     ·rw [qJ (by rw [(pl (by simpa using z)).1,List.append_nil,o];exact l)]at h;cases h
     ·rw [List.append_nil,pn z n.1 n.2 last (by rw [o];exact l),o]at h;simp only [Option.some.injEq,Prod.mk.injEq]at h;exact⟨by simp [lC,l];omega,rfl,h.1,h.2.symm⟩
    ·intro h f;by_cases l:(b:Int) - 48=last
     ·simp [lC,l]at f
     ·rw [List.append_nil,pn z n.1 n.2 last (by rw [o];exact l)]at h;cases h
   ·by_cases hc:isD c=true/\b≠48/\((b:Int) - 48)*10+((c:Int) - 48)<=63/\((b:Int) - 48)*10+((c:Int) - 48)≠last
    ·simp only [if_pos hc]at T;obtain⟨H,S,Y,I⟩:=hc;have R:=wX H;have U:48<=c/\c<=57:=by simpa [isD]using H
     have u:=(mR [b,c]).2 (Or.inr ⟨b,c,rfl,w,H,S,Y⟩);have A:=nY w H;have G:∀ x∈[b,c],x≠42:=by simp;exact⟨E.1,R.1⟩
     have Z:jg [b,c] last=true:=by
      rw [qD G (by simp) u.1 u.2,A];simp;omega
     have W:∀ k,k<=[b,c].length->jg ([b,c].take k) last=true:=by
      intro k C;have:k=0\/k=1\/k=2:=by simp at C;omega
      rcases this with rfl | rfl | rfl
      ·rfl
      ·exact L
      ·exact Z
     have K:lC last (((b:Int) - 48)*10+((c:Int) - 48))=true:=by
      simp only [lC,Bool.and_eq_true,Bool.not_eq_true',beq_eq_false_iff_ne];exact⟨by omega,I⟩
     by_cases p:r.head?=some 42
     ·obtain⟨bb,rfl⟩:∃ bb,r=42::bb:=by
       cases r with
       | nil=>simp at p
       | cons x bb=>simp at p;exact⟨bb,by rw [p]⟩
      exact uE last [b,c] bb G u.1 u.2 (by rw [A];exact I) (by rw [A];omega) (by rw [A];exact T) W
     ·have Q:∀ d s,d≠42->¬(i8 (jn (b::c::d::s))=true/\iF 0 (jn (b::c::d::s))<=63):=by
       intro d s ac;have e:jn (b::c::d::s)=b::c::d::jn s:=by
        unfold jn;rw [List.takeWhile_cons,if_pos (by simpa using E.1),List.takeWhile_cons,if_pos (by simpa using R.1),List.takeWhile_cons,if_pos (by simpa using ac)]
       rw [e,mR];simp
      refine nc last [b,c] r _ T W (by rw [K];simpa using p) ?_ ?_ ?_
      ·intro k i f;rcases r with _ | ⟨d,s⟩
       ·simp at f;omega
       ·obtain⟨j,rfl⟩:∃ j,k=j+1:=⟨k - 1,by omega⟩;exact(nj (by simp) last (Q d (s.take j) (by simpa using p))).1
      ·intro t m h;rcases r with _ | ⟨d,s⟩
       ·rw [List.append_nil,pn G u.1 u.2 last (by rw [A];exact I),A]at h;simp only [Option.some.injEq,Prod.mk.injEq]at h;exact⟨K,rfl,h.1,h.2.symm⟩
       ·rw [show [b,c]++d::s=b::c::d::s from rfl,(nj (by simp) last (Q d s (by simpa using p))).2]at h;cases h
      ·intro h _;rcases r with _ | ⟨d,s⟩
       ·rw [List.append_nil,pn G u.1 u.2 last (by rw [A];exact I)]at h;cases h
       ·simp
    ·simp only [if_neg hc]at T;by_cases p:c=42
     ·subst p;by_cases l:(b:Int) - 48=last
      ·have same:∀ s,jn (b::42::s)=[b]:=fun s=>(pf (a:=[b]) (bb:=s) z).1
       refine nc last [b] (42::r) _ T D (by simp [lC,l]) ?_ ?_ ?_
       ·intro k i f;obtain⟨j,rfl⟩:∃ j,k=j+1:=⟨k - 1,by omega⟩;rw [List.take_succ_cons,rF z n.1 n.2,o];simp [l]
       ·intro t m h;rw [qJ (by rw [show [b]++42::r=b::42::r from rfl,same,o];exact l)]at h;cases h
       ·intro _ h;simp [lC,l]at h
      ·exact uE last [b] r z n.1 n.2 (by rw [o];exact l) (by rw [o];omega) (by rw [o];exact T) D
     ·have O:∀ s,(i8 (jn (b::c::s))=true/\iF 0 (jn (b::c::s))<=63)->jn (b::c::s)=[b,c]/\isD c=true/\b≠48/\((b:Int) - 48)*10+((c:Int) - 48)=last:=by
       intro s h;have e:jn (b::c::s)=b::c::jn s:=by
        unfold jn;rw [List.takeWhile_cons,if_pos (by simpa using E.1),List.takeWhile_cons,if_pos (by simpa using p)]
       rw [e,mR]at h;rcases h with ⟨b',h,_⟩ | ⟨b',c',h,i,f,v,h4⟩
       ·simp at h
       ·simp only [List.cons.injEq]at h;obtain⟨rfl,rfl,M⟩:=h;refine⟨by rw [e,M],f,v,?_⟩;by_cases y:((b:Int) - 48)*10+((c:Int) - 48)=last
        ·exact y
        ·exact absurd ⟨f,v,h4,y⟩ hc
      have ab:∀ s,kP (b::c::s) last=none:=by
       intro s;by_cases h:i8 (jn (b::c::s))=true/\iF 0 (jn (b::c::s))<=63
       ·obtain⟨i,f,_,v⟩:=O s h;exact qJ (by rw [i,nY w f];exact v)
       ·exact(nj (by simp) last h).2
      refine nc last [b] (c::r) _ T D (by simp [p]) ?_ ?_ ?_
      ·intro k i f;obtain⟨j,rfl⟩:∃ j,k=j+1:=⟨k - 1,by omega⟩;rw [List.take_succ_cons];by_cases h:i8 (jn (b::c::r.take j))=true/\iF 0 (jn (b::c::r.take j))<=63
       ·obtain⟨i,f,S,v⟩:=O _ h;have U:48<=c/\c<=57:=by simpa [isD]using f
        have V:=nY w f;show jg (b::c::r.take j) last=false
        unfold jg;rw [if_neg (by simp),i,V,v,if_neg (by rw [i]at h;simp [h.1];rw [V]at h;omega)];split
        ·simp
        ·simp;omega
       ·exact(nj (by simp) last h).1
      ·intro t m h;rw [show [b]++c::r=b::c::r from rfl,ab]at h;cases h
      ·intro _ _;simp
  ·rw [if_neg B]at T;have bad:∀ s,jg (b::s) last=false/\kP (b::s) last=none:=by
    intro s;by_cases h:i8 (jn (b::s))=true/\iF 0 (jn (b::s))<=63
    ·have N:=(mR _).1 h;have hh:∃ P,jn (b::s)=b::P:=by
      unfold jn;rw [List.takeWhile_cons];split
      ·exact⟨_,rfl⟩
      ·rename_i h42
       rw [jn,List.takeWhile_cons,if_neg h42]at h;simp [i8]at h
     obtain⟨P,F⟩:=hh;rw [F]at N;rcases N with ⟨b',i,f⟩ | ⟨b',c',i,f,v,h4,M⟩
     ·simp only [List.cons.injEq]at i;obtain⟨rfl,rfl⟩:=i;have l:(b:Int) - 48=last/\¬(49<=b/\b<=54):=by
       refine⟨?_,fun y=>B ⟨f,Or.inr y⟩⟩;by_cases y:(b:Int) - 48=last
       ·exact y
       ·exact absurd ⟨f,Or.inl y⟩ B
      have X:48<=b/\b<=57:=by simpa [isD]using f
      have J:=o9 f;refine⟨?_,qJ (by rw [F,J];exact l.1)⟩;unfold jg;rw [if_neg (by simp),F,J,l.1,if_neg (by rw [F]at h;simp [h.1];rw [J]at h;omega)];split
      ·simp
      ·simp;omega
     ·simp only [List.cons.injEq]at i;obtain⟨rfl,rfl⟩:=i;have X:48<=b/\b<=57:=by simpa [isD]using f
      have U:48<=c'/\c'<=57:=by simpa [isD]using v
      exact absurd ⟨f,Or.inr (by omega)⟩ B
    ·exact nj (by simp) last h
   refine nc last [] (b::r) (-1) T (fun k C=>by simp [te]) (by simp [lC]) ?_ ?_ ?_
   ·intro k i f;obtain⟨j,rfl⟩:∃ j,k=j+1:=⟨k - 1,by omega⟩;exact(bad _).1
   ·intro t m h;rw [List.nil_append,(bad r).2]at h;cases h
   ·intro _ h;simp [lC]at h
theorem zg(last n:Int)(l:List Nat):(thr last n l).2<=l.length:=by
 induction l generalizing n with
 | nil=>simp [thr]
 | cons b r ih=>
  unfold thr;split
  ·simpa using ih _
  ·simp
theorem AF(last n:Int)(q u:List Nat):thr last n (q++32::u)=thr last n q:=by
 induction q generalizing n with
 | nil=>simp [thr,isD]
 | cons b r ih=>simp only [List.cons_append,thr,ih]
theorem zP(n:Int)(q u:List Nat):cnt n (q++32::u)=cnt n q:=by
 induction q generalizing n with
 | nil=>simp [cnt,isD]
 | cons b r ih=>simp only [List.cons_append,cnt,ih]
theorem xP(last:Int)(q u:List Nat):jJ last (q++32::u)=jJ last q:=by
 have hl:=zg last (-1) q;unfold jJ;rw [AF];generalize (thr last (-1) q).2=j at*;by_cases h:j<q.length
 ·have b:(q++32::u)[j]?=q[j]?:=List.getElem?_append_left h;have a:(q++32::u).drop (j+1)=q.drop (j+1)++32::u:=by
   rw [List.drop_append];have:j+1 - q.length=0:=by omega
   rw [this,List.drop_zero]
  rw [b,a,zP]
 ·obtain rfl:j=q.length:=by omega
  have b:(q++32::u)[q.length]?=some 32:=by simp
  have a:q[q.length]?=none:=by simp
  rw [b,a];have c:((some 32:Option Nat)==some 42)=false:=by decide
  have d:((none:Option Nat)==some 42)=false:=by decide
  rw [c,d];simp
theorem qY(q:List Nat)(h:∀ x∈q,x≠32):ja q=[q]:=by
 induction q with
 | nil=>rfl
 | cons b r ih=>
  have a:b≠32:=h b (by simp);rw [ja,if_neg a,ih (fun x hx=>h x (by simp [hx]))];rfl
theorem qQ(q u:List Nat)(h:∀ x∈q,x≠32):ja (q++32::u)=q::ja u:=by
 induction q with
 | nil=>simp [ja]
 | cons b r ih=>
  have a:b≠32:=h b (by simp);rw [List.cons_append,ja,if_neg a,ih (fun x hx=>h x (by simp [hx]))];rfl
theorem sD(l:List Nat):ja l≠[]:=by
 cases l with
 | nil=>simp [ja]
 | cons b r=>unfold ja;split<;>simp
theorem xC(l:List Nat):(∀ x∈l,x≠32)\/∃ q u,l=q++32::u/\∀ x∈q,x≠32:=by
 induction l with
 | nil=>left;simp
 | cons b r ih=>
  by_cases c:b=32
  ·right;exact⟨[],r,by simp [c],by simp⟩
  ·rcases ih with h | ⟨q,u,rfl,h⟩
   ·left
    intro x a;rcases List.mem_cons.1 a with rfl | a
    ·exact c
    ·exact h x a
   ·right
    refine⟨b::q,u,rfl,?_⟩;intro x a;rcases List.mem_cons.1 a with rfl | a
    ·exact c
    ·exact h x a
theorem Ad(b:List (List Nat))(a:Int)(o c:List Int):(jl b a o).map (·.2)=(jl b a c).map (·.2):=by
 induction b generalizing a o c with
 | nil=>rfl
 | cons q b ih=>
  unfold jl;cases kP q a with
  | none=>rfl
  | some x=>exact ih _ _ _
theorem uf(b:Int)(l:List Nat):mV b l=match (jl (ja l).dropLast b []).map (·.2)with
  | none=>false
  | some a=>jg ((ja l).getLastD []) a:=by
 unfold mV;cases jl (ja l).dropLast b []<;>rfl
theorem ou(a:Int)(q:List Nat)(h:∀ x∈q,x≠32):mV a q=jg q a:=by
 unfold mV;rw [qY q h];rfl
theorem pJ(c:Int)(q u:List Nat)(h:∀ x∈q,x≠32):mV c (q++32::u)=match kP q c with
  | none=>false
  | some x=>mV x.1 u:=by
 rw [uf,qQ q u h];have e:(q::ja u).dropLast=q::(ja u).dropLast:=by rw [List.dropLast_cons_of_ne_nil (sD u)]
 have d:(q::ja u).getLastD []=(ja u).getLastD []:=by
  cases hp:ja u with
  | nil=>exact absurd hp (sD u)
  | cons a b=>rfl
 rw [e,d,jl];cases kP q c with
 | none=>rfl
 | some x=>
  simp only;rw [uf,Ad _ _ _ []]
structure uk(ahead:Int)(l:List Nat)(m:Nat):Prop where
 le:m<=l.length
 yes:mV ahead (l.take m)=true
 no:∀ k,m<k->k<=l.length->mV ahead (l.take k)=false
theorem yL{l:List Nat}{m:Nat}(h:uk (-1) l m)(n:Nat)(hm:m<=n)(a:n<=l.length):kN l n=m:=by
 induction n with
 | zero=>simp [kN];omega
 | succ n ih=>
  unfold kN;by_cases e:m=n+1
  ·rw [if_pos]
   ·exact e.symm
   ·rw [<-e];exact h.yes
  ·rw [if_neg (by rw [h.no (n+1) (by omega) a];simp)];exact ih (by omega) (by omega)
theorem tA{q u:List Nat}{k:Nat}(h:k<=q.length):(q++32::u).take k=q.take k:=List.take_append_of_le_length h
theorem pQ{q:List Nat}(h:∀ x∈q,x≠32)(k:Nat):∀ x∈q.take k,x≠32:=fun x hx=>h x (List.mem_of_mem_take hx)
theorem ro(q u:List Nat)(j:Nat):(q++32::u).take (q.length+1+j)=q++32::u.take j:=by
 rw [List.take_append,List.take_of_length_le (by omega)];have:q.length+1+j - q.length=j+1:=by omega
 rw [this,List.take_succ_cons]
theorem Ed{last:Int}{q:List Nat}(h:∀ x∈q,x≠32):uk last q (jJ last q).len:=by
 have A:=Bk last q;refine⟨A.len,?_,?_⟩
 ·rw [ou _ _ (pQ h _),A.pre _ A.len];simp
 ·intro k h1 a;rw [ou _ _ (pQ h _),A.pre _ a];simp;omega
theorem xh{last:Int}{q u:List Nat}(h:∀ x∈q,x≠32)(b:kP q last=none):uk last (q++32::u) (jJ last q).len:=by
 have A:=Bk last q;have hl:=A.len;refine⟨by simp;omega,?_,?_⟩
 ·rw [tA A.len,ou _ _ (pQ h _),A.pre _ A.len];simp
 ·intro k h1 h2;by_cases a:k<=q.length
  ·rw [tA a,ou _ _ (pQ h _),A.pre _ a];simp;omega
  ·obtain⟨j,rfl⟩:∃ j,k=q.length+1+j:=⟨k - (q.length+1),by omega⟩;rw [ro,pJ _ _ _ h,b]
theorem EU{last t n:Int}{q u:List Nat}{m:Nat}(h:∀ x∈q,x≠32)(b:kP q last=some (t,n))(a:uk t u m):uk last (q++32::u) (q.length+1+m):=by
 have hl:=a.le;refine⟨by simp;omega,?_,?_⟩
 ·rw [ro,pJ _ _ _ h,b];exact a.yes
 ·intro k h1 c;obtain⟨j,rfl⟩:∃ j,k=q.length+1+j:=⟨k - (q.length+1),by omega⟩;rw [ro,pJ _ _ _ h,b];exact a.no j (by omega) (by simp at c;omega)
theorem Dp(f:Nat)(b out:List Int)(last a:Int)(at_:Nat)(l:List Nat)(G:l.length<f)(ht:a=out.length)(F:a<501->b=out)(h501:a<=501):
  match jl (ja l) last out with
  | some (o,_)=>mw f b last a at_ l=if 500<o.length then ⟨[],0,false⟩ else ⟨o,0,true⟩
  | none=>∃ m,uk last l m/\mw f b last a at_ l=⟨[],at_+m,false⟩:=by
 induction f generalizing b out last a at_ l with
 | zero=>omega
 | succ f ih=>
  have next:∀ (q:List Nat) (t n:Int),kP q last=some (t,n)->min (a+(jJ last q).count) 501=((lG out t n).length:Int)/\
    (min (a+(jJ last q).count) 501<501->mr b (min (a+(jJ last q).count) 501) (jJ last q).count (jJ last q).thread=lG out t n):=by
   intro q t n h;obtain⟨k,j,i,p,w⟩:=(Bk last q).yes t n h;have e:((lG out t n).length:Int)=min (a+(jJ last q).count) 501:=by
    unfold lG;simp;omega
   refine⟨e.symm,fun d=>?_⟩;unfold mr lG;rw [if_pos d,i,p,F (by omega)];have:(min n 501).toNat=min n.toNat (501 - out.length):=by omega
   rw [this]
  rcases xC l with hb | ⟨q,u,rfl,hb⟩
  ·rw [qY l hb];simp only [jl];have A:=Bk last l;cases hr:kP l last with
   | none=>
    simp only;refine⟨(jJ last l).len,Ed hb,?_⟩;unfold mw;by_cases c:(jJ last l).ok=true
    ·have B:=A.no hr c;have d:(jJ last l).len<l.length:=by have:=A.len;omega
     rw [if_pos c,List.drop_eq_getElem_cons d];simp only;rw [if_neg (hb _ (List.getElem_mem d))]
    ·rw [if_neg c]
   | some x=>
    obtain⟨t,n⟩:=x;simp only;obtain⟨k,j,i,p,w⟩:=A.yes t n hr;obtain⟨z,r⟩:=next l t n hr;unfold mw;rw [if_pos k,j,List.drop_length];simp only;by_cases s:min (a+(jJ last l).count) 501=501
    ·rw [if_pos s,if_pos (by omega)]
    ·rw [if_neg s,if_neg (by omega),r (by omega)]
  ·rw [qQ q u hb];simp only [jl];have A:=Bk last q;have v:=xP last q u;cases hr:kP q last with
   | none=>
    simp only;refine⟨(jJ last q).len,xh hb hr,?_⟩;unfold mw;rw [v];by_cases c:(jJ last q).ok=true
    ·have B:=A.no hr c;have d:(jJ last q).len<q.length:=by have:=A.len;omega
     have E:(jJ last q).len<(q++32::u).length:=by simp;omega
     rw [if_pos c,List.drop_eq_getElem_cons E];simp only;rw [if_neg];rw [List.getElem_append_left d];exact hb _ (List.getElem_mem d)
    ·rw [if_neg c]
   | some x=>
    obtain⟨t,n⟩:=x;simp only;obtain⟨k,j,i,p,w⟩:=A.yes t n hr;obtain⟨z,r⟩:=next q t n hr;have e:mw (f+1) b last a at_ (q++32::u)=mw f (mr b (min (a+(jJ last q).count) 501) (jJ last q).count (jJ last q).thread) t (min (a+(jJ last q).count) 501) (at_+q.length+1) u:=by
     conv=>lhs;unfold mw
     rw [v,if_pos k,j];have C:(q++32::u).drop q.length=32::u:=by simp
     rw [C];simp only [if_true,i]
    rw [e];have:=ih (mr b (min (a+(jJ last q).count) 501) (jJ last q).count (jJ last q).thread) (lG out t n) t (min (a+(jJ last q).count) 501) (at_+q.length+1) u (by simp at G;omega) z r (by omega);cases hw:jl (ja u) t (lG out t n)with
    | none=>
     rw [hw]at this;simp only at this ⊢;obtain⟨m,H,D⟩:=this;exact⟨q.length+1+m,EU hb hr H,by rw [D];congr 1;omega⟩
    | some y=>
     rw [hw]at this;exact this
theorem pT(l:List Nat):jN l=lF l:=by
 unfold jN lF;by_cases a:l=[]
 ·rw [if_pos a,if_pos a]
 ·rw [if_neg a,if_neg a];have:=Dp (l.length+1) [] [] (-1) 0 0 l (by omega) rfl (fun _=>rfl) (by omega);cases hw:jl (ja l) (-1) []with
  | none=>
   rw [hw]at this;obtain⟨m,b,c⟩:=this;simp only;rw [c,yL b l.length b.le (Nat.le_refl _)];simp
  | some y=>rw [hw]at this;exact this
def jd(l:List Int):Bool:=decide (l.length<=500) && l.all fun t=>decide (0<=t) && decide (t<=63)
def grp:List Int->List (Int × Int)
 | []=>[]
 | t::r=>match grp r with
  | []=>[(t,1)]
  | x::q=>if t=x.1 then (t,x.2+1)::q else (t,1)::x::q
def nW:List (Int × Int)->List (Int × Int)
 | []=>[]
 | [x]=>[(x.1,x.2+1)]
 | x::y::q=>x::nW (y::q)
theorem sI(t:Int)(r:List Int):∃ n q,grp (t::r)=(t,n)::q:=by
 unfold grp;cases grp r with
 | nil=>exact⟨_,_,rfl⟩
 | cons x q=>simp only;split<;>exact⟨_,_,rfl⟩
theorem Ff{l:List Int}(h:l≠[]):grp l≠[]:=by
 cases l with
 | nil=>exact absurd rfl h
 | cons t r=>obtain⟨n,q,e⟩:=sI t r;rw [e];simp
theorem vR(l:List Int)(t:Int):grp (l++[t])=if l.getLast?=some t then nW (grp l) else grp l++[(t,1)]:=by
 induction l with
 | nil=>simp [grp]
 | cons a r ih=>
  cases r with
  | nil=>
   by_cases h:a=t
   ·simp [grp,nW,h]
   ·simp [grp,h]
  | cons b s=>
   have j:(a::b::s).getLast?=(b::s).getLast?:=by simp [List.getLast?_cons_cons]
   rw [j];obtain⟨n,q,e⟩:=sI b s;have i:a::b::s++[t]=a::(b::s++[t]):=rfl;have f:grp (a::b::s)=if a=b then (a,n+1)::q else (a,1)::(b,n)::q:=by
    conv=>lhs;rw [grp,e]
   rw [i,grp,ih,f,e];by_cases d:(b::s).getLast?=some t
   ·rw [if_pos d,if_pos d];by_cases c:a=b
    ·rw [if_pos c];cases q with
     | nil=>simp [nW,c]
     | cons x q=>simp [nW,c]
    ·rw [if_neg c];cases q with
     | nil=>simp [nW,c]
     | cons x q=>simp [nW,c]
   ·rw [if_neg d,if_neg d];by_cases c:a=b
    ·rw [if_pos c];simp [c]
    ·rw [if_neg c];simp [c]
theorem C8(l:List Int):(grp l).getLast?.map (·.1)=l.getLast?:=by
 induction l with
 | nil=>rfl
 | cons a r ih=>
  cases r with
  | nil=>rfl
  | cons b s=>
   obtain⟨n,q,e⟩:=sI b s;rw [grp,e];rw [e]at ih;rw [List.getLast?_cons_cons];simp only;split
   ·rename_i h
    rw [<-ih];cases q with
    | nil=>simp [h]
    | cons x q=>simp [List.getLast?_cons_cons]
   ·rw [<-ih];simp [List.getLast?_cons_cons]
theorem pd(l:List Int):(grp l).length<=l.length:=by
 induction l with
 | nil=>simp [grp]
 | cons a r ih=>
  unfold grp;cases h:grp r with
  | nil=>simp
  | cons x q=>
   rw [h]at ih;simp only;split
   ·simp at ih ⊢;omega
   ·simpa using ih
theorem p9(l:List Int):∀ x∈grp l,x.1∈l/\1<=x.2/\x.2<=l.length:=by
 induction l with
 | nil=>simp [grp]
 | cons a r ih=>
  unfold grp;cases h:grp r with
  | nil=>simp;omega
  | cons x q=>
   rw [h]at ih;have hx:=ih x (by simp);simp only;split
   ·rename_i e
    intro y b;rcases List.mem_cons.1 b with rfl | b
    ·simp;omega
    ·have:=ih y (by simp [b]);simp;exact⟨Or.inr this.1,this.2.1,by omega⟩
   ·intro y b;rcases List.mem_cons.1 b with rfl | b
    ·simp;omega
    ·have:=ih y b;simp;exact⟨Or.inr this.1,this.2.1,by omega⟩
def kV(t n:Int):List UInt8:=if n=1 then Lib.itoa t else Lib.itoa t++[42]++Lib.itoa n
def lV(l:List Int):List UInt8:=Lib.join ((grp l).map fun x=>kV x.1 x.2) [32]
end
section
open Go.RowKit
attribute [local go_sem] Go.World.cell?_alloc_some
def byt(s:ByteArray):List Nat:=s.data.toList.map UInt8.toNat
def ScAt(w:World)(b:Nat)(s:ByteArray)(a:Nat):Prop:=w.heap[b]?=some (.cells #[.string s,.int .i64 a] 184 (0,0))
theorem ua(m:Int)(w:World)(h0: -1000<=m)(h1:m<=1000):Calls Tryz.prog 188 #[.int .i64 m] w fun e w'=>e= .returned (.bool (kz m))/\w'=w:=by
 by_cases a:0<m
 ·by_cases b:10*m<63
  ·have HB:Hid (kz m=true):=by unfold Hid;simp [kz,a,b]
   go_enter Tryz.func188,Tryz.ntmps188
   go_wp2
   go_ret;exact⟨by rw [HB.out];rfl,rfl⟩
  ·have HB:Hid (kz m=false):=by unfold Hid;simp [kz,a,b]
   go_enter Tryz.func188,Tryz.ntmps188
   go_wp2
   go_ret;exact⟨by rw [HB.out];rfl,rfl⟩
 ·have HB:Hid (kz m=false):=by unfold Hid;simp [kz,a]
  go_enter Tryz.func188,Tryz.ntmps188
  go_wp2
  go_ret;exact⟨by rw [HB.out];rfl,rfl⟩
theorem vO(n d last:Int)(w:World)(h0: -1<=n)(h1:n<=63)(h2:0<=d)(h3:d<=9):Calls Tryz.prog 177 #[.int .i64 n,.int .i64 d,.int .i64 last] w fun e w'=>e= .returned (.bool (lE n d last))/\w'=w:=by
 by_cases hn:n<0
 ·have a:max n 0=0:=by omega
  have b:Hid (lE n d last=(!(n==0) && ((decide (d<=63) && !(d==last)) || kz d))):=by
   unfold Hid lE;rw [a];simp
  go_enter Tryz.func177,Tryz.ntmps177
  go_wp2_with (go_at_call 188;refine(ua _ _ (by omega) (by omega)).mono ?_;rintro e w' ⟨rfl,rfl⟩)
  all_goals (go_ret;refine⟨?_,rfl⟩;rw [b.out];simp [*]<;>omega)
 ·have a:max n 0=n:=by omega
  have b:Hid (lE n d last=(!(n==0) && ((decide (n*10+d<=63) && !(n*10+d==last)) || kz (n*10+d)))):=by
   unfold Hid lE;rw [a]
  go_enter Tryz.func177,Tryz.ntmps177
  go_wp2_with (go_at_call 188;refine(ua _ _ (by omega) (by omega)).mono ?_;rintro e w' ⟨rfl,rfl⟩)
  all_goals (go_ret;refine⟨?_,rfl⟩;rw [b.out];simp [*]<;>omega)
theorem iT(s:ByteArray):(byt s).length=s.size:=by simp [byt]
theorem mt(s:ByteArray)(a:Nat)(h:a<s.size):(byt s)[a]?=some s[a].toNat:=by
 have:a<s.data.toList.length:=by simpa using h
 rw [byt,List.getElem?_map,List.getElem?_eq_getElem this];rfl
theorem zw(s:ByteArray)(a:Nat)(h:s.size<=a):(byt s)[a]?=none:=by
 rw [List.getElem?_eq_none_iff,iT];exact h
theorem vB(s:ByteArray)(c:Nat)(h:c∈byt s):c<256:=by
 simp only [byt,List.mem_map]at h;obtain⟨x,_,rfl⟩:=h;exact x.toNat_lt
def sK(c:Option Nat):Value:=match c with
 | some c=>if isD c=true then .tuple #[.int .i64 ((c:Int) - 48),.bool true] else .tuple #[.int .i64 0,.bool false]
 | none=> .tuple #[.int .i64 0,.bool false]
theorem zo(s:ByteArray)(b a:Nat)(w:World)(h:ScAt w b s a)(ha:a<=s.size):
  Calls Tryz.prog 176 #[pt b] w fun e w'=>ju w' w/\e= .returned (sK (byt s)[a]?):=by
 have c0:w.cell? ⟨b,0,none⟩=some (.string s):=by unfold ScAt at h;simp [World.cell?,h]
 have c1:w.cell? ⟨b,1,none⟩=some (.int .i64 a):=by unfold ScAt at h;simp [World.cell?,h]
 clear h;unfold pt;by_cases i:a<s.size
 ·have h1:(a:Int)<s.size:=by omega
  have f:((a:Int)==(s.size:Int))=false:=by simp;omega
  have hb:=s[a].toNat_lt;have d:=il (mt s a i);by_cases h48:s[a].toNat<48
  ·have g1:((s[a].toNat:Nat):Int)<48:=by omega
   have c:Hid (isD s[a].toNat=false):=by unfold Hid;simp [isD];omega
   go_enter Tryz.func176,Tryz.ntmps176
   go_wp2
   go_quiet (fail)
   go_wp2
   refine bodyPost_ret (v:= .tuple #[.int .i64 0,.bool false]) (by simp [results,Tryz.results176,go_sem]) rfl ?_;refine⟨jW (jr _) _,?_⟩;rw [d.out];simp [sK,c.out]
  ·have g1:¬((s[a].toNat:Nat):Int)<48:=by omega
   by_cases h57:s[a].toNat<=57
   ·have g2:((s[a].toNat:Nat):Int)<=57:=by omega
    have c:Hid (isD s[a].toNat=true):=by unfold Hid;simp [isD];omega
    go_enter Tryz.func176,Tryz.ntmps176
    go_wp2
    go_quiet (fail)
    go_wp2
    go_quiet (fail)
    go_wp2
    refine bodyPost_ret (v:= .tuple #[.int .i64 (((s[a].toNat:Nat):Int) - 48),.bool true]) (by simp [results,Tryz.results176,go_sem]) rfl ?_;refine⟨jW (jW (jr _) _) _,?_⟩;rw [d.out];simp [sK,c.out]
   ·have g2:57<((s[a].toNat:Nat):Int):=by omega
    have c:Hid (isD s[a].toNat=false):=by unfold Hid;simp [isD];omega
    go_enter Tryz.func176,Tryz.ntmps176
    go_wp2
    go_quiet (fail)
    go_wp2
    refine bodyPost_ret (v:= .tuple #[.int .i64 0,.bool false]) (by simp [results,Tryz.results176,go_sem]) rfl ?_;refine⟨jW (jr _) _,?_⟩;rw [d.out];simp [sK,c.out]
 ·have f:((a:Int)==(s.size:Int))=true:=by simp;omega
  have d:=il (zw s a (by omega));go_enter Tryz.func176,Tryz.ntmps176
  go_wp2
  go_quiet (fail)
  go_wp2
  refine bodyPost_ret (v:= .tuple #[.int .i64 0,.bool false]) (by simp [results,Tryz.results176,go_sem]) rfl ?_;refine⟨jW (jr _) _,?_⟩;rw [d.out];simp [sK]
theorem ScAt.c0{w:World}{b:Nat}{s:ByteArray}{a:Nat}(h:ScAt w b s a):w.cell? ⟨b,0,none⟩=some (.string s):=by unfold ScAt at h;simp [World.cell?,h]
theorem ScAt.c1{w:World}{b:Nat}{s:ByteArray}{a:Nat}(h:ScAt w b s a):w.cell? ⟨b,1,none⟩=some (.int .i64 a):=by unfold ScAt at h;simp [World.cell?,h]
theorem ScAt.f1{w:World}{b:Nat}{s:ByteArray}{a:Nat}(h:ScAt w b s a):w.frozen? ⟨b,1,none⟩=false:=by unfold ScAt at h;simp [World.frozen?,h]
theorem ScAt.set{w:World}{b:Nat}{s:ByteArray}{a:Nat}(h:ScAt w b s a)(x:Nat):ScAt (w.setCell ⟨b,1,none⟩ (.int .i64 x)) b s x:=by
 unfold ScAt at*;rw [heap_setCell_same w b 1 _ _ _ h];rfl
theorem ScAt.like{w w':World}{b:Nat}{s:ByteArray}{a:Nat}(h:ScAt w b s a)(c:ju w' w):ScAt w' b s a:=by
 unfold ScAt at*;rw [c.1];exact h
theorem ScAt.lt{w:World}{b:Nat}{s:ByteArray}{a:Nat}(h:ScAt w b s a):b<w.heap.size:=(Array.getElem?_eq_some_iff.1 h).1
def m8(s:ByteArray)(a c:Nat):Bool:=(byt s)[a]?==some c
def vU(s:ByteArray)(a c:Nat):Nat:=if m8 s a c=true then a+1 else a
theorem vw(s:ByteArray)(b a c:Nat)(w:World)(h:ScAt w b s a)(ha:a<=s.size)(hs:s.size<=9223372036854775806):
  Calls Tryz.prog 100 #[pt b,.int .u8 c] w fun e w'=>w.grownBy w' (some b)/\e= .returned (.bool (m8 s a c))/\ScAt w' b s (vU s a c):=by
 have c0:=h.c0;have c1:=h.c1;have f1:=h.f1;have d:=il h;clear h;unfold pt;by_cases f:a<s.size
 ·have h1:(a:Int)<s.size:=by omega
  have i:((a:Int)==(s.size:Int))=false:=by simp;omega
  by_cases hc:s[a].toNat=c
  ·have HB:Hid (m8 s a c=true):=by unfold Hid m8;rw [mt s a f,hc];simp
   have g1:((s[a].toNat:Nat):Int)=(c:Int):=by omega
   have hsz:(a:Int)+1<=9223372036854775807:=by omega
   go_enter Tryz.func100,Tryz.ntmps100
   go_wp2
   go_quiet (fail)
   go_wp2
   go_ret;refine⟨?_,by rw [HB.out];rfl,?_⟩
   ·exact iY _ iW
   ·rw [vU,HB.out,if_pos rfl];have:=(d.out.like (jW (jr _) nq)).set (a+1);simpa using this
  ·have HB:Hid (m8 s a c=false):=by unfold Hid m8;rw [mt s a f];simpa using hc
   have g1:((s[a].toNat:Nat):Int)≠(c:Int):=by omega
   go_enter Tryz.func100,Tryz.ntmps100
   go_wp2
   go_quiet (fail)
   go_wp2
   go_ret;refine⟨iY _ (iu _ _),by rw [HB.out];rfl,?_⟩;rw [vU,HB.out,if_neg (by simp)];exact d.out.like (jW (jr _) _)
 ·have i:((a:Int)==(s.size:Int))=true:=by simp;omega
  have HB:Hid (m8 s a c=false):=by unfold Hid m8;rw [zw s a (by omega)];simp
  go_enter Tryz.func100,Tryz.ntmps100
  go_wp2
  go_quiet (fail)
  go_wp2
  go_ret;refine⟨iY _ (iu _ _),by rw [HB.out];rfl,?_⟩;rw [vU,HB.out,if_neg (by simp)];exact d.out.like (jW (jr _) _)
def uM(w:World)(b:Nat):Nat:=match w.cell? ⟨b,1,none⟩with
 | some (.int _ x)=>x.toNat
 | _=>0
theorem lN{w:World}{b:Nat}{s:ByteArray}{a:Nat}(h:ScAt w b s a):uM w b=a:=by simp [uM,h.c1]
theorem ns{l:List Nat}{a c:Nat}(h:l[a]?=some c):l.drop a=c::l.drop (a+1):=by
 obtain⟨b,rfl⟩:=List.getElem?_eq_some_iff.1 h;exact List.drop_eq_getElem_cons b
theorem kR{l:List Nat}{a c:Nat}(h:l[a]?=some c):a<l.length:=(List.getElem?_eq_some_iff.1 h).1
structure zH(w:World)(b:Nat)(s:ByteArray)(last:Int)(a:Nat)(n':Int)(a':Nat)(w':World):Prop where
 grown:w.grownBy w' (some b)
 sc:ScAt w' b s a'
 le:a'<=s.size
 lo: -1<=n'
 hi:n'<=63
 num:(thr last n' ((byt s).drop a')).1=(thr last (-1) ((byt s).drop a)).1
 len:a'+(thr last n' ((byt s).drop a')).2=a+(thr last (-1) ((byt s).drop a)).2
theorem Af{n d last:Int}(h:lE n d last=true):max n 0*10+d<=63:=by
 simp only [lE,kz,Bool.and_eq_true,Bool.or_eq_true,decide_eq_true_eq]at h;omega
theorem CS{last n:Int}{c:Nat}{l:List Nat}(a:isD c=true)(b:lE n ((c:Int) - 48) last=true):thr last n (c::l)=((thr last (nxt n c) l).1,(thr last (nxt n c) l).2+1):=by
 rw [thr,if_pos (by rw [a,b];rfl)]
theorem wt{last n:Int}{c:Nat}{l:List Nat}(h:(isD c && lE n ((c:Int) - 48) last)=false):thr last n (c::l)=(n,0):=by
 rw [thr,if_neg (by rw [h];simp)]
theorem Cs(s:ByteArray)(b a:Nat)(last:Int)(w:World)(h:ScAt w b s a)(J:a<=s.size)(hs:s.size<=9223372036854775806):
  Calls Tryz.prog 142 #[pt b,.int .i64 last] w fun e w'=>w.grownBy w' (some b)/\
   e= .returned (.tuple #[.int .i64 (thr last (-1) ((byt s).drop a)).1,.bool (lC last (thr last (-1) ((byt s).drop a)).1)])/\ScAt w' b s (a+(thr last (-1) ((byt s).drop a)).2)/\ -1<=(thr last (-1) ((byt s).drop a)).1/\(thr last (-1) ((byt s).drop a)).1<=63:=by
 have L:Hid (zH w b s last a (-1) a w):=⟨iu _ _,h,J,by omega,by omega,rfl,rfl⟩;clear h;unfold pt;go_enter Tryz.func142,Tryz.ntmps142
 go_wp2_with fail
 go_loopw [6] (fun i w'=>∃ (n':Int) (d:Nat),i= .int .i64 n'/\Hid (zH w b s last a n' d w')) (fun _ w'=>s.size - uM w' b)
 case atStart=>exact⟨-1,a,rfl,L.out⟩
 case round=>
  obtain⟨n',d,rfl,j⟩:=hrel;have n:=j.out.lo;have m:=j.out.hi;have I:Hid (uM wr b=d):=lN j.out.sc;go_wp2_with fail
  refine(zo s b d _ j.out.sc j.out.le).mono ?_;rintro e r ⟨B,rfl⟩;have k:Hid (zH w b s last a n' d r):=⟨ji j.out.grown B,j.out.sc.like B,j.out.le,n,m,j.out.num,j.out.len⟩;have fin:∀ y,ju y r->(thr last n' ((byt s).drop d))=(n',0)->w.grownBy y (some b)/\(thr last (-1) ((byt s).drop a)).1=n'/\ScAt y b s (a+(thr last (-1) ((byt s).drop a)).2):=by
   intro y D M;have q:=k.out.num;have t:=k.out.len;rw [M]at q t;refine⟨ji k.out.grown D,q.symm,?_⟩;rw [<-t];exact k.out.sc.like D
  have C:=il fin;clear fin B j;cases hc:(byt s)[d]? with
  | none=>
   have x:Hid (thr last n' ((byt s).drop d)=(n',0)):=by
    unfold Hid;rw [List.drop_eq_nil_of_le (List.getElem?_eq_none_iff.1 hc)];rfl
   simp only [sK];go_wp2_with fail
   all_goals
    refine bodyPost_ret (v:= .tuple #[.int .i64 n',.bool (n' != -1 && n' !=last)]) (by simp [results,Tryz.results142,go_sem,*]) rfl ?_;obtain⟨p,f,u⟩:=C.out r (jr _) x.out;exact⟨p,by rw [f];rfl,u,by rw [f];exact n,by rw [f];exact m⟩
  | some c=>
   have o:=ns hc;cases hd:isD c with
   | false=>
    have x:Hid (thr last n' ((byt s).drop d)=(n',0)):=by
     unfold Hid;rw [o];exact wt (by rw [hd];rfl)
    simp only [sK,hd,Bool.false_eq_true,if_false];clear o;go_wp2_with fail
    all_goals
     refine bodyPost_ret (v:= .tuple #[.int .i64 n',.bool (n' != -1 && n' !=last)]) (by simp [results,Tryz.results142,go_sem,*]) rfl ?_;obtain⟨p,f,u⟩:=C.out r (jr _) x.out;exact⟨p,by rw [f];rfl,u,by rw [f];exact n,by rw [f];exact m⟩
   | true=>
    have hcr:48<=c/\c<=57:=by simpa [isD]using hd
    simp only [sK,hd,if_true];have F:=kR hc;cases hg:lE n' ((c:Int) - 48) last with
    | false=>
     have x:Hid (thr last n' ((byt s).drop d)=(n',0)):=by
      unfold Hid;rw [o];exact wt (by rw [hg];simp)
     clear o;go_wp2_with (go_at_call 177;refine(vO _ _ _ _ n m (by omega) (by omega)).mono ?_;rintro e w' ⟨rfl,rfl⟩;rw [hg])
     all_goals
      refine bodyPost_ret (v:= .tuple #[.int .i64 n',.bool (n' != -1 && n' !=last)]) (by simp [results,Tryz.results142,go_sem,*]) rfl ?_;obtain⟨p,f,u⟩:=C.out _ (jr _) x.out;exact⟨p,by rw [f];rfl,u,by rw [f];exact n,by rw [f];exact m⟩
    | true=>
     have E:=CS (l:=(byt s).drop (d+1)) hd hg;have K:=Af hg;have z:Hid (zH w b s last a (nxt n' c) (d+1) (r.setCell ⟨b,1,none⟩ (.int .i64 (d+1:Nat)))):=by
      have q:=k.out.num;have t:=k.out.len;rw [o,E]at q t;exact⟨ip k.out.grown iW,k.out.sc.set (d+1),by rw [iT]at F;omega,by unfold nxt;omega,K,q,by simp only at t;omega⟩
     have c1:=k.out.sc.c1;have f1:=k.out.sc.f1;rw [iT]at F;have hsz:(d:Int)+1<=9223372036854775807:=by omega
     have G:Hid (uM wr b=d):=I.out;clear o E;by_cases hneg:n'<0
     ·have A:Hid (nxt n' c=(c:Int) - 48):=by unfold Hid nxt;omega
      go_wp2_with (go_at_call 177;refine(vO _ _ _ _ n m (by omega) (by omega)).mono ?_;rintro e w' ⟨rfl,rfl⟩;rw [hg])
      go_roundw
      case rel=>exact⟨nxt n' c,d+1,by rw [A.out],il (by simpa using z.out)⟩
      case measure=>
       have:=lN z.out.sc;have H:=G.out;simp only [Int.natCast_add,Int.natCast_one]at this;omega
     ·have A:Hid (nxt n' c=n'*10+((c:Int) - 48)):=by unfold Hid nxt;omega
      go_wp2_with (go_at_call 177;refine(vO _ _ _ _ n m (by omega) (by omega)).mono ?_;rintro e w' ⟨rfl,rfl⟩;rw [hg])
      go_roundw
      case rel=>exact⟨nxt n' c,d+1,by rw [A.out],il (by simpa using z.out)⟩
      case measure=>
       have:=lN z.out.sc;have H:=G.out;simp only [Int.natCast_add,Int.natCast_one]at this;omega
structure zr(w:World)(b:Nat)(s:ByteArray)(a:Nat)(n':Int)(a':Nat)(w':World):Prop where
 grown:w.grownBy w' (some b)
 sc:ScAt w' b s a'
 le:a'<=s.size
 lo:0<=n'
 hi:n'<=501
 num:(cnt n' ((byt s).drop a')).1=(cnt 0 ((byt s).drop a)).1
 len:a'+(cnt n' ((byt s).drop a')).2=a+(cnt 0 ((byt s).drop a)).2
theorem BM{n:Int}{c:Nat}{l:List Nat}(a:(isD c && !(n==0 && c==48))=true):cnt n (c::l)=((cnt (min (10*n+((c:Int) - 48)) 501) l).1,(cnt (min (10*n+((c:Int) - 48)) 501) l).2+1):=by
 rw [cnt,if_pos a]
theorem wZ{n:Int}{c:Nat}{l:List Nat}(h:(isD c && !(n==0 && c==48))=false):cnt n (c::l)=(n,0):=by
 rw [cnt,if_neg (by rw [h];simp)]
theorem EY(s:ByteArray)(b a:Nat)(w:World)(h:ScAt w b s a)(H:a<=s.size)(hs:s.size<=9223372036854775806):
  Calls Tryz.prog 143 #[pt b] w fun e w'=>w.grownBy w' (some b)/\
   e= .returned (.int .i64 (cnt 0 ((byt s).drop a)).1)/\ScAt w' b s (a+(cnt 0 ((byt s).drop a)).2)/\0<=(cnt 0 ((byt s).drop a)).1/\(cnt 0 ((byt s).drop a)).1<=501:=by
 have K:Hid (zr w b s a 0 a w):=⟨iu _ _,h,H,by omega,by omega,rfl,rfl⟩;clear h;unfold pt;go_enter Tryz.func143,Tryz.ntmps143
 go_wp2_with fail
 go_loopw [3] (fun i w'=>∃ (n':Int) (d:Nat),i= .int .i64 n'/\Hid (zr w b s a n' d w')) (fun _ w'=>s.size - uM w' b)
 case atStart=>exact⟨0,a,rfl,K.out⟩
 case round=>
  obtain⟨n',d,rfl,k⟩:=hrel;have A:=k.out.lo;have y:=k.out.hi;have x:Hid (uM wr b=d):=lN k.out.sc;go_wp2_with fail
  refine(zo s b d _ k.out.sc k.out.le).mono ?_;rintro e z ⟨C,rfl⟩;have m:Hid (zr w b s a n' d z):=⟨ji k.out.grown C,k.out.sc.like C,k.out.le,A,y,k.out.num,k.out.len⟩;have fin:(cnt n' ((byt s).drop d))=(n',0)->w.grownBy z (some b)/\(cnt 0 ((byt s).drop a)).1=n'/\ScAt z b s (a+(cnt 0 ((byt s).drop a)).2):=by
   intro L;have r:=m.out.num;have t:=m.out.len;rw [L]at r t;refine⟨m.out.grown,r.symm,?_⟩;rw [<-t];exact m.out.sc
  have E:=il fin;clear fin C k;cases hc:(byt s)[d]? with
  | none=>
   have v:Hid (cnt n' ((byt s).drop d)=(n',0)):=by
    unfold Hid;rw [List.drop_eq_nil_of_le (List.getElem?_eq_none_iff.1 hc)];rfl
   simp only [sK];go_wp2_with fail
   go_ret;obtain⟨q,j,u⟩:=E.out v.out;exact⟨q,by rw [j];rfl,u,by rw [j];exact A,by rw [j];exact y⟩
  | some c=>
   have p:=ns hc;have I:=kR hc;rw [iT]at I;cases hd:isD c with
   | false=>
    have v:Hid (cnt n' ((byt s).drop d)=(n',0)):=by
     unfold Hid;rw [p];exact wZ (by rw [hd];rfl)
    simp only [sK,hd,Bool.false_eq_true,if_false];clear p;go_wp2_with fail
    go_ret;obtain⟨q,j,u⟩:=E.out v.out;exact⟨q,by rw [j];rfl,u,by rw [j];exact A,by rw [j];exact y⟩
   | true=>
    have hcr:48<=c/\c<=57:=by simpa [isD]using hd
    simp only [sK,hd,if_true];by_cases F:n'=0/\c=48
    ·obtain⟨rfl,rfl⟩:=F;have v:Hid (cnt 0 ((byt s).drop d)=(0,0)):=by
      unfold Hid;rw [p];exact wZ rfl
     clear p;go_wp2_with fail
     go_ret;obtain⟨q,j,u⟩:=E.out v.out;exact⟨q,by rw [j];rfl,u,by rw [j];exact A,by rw [j];exact y⟩
    ·have G:=BM (n:=n') (l:=(byt s).drop (d+1)) (show (isD c && !(n'==0 && c==48))=true by
      rw [hd];simp;omega)
     have f:Hid (zr w b s a (min (10*n'+((c:Int) - 48)) 501) (d+1) (z.setCell ⟨b,1,none⟩ (.int .i64 (d+1:Nat)))):=by
      have r:=m.out.num;have t:=m.out.len;rw [p,G]at r t;exact⟨ip m.out.grown iW,m.out.sc.set (d+1),by omega,by omega,by omega,r,by simp only at t;omega⟩
     have c1:=m.out.sc.c1;have f1:=m.out.sc.f1;have hsz:(d:Int)+1<=9223372036854775807:=by omega
     clear p G;have D:n'=0->((c:Int) - 48==0)=false:=fun h=>by simp;omega
     clear F;cases hq:(n'==0)with
     | true=>
      have hq3:=D (by simpa using hq);clear D;by_cases J:501<10*n'+((c:Int) - 48)
      ·have o:Hid (min (10*n'+((c:Int) - 48)) 501=501):=by unfold Hid;omega
       go_wp2_with fail
       all_goals
        go_roundw
        case rel=>exact⟨_,d+1,rfl,il (by rw [o.out]at f;simpa using f.out)⟩
        case measure=>
         have:=lN f.out.sc;have B:=x.out;simp only [Int.natCast_add,Int.natCast_one]at this;omega
      ·have o:Hid (min (10*n'+((c:Int) - 48)) 501=10*n'+((c:Int) - 48)):=by unfold Hid;omega
       go_wp2_with fail
       all_goals
        go_roundw
        case rel=>exact⟨_,d+1,rfl,il (by rw [o.out]at f;simpa using f.out)⟩
        case measure=>
         have:=lN f.out.sc;have B:=x.out;simp only [Int.natCast_add,Int.natCast_one]at this;omega
     | false=>
      clear D;by_cases J:501<10*n'+((c:Int) - 48)
      ·have o:Hid (min (10*n'+((c:Int) - 48)) 501=501):=by unfold Hid;omega
       go_wp2_with fail
       all_goals
        go_roundw
        case rel=>exact⟨_,d+1,rfl,il (by rw [o.out]at f;simpa using f.out)⟩
        case measure=>
         have:=lN f.out.sc;have B:=x.out;simp only [Int.natCast_add,Int.natCast_one]at this;omega
      ·have o:Hid (min (10*n'+((c:Int) - 48)) 501=10*n'+((c:Int) - 48)):=by unfold Hid;omega
       go_wp2_with fail
       all_goals
        go_roundw
        case rel=>exact⟨_,d+1,rfl,il (by rw [o.out]at f;simpa using f.out)⟩
        case measure=>
         have:=lN f.out.sc;have B:=x.out;simp only [Int.natCast_add,Int.natCast_one]at this;omega
end
end Go.Proofs.YtklenjmfalljgabGreatDoor
