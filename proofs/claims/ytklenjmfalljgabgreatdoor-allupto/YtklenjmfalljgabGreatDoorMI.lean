/- The texts TxtP TxtQ TxtR TxtW Crc BytP BytQ Wqa Wqb Wqc Scn Scn2 Scn3. -/
import Derived.Test.YtklenjmfalljgabGreatDoorMH
import Derived.RowKit
import Derived.Lib.ItoaNum
import Derived.Lib.Join
import Derived.WalkSpells
import Derived.WalkLawsBesides
import Derived.Deep.Light
namespace Go.Proofs.YtklenjmfalljgabGreatDoor
set_option maxRecDepth 100000
set_option maxHeartbeats 8000000
section
def isD(b:Nat):Bool:=decide (48<=b) && decide (b<=57)
def nxt(n:Int)(b:Nat):Int:=max n 0*10+((b:Int) - 48)
def ky(m:Int):Bool:=decide (0<m) && decide (10*m<63)
def lD(n d last:Int):Bool:=
 !(n==0) && ((decide (max n 0*10+d<=63) && !(max n 0*10+d==last)) || ky (max n 0*10+d))
def thr(last:Int):Int->List Nat->Int × Nat
 | n,[]=>(n,0)
 | n,b::r=>if (isD b && lD n ((b:Int) - 48) last)=true then ((thr last (nxt n b) r).1,(thr last (nxt n b) r).2+1) else (n,0)
def cnt:Int->List Nat->Int × Nat
 | n,[]=>(n,0)
 | n,b::r=>if (isD b && !(n==0 && b==48))=true then ((cnt (min (10*n+((b:Int) - 48)) 501) r).1,(cnt (min (10*n+((b:Int) - 48)) 501) r).2+1) else (n,0)
structure Ge where
 thread:Int
 count:Int
 ok:Bool
 len:Nat
def lC(last n:Int):Bool:=!(n== -1) && !(n==last)
def jH(last:Int)(l:List Nat):Ge:=
 if (lC last (thr last (-1) l).1 && (l[(thr last (-1) l).2]?==some 42))=true then
  ⟨(thr last (-1) l).1,(cnt 0 (l.drop ((thr last (-1) l).2+1))).1,decide (1<(cnt 0 (l.drop ((thr last (-1) l).2+1))).1),(thr last (-1) l).2+1+(cnt 0 (l.drop ((thr last (-1) l).2+1))).2⟩
 else ⟨(thr last (-1) l).1,1,lC last (thr last (-1) l).1,(thr last (-1) l).2⟩
structure AJ where
 out:List Int
 at_:Nat
 ok:Bool
def mq(sch:List Int)(total' count thread:Int):List Int:=if total'<501 then sch++List.replicate count.toNat thread else sch
def mw:Nat->List Int->Int->Int->Nat->List Nat->AJ
 | 0,_,_,_,_,_=>⟨[],0,false⟩
 | f+1,sch,last,total,at_,l=>
  if (jH last l).ok=true then
   match l.drop (jH last l).len with
   | []=>if min (total+(jH last l).count) 501=501 then ⟨[],0,false⟩ else ⟨mq sch (min (total+(jH last l).count) 501) (jH last l).count (jH last l).thread,0,true⟩
   | b::rest=>if b=32 then mw f (mq sch (min (total+(jH last l).count) 501) (jH last l).count (jH last l).thread) (jH last l).thread (min (total+(jH last l).count) 501) (at_+(jH last l).len+1) rest
     else ⟨[],at_+(jH last l).len,false⟩
  else ⟨[],at_+(jH last l).len,false⟩
def jM(l:List Nat):AJ:=if l=[] then ⟨[],0,true⟩ else mw (l.length+1) [] (-1) 0 0 l
def i7:List Nat->List (List Nat)
 | []=>[[]]
 | b::r=>if b=32 then []::i7 r else (b::(i7 r).headD [])::(i7 r).tail
def jm(l:List Nat):List Nat:=l.takeWhile (· !=42)
def mW(l:List Nat):List Nat:=(l.dropWhile (· !=42)).drop 1
def lB(l:List Nat):Bool:=l.any (·==42)
def i8(l:List Nat):Bool:=l.all isD && ((l==[48]) || (!(l==[]) && !(l.head?==some 48)))
def iE:Int->List Nat->Int
 | n,[]=>min n 1000
 | n,b::r=>if n<1000 then iE (10*n+(((b+208) % 256:Nat):Int)) r else min n 1000
def kQ(l:List Nat)(ahead:Int):Option (Int × Int):=
 if (!i8 (jm l) || decide (63<iE 0 (jm l)) || (iE 0 (jm l)==ahead))=true then none
 else if (lB l && (!i8 (mW l) || decide (iE 0 (mW l)<2)))=true then none
 else if lB l=true then some (iE 0 (jm l),iE 0 (mW l)) else some (iE 0 (jm l),1)
def jf(l:List Nat)(ahead:Int):Bool:=
 if l=[] then true
 else if (!i8 (jm l) || decide (63<iE 0 (jm l)))=true then false
 else if lB l=true then !(iE 0 (jm l)==ahead) && ((mW l==[]) || (i8 (mW l) && !(mW l==[48])))
 else !(iE 0 (jm l)==ahead) || (decide (1<=iE 0 (jm l)) && decide (iE 0 (jm l)<=6))
def lI(out:List Int)(t n:Int):List Int:=out++List.replicate (min n.toNat (501 - out.length)) t
def jj:List (List Nat)->Int->List Int->Option (List Int × Int)
 | [],ahead,out=>some (out,ahead)
 | q::qs,ahead,out=>match kQ q ahead with
  | none=>none
  | some (t,n)=>jj qs t (lI out t n)
def mU(ahead:Int)(l:List Nat):Bool:=
 match jj (i7 l).dropLast ahead []with
 | none=>false
 | some (_,a)=>jf ((i7 l).getLastD []) a
def kO(l:List Nat):Nat->Nat
 | 0=>0
 | k+1=>if mU (-1) (l.take (k+1))=true then k+1 else kO l k
def lF(l:List Nat):AJ:=
 if l=[] then ⟨[],0,true⟩
 else match jj (i7 l) (-1) []with
  | some (o,_)=>if 500<o.length then ⟨[],0,false⟩ else ⟨o,0,true⟩
  | none=>⟨[],kO l l.length,false⟩
theorem D9(n:Int)(l:List Nat):(cnt n l).2<=l.length:=by
 induction l generalizing n with
 | nil=>simp [cnt]
 | cons b r ih=>unfold cnt;split
          ·simpa using ih _
          ·simp
theorem sS(n:Int)(hn:0<n)(l:List Nat)(k:Nat)(a:k<=l.length):(l.take k).all isD=decide (k<=(cnt n l).2):=by
 induction l generalizing n k with
 | nil=>simp at a;subst a;simp [cnt]
 | cons b r ih=>
  cases k with
  | zero=>simp
  | succ k=>
   unfold cnt;cases hd:isD b
   ·simp [hd]
   ·have c:(n==0)=false:=by simp;omega
    simp only [List.take_succ_cons,List.all_cons,hd,Bool.true_and,c,Bool.false_and,Bool.not_false,if_true];have hb:48<=b/\b<=57:=by simpa [isD]using hd
    rw [ih (min (10*n+((b:Int) - 48)) 501) (by omega) k (by simpa using a)];simp
theorem Az(n m:Int)(hn:0<n)(hm:n=min m 501)(l:List Nat)(h:l.all isD=true):(cnt n l).1=min (iE m l) 501:=by
 induction l generalizing n m with
 | nil=>simp [cnt,iE];omega
 | cons b r ih=>
  simp only [List.all_cons,Bool.and_eq_true]at h;have hb:48<=b/\b<=57:=by simpa [isD]using h.1
  unfold cnt iE;have d:(n==0)=false:=by simp;omega
  simp only [h.1,d,Bool.true_and,Bool.false_and,Bool.not_false,if_true];have e:(((b+208) % 256:Nat):Int)=(b:Int) - 48:=by omega
  rw [e];split
  ·exact ih _ _ (by omega) (by omega) h.2
  ·have:∀ (x:Int) (l:List Nat),x=501->l.all isD=true->(cnt x l).1=501:=by
    intro x l f a;induction l generalizing x with
    | nil=>simp [cnt,f]
    | cons c s ih2=>
     simp only [List.all_cons,Bool.and_eq_true]at a;have hc:48<=c/\c<=57:=by simpa [isD]using a.1
     unfold cnt;have d:(x==0)=false:=by simp;omega
     simp only [a.1,d,Bool.true_and,Bool.false_and,Bool.not_false,if_true];exact ih2 _ (by omega) a.2
   rw [this _ r (by omega) h.2];omega
theorem pM(l:List Nat)(k:Nat)(d:k<=l.length):((l.take k==[]) || (i8 (l.take k) && !(l.take k==[48])))=decide (k<=(cnt 0 l).2):=by
 cases l with
 | nil=>simp at d;subst d;simp [cnt]
 | cons b r=>
  cases k with
  | zero=>simp
  | succ k=>
   unfold cnt i8;cases hd:isD b
   ·simp [hd]
   ·have hb:48<=b/\b<=57:=by simpa [isD]using hd
    by_cases c:b=48
    ·subst c;simp [hd]
    ·have e:((b::r.take k)==[48])=false:=by
      cases r.take k<;>simp [c]
     have f:(b==48)=false:=by simpa using c
     simp only [List.take_succ_cons,List.all_cons,hd,Bool.true_and,e,Bool.false_or,List.head?_cons,f,Bool.and_false,Bool.not_false,if_true,Bool.and_true];rw [sS (min (10*0+((b:Int) - 48)) 501) (by omega) r k (by simpa using d)];have e3:(some b==some 48)=false:=by simpa using c
     simp [c]
theorem uk(l:List Nat)(h:(cnt 0 l).2=l.length):(cnt 0 l).1=min (iE 0 l) 501:=by
 cases l with
 | nil=>simp [cnt,iE];omega
 | cons b r=>
  unfold cnt at h ⊢;split at h
  ·rename_i hc
   simp only [hc,if_true];simp only [Bool.and_eq_true,Bool.not_eq_true']at hc;have hb:48<=b/\b<=57:=by simpa [isD]using hc.1
   have h48:b≠48:=by
    intro e;have:=hc.2;simp [e]at this
   unfold iE;simp only [show (0:Int)<1000 by decide,if_true];have e:(((b+208) % 256:Nat):Int)=(b:Int) - 48:=by omega
   rw [e];have a:(cnt (min (10*0+((b:Int) - 48)) 501) r).2=r.length:=by simpa using h
   refine Az _ _ (by omega) (by omega) r ?_;have:=sS (min (10*0+((b:Int) - 48)) 501) (by omega) r r.length (Nat.le_refl _);rw [List.take_length,a]at this;simpa using this
  ·simp at h
theorem yN(last:Int)(l:List Nat):thr last (-1) l=match l with
  | []=>(-1,0)
  | b::r=>if isD b=true/\(((b:Int) - 48≠last)\/(49<=b/\b<=54)) then
    (match r with
    | []=>((b:Int) - 48,1)
    | c::_=>if isD c=true/\b≠48/\((b:Int) - 48)*10+((c:Int) - 48)<=63/\((b:Int) - 48)*10+((c:Int) - 48)≠last then (((b:Int) - 48)*10+((c:Int) - 48),2) else ((b:Int) - 48,1))
   else (-1,0):=by
 have i:∀ (n:Int) (r:List Nat),10<=n->thr last n r=(n,0):=by
  intro n r hn;cases r with
  | nil=>rfl
  | cons c s=>
   unfold thr;rw [if_neg];simp only [isD,lD,ky,Bool.and_eq_true,Bool.or_eq_true,decide_eq_true_eq,Bool.not_eq_true',beq_eq_false_iff_ne];omega
 have k:∀ (b:Nat) (r:List Nat),48<=b->b<=57->thr last ((b:Int) - 48) r=match r with
   | []=>((b:Int) - 48,0)
   | c::_=>if isD c=true/\b≠48/\((b:Int) - 48)*10+((c:Int) - 48)<=63/\((b:Int) - 48)*10+((c:Int) - 48)≠last then (((b:Int) - 48)*10+((c:Int) - 48),1) else ((b:Int) - 48,0):=by
  intro b r h1 h2;cases r with
  | nil=>rfl
  | cons c s=>
   unfold thr;simp only;by_cases hc:isD c=true/\b≠48/\((b:Int) - 48)*10+((c:Int) - 48)<=63/\((b:Int) - 48)*10+((c:Int) - 48)≠last
   ·have f:48<=c/\c<=57:=by simpa [isD]using hc.1
    rw [if_pos hc,if_pos]
    ·have e:nxt ((b:Int) - 48) c=((b:Int) - 48)*10+((c:Int) - 48):=by unfold nxt;rw [Int.max_eq_left (by omega)]
     rw [e,i _ s (by omega)]
    ·simp only [lD,ky,hc.1,Bool.true_and,Bool.and_eq_true,Bool.or_eq_true,decide_eq_true_eq,Bool.not_eq_true',beq_eq_false_iff_ne];rw [Int.max_eq_left (by omega)];omega
   ·rw [if_neg hc,if_neg];intro h;apply hc;simp only [lD,ky,Bool.and_eq_true,Bool.or_eq_true,decide_eq_true_eq,Bool.not_eq_true',beq_eq_false_iff_ne]at h;rw [Int.max_eq_left (by omega)]at h;obtain⟨d,a,j⟩:=h;have f:48<=c/\c<=57:=by simpa [isD]using d
    exact⟨d,by omega,by omega,by omega⟩
 cases l with
 | nil=>rfl
 | cons b r=>
  unfold thr;simp only;by_cases a:isD b=true/\(((b:Int) - 48≠last)\/(49<=b/\b<=54))
  ·have f:48<=b/\b<=57:=by simpa [isD]using a.1
   rw [if_pos a,if_pos]
   ·have e:nxt (-1) b=(b:Int) - 48:=by unfold nxt;rw [Int.max_eq_right (by omega)];omega
    rw [e,k b r f.1 f.2];cases r with
    | nil=>rfl
    | cons c s=>simp only;split<;>rfl
   ·simp only [lD,ky,a.1,Bool.true_and,Bool.and_eq_true,Bool.or_eq_true,decide_eq_true_eq,Bool.not_eq_true',beq_eq_false_iff_ne];rw [Int.max_eq_right (by omega)];omega
  ·rw [if_neg a,if_neg];intro h;apply a;simp only [lD,ky,Bool.and_eq_true,Bool.or_eq_true,decide_eq_true_eq,Bool.not_eq_true',beq_eq_false_iff_ne]at h;rw [Int.max_eq_right (by omega)]at h;obtain⟨d,hc,j⟩:=h;exact⟨d,by omega⟩
theorem ph{b:Nat}(h:isD b=true){n:Int}(a:n<1000)(r:List Nat):iE n (b::r)=iE (10*n+((b:Int) - 48)) r:=by
 have hb':48<=b/\b<=57:=by simpa [isD]using h
 have c:(((b+208) % 256:Nat):Int)=(b:Int) - 48:=by omega
 rw [iE,if_pos a,c]
theorem ur(n:Int):iE n []=min n 1000:=rfl
theorem pa{b:Nat}(h:isD b=true):iE 0 [b]=(b:Int) - 48:=by
 have hb':48<=b/\b<=57:=by simpa [isD]using h
 rw [ph h (by omega),ur];omega
theorem nW{b c:Nat}(h:isD b=true)(a:isD c=true):iE 0 [b,c]=((b:Int) - 48)*10+((c:Int) - 48):=by
 have hb':48<=b/\b<=57:=by simpa [isD]using h
 have hc':48<=c/\c<=57:=by simpa [isD]using a
 rw [ph h (by omega),ph a (by omega),ur];omega
theorem Ag(n:Int)(hn:64<=n)(l:List Nat):63<iE n l:=by
 induction l generalizing n with
 | nil=>unfold iE;omega
 | cons b r ih=>
  unfold iE;split
  ·exact ih _ (by omega)
  ·omega
theorem mP(a:List Nat):(i8 a=true/\iE 0 a<=63)↔
  (∃ b,a=[b]/\isD b=true)\/(∃ b c,a=[b,c]/\isD b=true/\isD c=true/\b≠48/\((b:Int) - 48)*10+((c:Int) - 48)<=63):=by
 constructor
 ·rintro⟨f,j⟩;rcases a with _ | ⟨b,_ | ⟨c,_ | ⟨d,r⟩⟩⟩
  ·simp [i8]at f
  ·left;exact⟨b,rfl,by simpa [i8]using f⟩
  ·right
   simp [i8]at f;obtain⟨⟨e,hc⟩,i⟩:=f;rw [nW e hc]at j;exact⟨b,c,rfl,e,hc,i,j⟩
  ·exfalso
   simp [i8]at f;obtain⟨⟨e,hc,k,_⟩,i⟩:=f;have m:48<=b/\b<=57:=by simpa [isD]using e
   have hc':48<=c/\c<=57:=by simpa [isD]using hc
   have hd':48<=d/\d<=57:=by simpa [isD]using k
   rw [ph e (by omega),ph hc (by omega),ph k (by omega)]at j;have:=Ag (10*(10*(10*0+((b:Int) - 48))+((c:Int) - 48))+((d:Int) - 48)) (by omega) r;omega
 ·rintro(⟨b,rfl,e⟩ | ⟨b,c,rfl,e,hc,i,l⟩)
  ·have m:48<=b/\b<=57:=by simpa [isD]using e
   refine⟨?_,?_⟩
   ·by_cases h:b=48
    ·subst h;rfl
    ·simp [i8,e]
   ·rw [pa e];omega
  ·exact⟨by simp [i8,e,hc,i],by rw [nW e hc];exact l⟩
theorem o8{a bb:List Nat}(c:∀ x∈a,x≠42):jm (a++42::bb)=a/\mW (a++42::bb)=bb/\lB (a++42::bb)=true:=by
 induction a with
 | nil=>simp [jm,mW,lB]
 | cons x a ih=>
  have b:x≠42:=c x (by simp);obtain⟨d,e,h3⟩:=ih (fun y hy=>c y (by simp [hy]));refine⟨?_,?_,?_⟩
  ·unfold jm at*;rw [List.cons_append,List.takeWhile_cons,if_pos (by simpa using b),d]
  ·unfold mW at*;rw [List.cons_append,List.dropWhile_cons,if_pos (by simpa using b),e]
  ·simp [lB]
theorem pk{a:List Nat}(c:∀ x∈a,x≠42):jm a=a/\mW a=[]/\lB a=false:=by
 induction a with
 | nil=>simp [jm,mW,lB]
 | cons x a ih=>
  have b:x≠42:=c x (by simp);obtain⟨d,e,f⟩:=ih (fun y hy=>c y (by simp [hy]));refine⟨?_,?_,?_⟩
  ·unfold jm at*;rw [List.takeWhile_cons,if_pos (by simpa using b),d]
  ·unfold mW at*;rw [List.dropWhile_cons,if_pos (by simpa using b),e]
  ·unfold lB at*;rw [List.any_cons,f];simpa using b
theorem nu{l:List Nat}(d:l≠[])(last:Int)(h:¬(i8 (jm l)=true/\iE 0 (jm l)<=63)):jf l last=false/\kQ l last=none:=by
 have b:(!i8 (jm l) || decide (63<iE 0 (jm l)))=true:=by
  cases hp:i8 (jm l)
  ·rfl
  ·simp only [Bool.not_true,Bool.false_or,decide_eq_true_eq];by_cases c:iE 0 (jm l)<=63
   ·exact absurd ⟨hp,c⟩ h
   ·omega
 unfold jf kQ;rw [if_neg d,if_pos b,b,Bool.true_or,if_pos rfl];exact⟨rfl,rfl⟩
theorem rG{a bb:List Nat}(d:∀ x∈a,x≠42)(f:i8 a=true)(hv:iE 0 a<=63)(last:Int):
  jf (a++42::bb) last=(!(iE 0 a==last) && ((bb==[]) || (i8 bb && !(bb==[48])))):=by
 obtain⟨b,c,e⟩:=o8 (bb:=bb) d;unfold jf;rw [if_neg (by simp),b,c,e,f,if_neg (by simp;omega),if_pos rfl]
theorem pQ{a:List Nat}(c:∀ x∈a,x≠42)(d:a≠[])(f:i8 a=true)(hv:iE 0 a<=63)(last:Int):
  jf a last=(!(iE 0 a==last) || (decide (1<=iE 0 a) && decide (iE 0 a<=6))):=by
 obtain⟨b,h2,e⟩:=pk c;unfold jf;rw [if_neg d,b,e,f,if_neg (by simp;omega),if_neg (by simp)]
theorem xx{a bb:List Nat}(d:∀ x∈a,x≠42)(f:i8 a=true)(hv:iE 0 a<=63)(last:Int)(h:iE 0 a≠last):
  kQ (a++42::bb) last=if (!i8 bb || decide (iE 0 bb<2))=true then none else some (iE 0 a,iE 0 bb):=by
 obtain⟨b,c,e⟩:=o8 (bb:=bb) d;unfold kQ;rw [b,c,e,f,if_neg (by simp;exact⟨by omega,h⟩),Bool.true_and,if_pos rfl]
theorem qE{l:List Nat}{last:Int}(a:iE 0 (jm l)=last):kQ l last=none:=by
 unfold kQ;rw [if_pos];simp [a]
theorem pm{a:List Nat}(c:∀ x∈a,x≠42)(e:i8 a=true)(hv:iE 0 a<=63)(last:Int)(f:iE 0 a≠last):
  kQ a last=some (iE 0 a,1):=by
 obtain⟨b,h2,d⟩:=pk c;unfold kQ;rw [b,d,e,if_neg (by simp;exact⟨by omega,f⟩),if_neg (by simp),if_neg (by simp)]
structure FH(last:Int)(q:List Nat):Prop where
 len:(jH last q).len<=q.length
 pre:∀ k,k<=q.length->jf (q.take k) last=decide (k<=(jH last q).len)
 yes:∀ t n,kQ q last=some (t,n)->(jH last q).ok=true/\(jH last q).len=q.length/\(jH last q).thread=t/\(jH last q).count=min n 501/\1<=n
 no:kQ q last=none->(jH last q).ok=true->(jH last q).len≠q.length
theorem sE(last:Int):jf [] last=true:=rfl
theorem wR{b:Nat}(h:isD b=true):b≠42/\b≠32:=by
 have:48<=b/\b<=57:=by simpa [isD]using h
 omega
theorem t7(last:Int)(a bb:List Nat)(o:∀ x∈a,x≠42)(q:i8 a=true)(l:iE 0 a<=63)(d:iE 0 a≠last)(hn0:0<=iE 0 a)
  (D:thr last (-1) (a++42::bb)=(iE 0 a,a.length)) (F:∀ k,k<=a.length->jf (a.take k) last=true):FH last (a++42::bb):=by
 have e:jH last (a++42::bb)=⟨iE 0 a,(cnt 0 bb).1,decide (1<(cnt 0 bb).1),a.length+1+(cnt 0 bb).2⟩:=by
  unfold jH;rw [D];have v:(a++42::bb)[a.length]?=some 42:=by simp
  have A:(a++42::bb).drop (a.length+1)=bb:=by
   rw [List.drop_append];simp
  have C:lC last (iE 0 a)=true:=by
   simp only [lC,Bool.and_eq_true,Bool.not_eq_true',beq_eq_false_iff_ne];exact⟨by omega,d⟩
  simp only [v,A,C,Bool.true_and,beq_self_eq_true,if_true]
 have hc:=D9 0 bb;have i:∀ k,k<=bb.length->jf (a++42::bb.take k) last=decide (k<=(cnt 0 bb).2):=by
  intro k i;rw [rG o q l,pM bb k i];have:(iE 0 a==last)=false:=by simpa using d
  rw [this];simp
 refine⟨?_,?_,?_,?_⟩
 ·rw [e];simp;omega
 ·intro k z;rw [e];simp only;by_cases h:k<=a.length
  ·rw [List.take_append_of_le_length h,F k h];symm;simp;omega
  ·obtain⟨j,rfl⟩:∃ j,k=a.length+1+j:=⟨k - (a.length+1),by omega⟩;have w:(a++42::bb).take (a.length+1+j)=a++42::bb.take j:=by
    rw [List.take_append,List.take_of_length_le (by omega)];have:a.length+1+j - a.length=j+1:=by omega
    rw [this,List.take_succ_cons]
   have E:j<=bb.length:=by simp at z;omega
   rw [w,i j E];by_cases B:j<=(cnt 0 bb).2<;>simp [B]<;>omega
 ·intro t n h;rw [xx o q l last d]at h;split at h
  ·cases h
  ·rename_i hb
   simp only [Option.some.injEq,Prod.mk.injEq]at h;obtain⟨rfl,rfl⟩:=h;simp only [Bool.or_eq_true,Bool.not_eq_true',decide_eq_true_eq,not_or,Bool.not_eq_false]at hb;have m:bb≠[]:=by intro c;rw [c]at hb;simp [i8]at hb
   have u:bb≠[48]:=by intro c;rw [c]at hb;exact hb.2 (by rw [pa (by rfl)];omega)
   have b:=pM bb bb.length (Nat.le_refl _);rw [List.take_length,hb.1]at b;have p:(bb==[])=false:=by simpa using m
   have y:(bb==[48])=false:=by simpa using u
   rw [p,y]at b;have r:bb.length<=(cnt 0 bb).2:=by simpa using b.symm
   have s:=uk bb (by omega);rw [e];refine⟨?_,?_,rfl,s,by omega⟩
   ·simp only [decide_eq_true_eq];omega
   ·simp;omega
 ·intro h f;rw [e]at f ⊢;simp only [decide_eq_true_eq]at f;rw [xx o q l last d]at h;split at h
  ·rename_i hb
   simp only [List.length_append,List.length_cons];intro hl;have s:=uk bb (by omega);have b:=pM bb bb.length (Nat.le_refl _);rw [List.take_length]at b;have r:decide (bb.length<=(cnt 0 bb).2)=true:=by simp;omega
   rw [r]at b;have m:bb≠[]:=by intro c;rw [c]at f;simp [cnt]at f
   have p:(bb==[])=false:=by simpa using m
   rw [p,Bool.false_or]at b;simp only [Bool.and_eq_true]at b;rw [b.1]at hb;simp only [Bool.not_true,Bool.false_or,decide_eq_true_eq]at hb;omega
  ·cases h
theorem nf(last:Int)(a r:List Nat)(n:Int)(j:thr last (-1) (a++r)=(n,a.length))(q:∀ k,k<=a.length->jf (a.take k) last=true)
  (o:(lC last n && (r.head?==some 42))=false)
  (l:∀ k,0<k->k<=r.length->jf (a++r.take k) last=false)
  (p:∀ t m,kQ (a++r) last=some (t,m)->lC last n=true/\r=[]/\n=t/\m=1)
  (i:kQ (a++r) last=none->lC last n=true->r≠[]):FH last (a++r):=by
 have e:jH last (a++r)=⟨n,1,lC last n,a.length⟩:=by
  unfold jH;rw [j];have d:(a++r)[a.length]?=r.head?:=by rw [List.getElem?_append_right (Nat.le_refl _)];simp [List.head?_eq_getElem?]
  simp only [d,o];simp
 refine⟨?_,?_,?_,?_⟩
 ·rw [e];simp
 ·intro k c;rw [e];simp only;by_cases h:k<=a.length
  ·rw [List.take_append_of_le_length h,q k h];symm;simpa using h
  ·have f:(a++r).take k=a++r.take (k - a.length):=by rw [List.take_append,List.take_of_length_le (by omega)]
   rw [f,l _ (by omega) (by simp at c;omega)];symm;simpa using h
 ·intro t m h;obtain⟨b,rfl,rfl,rfl⟩:=p t m h;rw [e];simp [b];omega
 ·intro h b;rw [e]at b ⊢;have:=i h b;simp;exact this
theorem AD(last:Int)(q:List Nat):FH last q:=by
 have T:=yN last q;rcases q with _ | ⟨b,r⟩
 ·refine nf last [] [] (-1) T (fun k C=>?_) rfl (fun k i f=>by simp at f;omega) ?_ ?_
  ·simp [sE]
  ·intro t m h;simp [kQ,jm,i8]at h
  ·intro _ h;simp [lC]at h
 ·simp only at T;by_cases B:isD b=true/\(((b:Int) - 48≠last)\/(49<=b/\b<=54))
  ·rw [if_pos B]at T;obtain⟨v,hb2⟩:=B;have I:=wR v;have U:48<=b/\b<=57:=by simpa [isD]using v
   have o:=(mP [b]).2 (Or.inl ⟨b,rfl,v⟩);have p:=pa v;have y:∀ x∈[b],x≠42:=by simp;exact I.1
   have Q:jf [b] last=true:=by
    rw [pQ y (by simp) o.1 o.2,p];simp;omega
   have G:∀ k,k<=[b].length->jf ([b].take k) last=true:=by
    intro k C;have:k=0\/k=1:=by simp at C;omega
    rcases this with rfl | rfl
    ·rfl
    ·exact Q
   rcases r with _ | ⟨c,r⟩
   ·refine nf last [b] [] ((b:Int) - 48) T G (by simp) (fun k i f=>by simp at f;omega) ?_ ?_
    ·intro t m h;by_cases l:(b:Int) - 48=last
     ·rw [qE (by rw [(pk (by simpa using y)).1,List.append_nil,p];exact l)]at h;cases h
     ·rw [List.append_nil,pm y o.1 o.2 last (by rw [p];exact l),p]at h;simp only [Option.some.injEq,Prod.mk.injEq]at h;exact⟨by simp [lC,l];omega,rfl,h.1,h.2.symm⟩
    ·intro h f;by_cases l:(b:Int) - 48=last
     ·simp [lC,l]at f
     ·rw [List.append_nil,pm y o.1 o.2 last (by rw [p];exact l)]at h;cases h
   ·by_cases hc:isD c=true/\b≠48/\((b:Int) - 48)*10+((c:Int) - 48)<=63/\((b:Int) - 48)*10+((c:Int) - 48)≠last
    ·simp only [if_pos hc]at T;obtain⟨F,K,ac,H⟩:=hc;have R:=wR F;have P:48<=c/\c<=57:=by simpa [isD]using F
     have w:=(mP [b,c]).2 (Or.inr ⟨b,c,rfl,v,F,K,ac⟩);have A:=nW v F;have E:∀ x∈[b,c],x≠42:=by simp;exact⟨I.1,R.1⟩
     have Z:jf [b,c] last=true:=by
      rw [pQ E (by simp) w.1 w.2,A];simp;omega
     have L:∀ k,k<=[b,c].length->jf ([b,c].take k) last=true:=by
      intro k C;have:k=0\/k=1\/k=2:=by simp at C;omega
      rcases this with rfl | rfl | rfl
      ·rfl
      ·exact Q
      ·exact Z
     have N:lC last (((b:Int) - 48)*10+((c:Int) - 48))=true:=by
      simp only [lC,Bool.and_eq_true,Bool.not_eq_true',beq_eq_false_iff_ne];exact⟨by omega,H⟩
     by_cases n:r.head?=some 42
     ·obtain⟨bb,rfl⟩:∃ bb,r=42::bb:=by
       cases r with
       | nil=>simp at n
       | cons x bb=>simp at n;exact⟨bb,by rw [n]⟩
      exact t7 last [b,c] bb E w.1 w.2 (by rw [A];exact H) (by rw [A];omega) (by rw [A];exact T) L
     ·have V:∀ d s,d≠42->¬(i8 (jm (b::c::d::s))=true/\iE 0 (jm (b::c::d::s))<=63):=by
       intro d s Y;have e:jm (b::c::d::s)=b::c::d::jm s:=by
        unfold jm;rw [List.takeWhile_cons,if_pos (by simpa using I.1),List.takeWhile_cons,if_pos (by simpa using R.1),List.takeWhile_cons,if_pos (by simpa using Y)]
       rw [e,mP];simp
      refine nf last [b,c] r _ T L (by rw [N];simpa using n) ?_ ?_ ?_
      ·intro k i f;rcases r with _ | ⟨d,s⟩
       ·simp at f;omega
       ·obtain⟨j,rfl⟩:∃ j,k=j+1:=⟨k - 1,by omega⟩;exact(nu (by simp) last (V d (s.take j) (by simpa using n))).1
      ·intro t m h;rcases r with _ | ⟨d,s⟩
       ·rw [List.append_nil,pm E w.1 w.2 last (by rw [A];exact H),A]at h;simp only [Option.some.injEq,Prod.mk.injEq]at h;exact⟨N,rfl,h.1,h.2.symm⟩
       ·rw [show [b,c]++d::s=b::c::d::s from rfl,(nu (by simp) last (V d s (by simpa using n))).2]at h;cases h
      ·intro h _;rcases r with _ | ⟨d,s⟩
       ·rw [List.append_nil,pm E w.1 w.2 last (by rw [A];exact H)]at h;cases h
       ·simp
    ·simp only [if_neg hc]at T;by_cases n:c=42
     ·subst n;by_cases l:(b:Int) - 48=last
      ·have same:∀ s,jm (b::42::s)=[b]:=fun s=>(o8 (a:=[b]) (bb:=s) y).1
       refine nf last [b] (42::r) _ T G (by simp [lC,l]) ?_ ?_ ?_
       ·intro k i f;obtain⟨j,rfl⟩:∃ j,k=j+1:=⟨k - 1,by omega⟩;rw [List.take_succ_cons,rG y o.1 o.2,p];simp [l]
       ·intro t m h;rw [qE (by rw [show [b]++42::r=b::42::r from rfl,same,p];exact l)]at h;cases h
       ·intro _ h;simp [lC,l]at h
      ·exact t7 last [b] r y o.1 o.2 (by rw [p];exact l) (by rw [p];omega) (by rw [p];exact T) G
     ·have X:∀ s,(i8 (jm (b::c::s))=true/\iE 0 (jm (b::c::s))<=63)->jm (b::c::s)=[b,c]/\isD c=true/\b≠48/\((b:Int) - 48)*10+((c:Int) - 48)=last:=by
       intro s h;have e:jm (b::c::s)=b::c::jm s:=by
        unfold jm;rw [List.takeWhile_cons,if_pos (by simpa using I.1),List.takeWhile_cons,if_pos (by simpa using n)]
       rw [e,mP]at h;rcases h with ⟨b',h,_⟩ | ⟨b',c',h,i,f,u,h4⟩
       ·simp at h
       ·simp only [List.cons.injEq]at h;obtain⟨rfl,rfl,M⟩:=h;refine⟨by rw [e,M],f,u,?_⟩;by_cases z:((b:Int) - 48)*10+((c:Int) - 48)=last
        ·exact z
        ·exact absurd ⟨f,u,h4,z⟩ hc
      have ab:∀ s,kQ (b::c::s) last=none:=by
       intro s;by_cases h:i8 (jm (b::c::s))=true/\iE 0 (jm (b::c::s))<=63
       ·obtain⟨i,f,_,u⟩:=X s h;exact qE (by rw [i,nW v f];exact u)
       ·exact(nu (by simp) last h).2
      refine nf last [b] (c::r) _ T G (by simp [n]) ?_ ?_ ?_
      ·intro k i f;obtain⟨j,rfl⟩:∃ j,k=j+1:=⟨k - 1,by omega⟩;rw [List.take_succ_cons];by_cases h:i8 (jm (b::c::r.take j))=true/\iE 0 (jm (b::c::r.take j))<=63
       ·obtain⟨i,f,K,u⟩:=X _ h;have P:48<=c/\c<=57:=by simpa [isD]using f
        have W:=nW v f;show jf (b::c::r.take j) last=false
        unfold jf;rw [if_neg (by simp),i,W,u,if_neg (by rw [i]at h;simp [h.1];rw [W]at h;omega)];split
        ·simp
        ·simp;omega
       ·exact(nu (by simp) last h).1
      ·intro t m h;rw [show [b]++c::r=b::c::r from rfl,ab]at h;cases h
      ·intro _ _;simp
  ·rw [if_neg B]at T;have bad:∀ s,jf (b::s) last=false/\kQ (b::s) last=none:=by
    intro s;by_cases h:i8 (jm (b::s))=true/\iE 0 (jm (b::s))<=63
    ·have S:=(mP _).1 h;have hh:∃ O,jm (b::s)=b::O:=by
      unfold jm;rw [List.takeWhile_cons];split
      ·exact⟨_,rfl⟩
      ·rename_i h42
       rw [jm,List.takeWhile_cons,if_neg h42]at h;simp [i8]at h
     obtain⟨O,D⟩:=hh;rw [D]at S;rcases S with ⟨b',i,f⟩ | ⟨b',c',i,f,u,h4,M⟩
     ·simp only [List.cons.injEq]at i;obtain⟨rfl,rfl⟩:=i;have l:(b:Int) - 48=last/\¬(49<=b/\b<=54):=by
       refine⟨?_,fun z=>B ⟨f,Or.inr z⟩⟩;by_cases z:(b:Int) - 48=last
       ·exact z
       ·exact absurd ⟨f,Or.inl z⟩ B
      have U:48<=b/\b<=57:=by simpa [isD]using f
      have J:=pa f;refine⟨?_,qE (by rw [D,J];exact l.1)⟩;unfold jf;rw [if_neg (by simp),D,J,l.1,if_neg (by rw [D]at h;simp [h.1];rw [J]at h;omega)];split
      ·simp
      ·simp;omega
     ·simp only [List.cons.injEq]at i;obtain⟨rfl,rfl⟩:=i;have U:48<=b/\b<=57:=by simpa [isD]using f
      have P:48<=c'/\c'<=57:=by simpa [isD]using u
      exact absurd ⟨f,Or.inr (by omega)⟩ B
    ·exact nu (by simp) last h
   refine nf last [] (b::r) (-1) T (fun k C=>by simp [sE]) (by simp [lC]) ?_ ?_ ?_
   ·intro k i f;obtain⟨j,rfl⟩:∃ j,k=j+1:=⟨k - 1,by omega⟩;exact(bad _).1
   ·intro t m h;rw [List.nil_append,(bad r).2]at h;cases h
   ·intro _ h;simp [lC]at h
theorem zp(last n:Int)(l:List Nat):(thr last n l).2<=l.length:=by
 induction l generalizing n with
 | nil=>simp [thr]
 | cons b r ih=>
  unfold thr;split
  ·simpa using ih _
  ·simp
theorem Ac(last n:Int)(q u:List Nat):thr last n (q++32::u)=thr last n q:=by
 induction q generalizing n with
 | nil=>simp [thr,isD]
 | cons b r ih=>simp only [List.cons_append,thr,ih]
theorem Af(n:Int)(q u:List Nat):cnt n (q++32::u)=cnt n q:=by
 induction q generalizing n with
 | nil=>simp [cnt,isD]
 | cons b r ih=>simp only [List.cons_append,cnt,ih]
theorem yF(last:Int)(q u:List Nat):jH last (q++32::u)=jH last q:=by
 have hl:=zp last (-1) q;unfold jH;rw [Ac];generalize (thr last (-1) q).2=j at*;by_cases h:j<q.length
 ·have a:(q++32::u)[j]?=q[j]?:=List.getElem?_append_left h;have b:(q++32::u).drop (j+1)=q.drop (j+1)++32::u:=by
   rw [List.drop_append];have:j+1 - q.length=0:=by omega
   rw [this,List.drop_zero]
  rw [a,b,Af]
 ·obtain rfl:j=q.length:=by omega
  have a:(q++32::u)[q.length]?=some 32:=by simp
  have b:q[q.length]?=none:=by simp
  rw [a,b];have c:((some 32:Option Nat)==some 42)=false:=by decide
  have d:((none:Option Nat)==some 42)=false:=by decide
  rw [c,d];simp
theorem qS(q:List Nat)(h:∀ x∈q,x≠32):i7 q=[q]:=by
 induction q with
 | nil=>rfl
 | cons b r ih=>
  have a:b≠32:=h b (by simp);rw [i7,if_neg a,ih (fun x hx=>h x (by simp [hx]))];rfl
theorem qR(q u:List Nat)(h:∀ x∈q,x≠32):i7 (q++32::u)=q::i7 u:=by
 induction q with
 | nil=>simp [i7]
 | cons b r ih=>
  have a:b≠32:=h b (by simp);rw [List.cons_append,i7,if_neg a,ih (fun x hx=>h x (by simp [hx]))];rfl
theorem sP(l:List Nat):i7 l≠[]:=by
 cases l with
 | nil=>simp [i7]
 | cons b r=>unfold i7;split<;>simp
theorem wF(l:List Nat):(∀ x∈l,x≠32)\/∃ q u,l=q++32::u/\∀ x∈q,x≠32:=by
 induction l with
 | nil=>left;simp
 | cons b r ih=>
  by_cases c:b=32
  ·right;exact⟨[],r,by simp [c],by simp⟩
  ·rcases ih with h | ⟨q,u,rfl,h⟩
   ·left
    intro x a;rcases List.mem_cons.1 a with rfl | a
    ·exact c
    ·exact h x a
   ·right
    refine⟨b::q,u,rfl,?_⟩;intro x a;rcases List.mem_cons.1 a with rfl | a
    ·exact c
    ·exact h x a
theorem zV(a:List (List Nat))(b:Int)(o c:List Int):(jj a b o).map (·.2)=(jj a b c).map (·.2):=by
 induction a generalizing b o c with
 | nil=>rfl
 | cons q a ih=>
  unfold jj;cases kQ q b with
  | none=>rfl
  | some x=>exact ih _ _ _
theorem ut(b:Int)(l:List Nat):mU b l=match (jj (i7 l).dropLast b []).map (·.2)with
  | none=>false
  | some a=>jf ((i7 l).getLastD []) a:=by
 unfold mU;cases jj (i7 l).dropLast b []<;>rfl
theorem oq(a:Int)(q:List Nat)(h:∀ x∈q,x≠32):mU a q=jf q a:=by
 unfold mU;rw [qS q h];rfl
theorem pN(c:Int)(q u:List Nat)(h:∀ x∈q,x≠32):mU c (q++32::u)=match kQ q c with
  | none=>false
  | some x=>mU x.1 u:=by
 rw [ut,qR q u h];have e:(q::i7 u).dropLast=q::(i7 u).dropLast:=by rw [List.dropLast_cons_of_ne_nil (sP u)]
 have d:(q::i7 u).getLastD []=(i7 u).getLastD []:=by
  cases hp:i7 u with
  | nil=>exact absurd hp (sP u)
  | cons a b=>rfl
 rw [e,d,jj];cases kQ q c with
 | none=>rfl
 | some x=>
  simp only;rw [ut,zV _ _ _ []]
structure uq(ahead:Int)(l:List Nat)(m:Nat):Prop where
 le:m<=l.length
 yes:mU ahead (l.take m)=true
 no:∀ k,m<k->k<=l.length->mU ahead (l.take k)=false
theorem x6{l:List Nat}{m:Nat}(h:uq (-1) l m)(n:Nat)(hm:m<=n)(a:n<=l.length):kO l n=m:=by
 induction n with
 | zero=>simp [kO];omega
 | succ n ih=>
  unfold kO;by_cases e:m=n+1
  ·rw [if_pos]
   ·exact e.symm
   ·rw [<-e];exact h.yes
  ·rw [if_neg (by rw [h.no (n+1) (by omega) a];simp)];exact ih (by omega) (by omega)
theorem sm{q u:List Nat}{k:Nat}(h:k<=q.length):(q++32::u).take k=q.take k:=List.take_append_of_le_length h
theorem qH{q:List Nat}(h:∀ x∈q,x≠32)(k:Nat):∀ x∈q.take k,x≠32:=fun x hx=>h x (List.mem_of_mem_take hx)
theorem qV(q u:List Nat)(j:Nat):(q++32::u).take (q.length+1+j)=q++32::u.take j:=by
 rw [List.take_append,List.take_of_length_le (by omega)];have:q.length+1+j - q.length=j+1:=by omega
 rw [this,List.take_succ_cons]
theorem Dv{last:Int}{q:List Nat}(h:∀ x∈q,x≠32):uq last q (jH last q).len:=by
 have A:=AD last q;refine⟨A.len,?_,?_⟩
 ·rw [oq _ _ (qH h _),A.pre _ A.len];simp
 ·intro k h1 a;rw [oq _ _ (qH h _),A.pre _ a];simp;omega
theorem vX{last:Int}{q u:List Nat}(h:∀ x∈q,x≠32)(b:kQ q last=none):uq last (q++32::u) (jH last q).len:=by
 have A:=AD last q;have hl:=A.len;refine⟨by simp;omega,?_,?_⟩
 ·rw [sm A.len,oq _ _ (qH h _),A.pre _ A.len];simp
 ·intro k h1 h2;by_cases a:k<=q.length
  ·rw [sm a,oq _ _ (qH h _),A.pre _ a];simp;omega
  ·obtain⟨j,rfl⟩:∃ j,k=q.length+1+j:=⟨k - (q.length+1),by omega⟩;rw [qV,pN _ _ _ h,b]
theorem D0{last t n:Int}{q u:List Nat}{m:Nat}(h:∀ x∈q,x≠32)(b:kQ q last=some (t,n))(a:uq t u m):uq last (q++32::u) (q.length+1+m):=by
 have hl:=a.le;refine⟨by simp;omega,?_,?_⟩
 ·rw [qV,pN _ _ _ h,b];exact a.yes
 ·intro k h1 c;obtain⟨j,rfl⟩:∃ j,k=q.length+1+j:=⟨k - (q.length+1),by omega⟩;rw [qV,pN _ _ _ h,b];exact a.no j (by omega) (by simp at c;omega)
theorem Er(f:Nat)(b out:List Int)(last a:Int)(at_:Nat)(l:List Nat)(H:l.length<f)(ht:a=out.length)(F:a<501->b=out)(h501:a<=501):
  match jj (i7 l) last out with
  | some (o,_)=>mw f b last a at_ l=if 500<o.length then ⟨[],0,false⟩ else ⟨o,0,true⟩
  | none=>∃ m,uq last l m/\mw f b last a at_ l=⟨[],at_+m,false⟩:=by
 induction f generalizing b out last a at_ l with
 | zero=>omega
 | succ f ih=>
  have next:∀ (q:List Nat) (t n:Int),kQ q last=some (t,n)->min (a+(jH last q).count) 501=((lI out t n).length:Int)/\
    (min (a+(jH last q).count) 501<501->mq b (min (a+(jH last q).count) 501) (jH last q).count (jH last q).thread=lI out t n):=by
   intro q t n h;obtain⟨i,j,k,p,w⟩:=(AD last q).yes t n h;have e:((lI out t n).length:Int)=min (a+(jH last q).count) 501:=by
    unfold lI;simp;omega
   refine⟨e.symm,fun c=>?_⟩;unfold mq lI;rw [if_pos c,k,p,F (by omega)];have:(min n 501).toNat=min n.toNat (501 - out.length):=by omega
   rw [this]
  rcases wF l with hb | ⟨q,u,rfl,hb⟩
  ·rw [qS l hb];simp only [jj];have A:=AD last l;cases hr:kQ l last with
   | none=>
    simp only;refine⟨(jH last l).len,Dv hb,?_⟩;unfold mw;by_cases d:(jH last l).ok=true
    ·have B:=A.no hr d;have c:(jH last l).len<l.length:=by have:=A.len;omega
     rw [if_pos d,List.drop_eq_getElem_cons c];simp only;rw [if_neg (hb _ (List.getElem_mem c))]
    ·rw [if_neg d]
   | some x=>
    obtain⟨t,n⟩:=x;simp only;obtain⟨i,j,k,p,w⟩:=A.yes t n hr;obtain⟨v,r⟩:=next l t n hr;unfold mw;rw [if_pos i,j,List.drop_length];simp only;by_cases s:min (a+(jH last l).count) 501=501
    ·rw [if_pos s,if_pos (by omega)]
    ·rw [if_neg s,if_neg (by omega),r (by omega)]
  ·rw [qR q u hb];simp only [jj];have A:=AD last q;have z:=yF last q u;cases hr:kQ q last with
   | none=>
    simp only;refine⟨(jH last q).len,vX hb hr,?_⟩;unfold mw;rw [z];by_cases d:(jH last q).ok=true
    ·have B:=A.no hr d;have c:(jH last q).len<q.length:=by have:=A.len;omega
     have G:(jH last q).len<(q++32::u).length:=by simp;omega
     rw [if_pos d,List.drop_eq_getElem_cons G];simp only;rw [if_neg];rw [List.getElem_append_left c];exact hb _ (List.getElem_mem c)
    ·rw [if_neg d]
   | some x=>
    obtain⟨t,n⟩:=x;simp only;obtain⟨i,j,k,p,w⟩:=A.yes t n hr;obtain⟨v,r⟩:=next q t n hr;have e:mw (f+1) b last a at_ (q++32::u)=mw f (mq b (min (a+(jH last q).count) 501) (jH last q).count (jH last q).thread) t (min (a+(jH last q).count) 501) (at_+q.length+1) u:=by
     conv=>lhs;unfold mw
     rw [z,if_pos i,j];have D:(q++32::u).drop q.length=32::u:=by simp
     rw [D];simp only [if_true,k]
    rw [e];have:=ih (mq b (min (a+(jH last q).count) 501) (jH last q).count (jH last q).thread) (lI out t n) t (min (a+(jH last q).count) 501) (at_+q.length+1) u (by simp at H;omega) v r (by omega);cases hw:jj (i7 u) t (lI out t n)with
    | none=>
     rw [hw]at this;simp only at this ⊢;obtain⟨m,E,C⟩:=this;exact⟨q.length+1+m,D0 hb hr E,by rw [C];congr 1;omega⟩
    | some y=>
     rw [hw]at this;exact this
theorem pP(l:List Nat):jM l=lF l:=by
 unfold jM lF;by_cases a:l=[]
 ·rw [if_pos a,if_pos a]
 ·rw [if_neg a,if_neg a];have:=Er (l.length+1) [] [] (-1) 0 0 l (by omega) rfl (fun _=>rfl) (by omega);cases hw:jj (i7 l) (-1) []with
  | none=>
   rw [hw]at this;obtain⟨m,b,c⟩:=this;simp only;rw [c,x6 b l.length b.le (Nat.le_refl _)];simp
  | some y=>rw [hw]at this;exact this
def jc(l:List Int):Bool:=decide (l.length<=500) && l.all fun t=>decide (0<=t) && decide (t<=63)
def grp:List Int->List (Int × Int)
 | []=>[]
 | t::r=>match grp r with
  | []=>[(t,1)]
  | x::q=>if t=x.1 then (t,x.2+1)::q else (t,1)::x::q
def nS:List (Int × Int)->List (Int × Int)
 | []=>[]
 | [x]=>[(x.1,x.2+1)]
 | x::y::q=>x::nS (y::q)
theorem sM(t:Int)(r:List Int):∃ n q,grp (t::r)=(t,n)::q:=by
 unfold grp;cases grp r with
 | nil=>exact⟨_,_,rfl⟩
 | cons x q=>simp only;split<;>exact⟨_,_,rfl⟩
theorem FG{l:List Int}(h:l≠[]):grp l≠[]:=by
 cases l with
 | nil=>exact absurd rfl h
 | cons t r=>obtain⟨n,q,e⟩:=sM t r;rw [e];simp
theorem wk(l:List Int)(t:Int):grp (l++[t])=if l.getLast?=some t then nS (grp l) else grp l++[(t,1)]:=by
 induction l with
 | nil=>simp [grp]
 | cons a r ih=>
  cases r with
  | nil=>
   by_cases h:a=t
   ·simp [grp,nS,h]
   ·simp [grp,h]
  | cons b s=>
   have f:(a::b::s).getLast?=(b::s).getLast?:=by simp [List.getLast?_cons_cons]
   rw [f];obtain⟨n,q,e⟩:=sM b s;have j:a::b::s++[t]=a::(b::s++[t]):=rfl;have i:grp (a::b::s)=if a=b then (a,n+1)::q else (a,1)::(b,n)::q:=by
    conv=>lhs;rw [grp,e]
   rw [j,grp,ih,i,e];by_cases d:(b::s).getLast?=some t
   ·rw [if_pos d,if_pos d];by_cases c:a=b
    ·rw [if_pos c];cases q with
     | nil=>simp [nS,c]
     | cons x q=>simp [nS,c]
    ·rw [if_neg c];cases q with
     | nil=>simp [nS,c]
     | cons x q=>simp [nS,c]
   ·rw [if_neg d,if_neg d];by_cases c:a=b
    ·rw [if_pos c];simp [c]
    ·rw [if_neg c];simp [c]
theorem CR(l:List Int):(grp l).getLast?.map (·.1)=l.getLast?:=by
 induction l with
 | nil=>rfl
 | cons a r ih=>
  cases r with
  | nil=>rfl
  | cons b s=>
   obtain⟨n,q,e⟩:=sM b s;rw [grp,e];rw [e]at ih;rw [List.getLast?_cons_cons];simp only;split
   ·rename_i h
    rw [<-ih];cases q with
    | nil=>simp [h]
    | cons x q=>simp [List.getLast?_cons_cons]
   ·rw [<-ih];simp [List.getLast?_cons_cons]
theorem pn(l:List Int):(grp l).length<=l.length:=by
 induction l with
 | nil=>simp [grp]
 | cons a r ih=>
  unfold grp;cases h:grp r with
  | nil=>simp
  | cons x q=>
   rw [h]at ih;simp only;split
   ·simp at ih ⊢;omega
   ·simpa using ih
theorem pR(l:List Int):∀ x∈grp l,x.1∈l/\1<=x.2/\x.2<=l.length:=by
 induction l with
 | nil=>simp [grp]
 | cons a r ih=>
  unfold grp;cases h:grp r with
  | nil=>simp;omega
  | cons x q=>
   rw [h]at ih;have hx:=ih x (by simp);simp only;split
   ·rename_i e
    intro y b;rcases List.mem_cons.1 b with rfl | b
    ·simp;omega
    ·have:=ih y (by simp [b]);simp;exact⟨Or.inr this.1,this.2.1,by omega⟩
   ·intro y b;rcases List.mem_cons.1 b with rfl | b
    ·simp;omega
    ·have:=ih y b;simp;exact⟨Or.inr this.1,this.2.1,by omega⟩
def kV(t n:Int):List UInt8:=if n=1 then Lib.itoa t else Lib.itoa t++[42]++Lib.itoa n
def lT(l:List Int):List UInt8:=Lib.join ((grp l).map fun x=>kV x.1 x.2) [32]
def shN(c:Nat):Nat:=if c % 2=1 then (c / 2) ^^^ 3988292384 else c / 2
theorem Cf(c d:Nat):(c ^^^ d) / 2=c / 2 ^^^ d / 2:=by
 apply Nat.eq_of_testBit_eq;intro i;simp [Nat.testBit_div_two,Nat.testBit_xor]
theorem EW(c d:Nat):(c ^^^ d) % 2=(c+d) % 2:=by
 have h:=Nat.testBit_xor c d 0;simp only [Nat.testBit_zero]at h;have h1:(c ^^^ d) % 2<2:=Nat.mod_lt _ (by decide);have h2:c % 2<2:=Nat.mod_lt _ (by decide);have h3:d % 2<2:=Nat.mod_lt _ (by decide);have a:c % 2=0\/c % 2=1:=by omega
 have e:d % 2=0\/d % 2=1:=by omega
 have b:(c ^^^ d) % 2=0\/(c ^^^ d) % 2=1:=by omega
 rcases a with a | a<;>rcases e with e | e<;>rcases b with b | b<;>simp [a,e,b]at h<;>omega
theorem Cs{c:Nat}(h:c<4294967296):shN c<4294967296:=by
 unfold shN;split
 ·exact Nat.xor_lt_two_pow (n:=32) (by omega) (by decide)
 ·omega
def shK:Nat->Nat->Nat
 | 0,c=>c
 | k+1,c=>shK k (shN c)
theorem Ff(k:Nat){c:Nat}(h:c<4294967296):shK k c<4294967296:=by
 induction k generalizing c with
 | zero=>exact h
 | succ k ih=>exact ih (Cs h)
theorem zy(j k c:Nat):shK (j+k) c=shK k (shK j c):=by
 induction j generalizing c with
 | zero=>rw [Nat.zero_add];rfl
 | succ j ih=>rw [Nat.succ_add,shK,ih];rfl
def rT(c:Nat)(l:List Nat):Nat:=l.foldl (fun c b=>shK 8 (c ^^^ b)) c
def lz(l:List Nat):Nat:=4294967295 ^^^ rT 4294967295 l
theorem zM(c:Nat)(l:List Nat)(hc:c<4294967296)(a:∀ b∈l,b<256):rT c l<4294967296:=by
 induction l generalizing c with
 | nil=>exact hc
 | cons b r ih=>
  have hb:=a b (by simp);exact ih _ (Ff 8 (Nat.xor_lt_two_pow (n:=32) (by omega) (by omega))) (fun x hx=>a x (by simp [hx]))
theorem rK(c:Nat)(l m:List Nat):rT c (l++m)=rT (rT c l) m:=by simp [rT]
def leB:Nat->Nat->List Nat
 | 0,_=>[]
 | k+1,x=>x % 256::leB k (x / 256)
theorem pj(k x:Nat):(leB k x).length=k:=by
 induction k generalizing x with
 | zero=>rfl
 | succ k ih=>simp [leB,ih]
theorem FO(k x:Nat):∀ b∈leB k x,b<256:=by
 induction k generalizing x with
 | zero=>simp [leB]
 | succ k ih=>
  intro b a;rcases List.mem_cons.1 a with rfl | a
  ·exact Nat.mod_lt _ (by decide)
  ·exact ih _ b a
theorem zL(l:List Nat)(hl:∀ b∈l,b<256):lz l<4294967296:=Nat.xor_lt_two_pow (n:=32) (by decide) (zM _ l (by decide) hl)
def qA:Nat->Nat->List Nat
 | 0,n=>[n]
 | k+1,n=>if n<128 then [n] else (n % 128+128)::qA k (n / 128)
theorem wI:∀ (j k n:Nat),n<=j->n<=k->qA j n=qA k n
 | 0,0,_,_,_=>rfl
 | 0,k+1,n,h,_=>by simp only [qA];rw [if_pos (by omega)]
 | j+1,0,n,_,h=>by simp only [qA];rw [if_pos (by omega)]
 | j+1,k+1,n,h1,h2=>by
  simp only [qA];by_cases h:n<128
  ·rw [if_pos h,if_pos h]
  ·rw [if_neg h,if_neg h,wI j k (n / 128) (by omega) (by omega)]
def jY(n:Nat):List Nat:=qA n n
theorem lS{n:Nat}(h:n<128):jY n=[n]:=by
 unfold jY;cases n with
 | zero=>rfl
 | succ k=>simp only [qA];rw [if_pos h]
theorem np{n:Nat}(h:¬n<128):jY n=(n % 128+128)::jY (n / 128):=by
 unfold jY;cases n with
 | zero=>omega
 | succ k=>
  simp only [qA];rw [if_neg h,wI k ((k+1) / 128) ((k+1) / 128) (by omega) (Nat.le_refl _)]
theorem k8(n:Nat):∀ b∈jY n,b<256:=by
 induction n using Nat.strongRecOn with
 | ind n ih=>
  by_cases h:n<128
  ·rw [lS h];simp;omega
  ·rw [np h];intro b a;rcases List.mem_cons.1 a with rfl | a
   ·omega
   ·exact ih (n / 128) (by omega) b a
def rdN(place n:Nat):List Nat->Option (Nat × List Nat)
 | []=>none
 | b::r=>if place<64/\(b % 128)*2 ^ place<18446744073709551616 then
   (if b<128 then (if 0<b\/place=0 then some (n+(b % 128)*2 ^ place,r) else none) else rdN (place+7) (n+(b % 128)*2 ^ place) r)
  else none
theorem zB(n:Nat):∀ (a b:Nat) (r:List Nat),n*2 ^ a<18446744073709551616->(0<n\/a=0)->a<64->rdN a b (jY n++r)=some (b+n*2 ^ a,r):=by
 induction n using Nat.strongRecOn with
 | ind n ih=>
  intro a b r f i c;by_cases h:n<128
  ·rw [lS h];have e:n % 128=n:=Nat.mod_eq_of_lt h;simp only [List.cons_append,List.nil_append,rdN,e];rw [if_pos ⟨c,f⟩,if_pos h,if_pos i]
  ·rw [np h];have e:(n % 128+128) % 128=n % 128:=by omega
   have hp:0<2 ^ a:=Nat.two_pow_pos _;have hle:n % 128*2 ^ a<=n*2 ^ a:=Nat.mul_le_mul_right _ (Nat.mod_le _ _);have hsum:n % 128*2 ^ a+n / 128*2 ^ (a+7)=n*2 ^ a:=by
    have:(2:Nat) ^ (a+7)=128*2 ^ a:=by rw [Nat.pow_add,Nat.mul_comm]
    rw [this,<-Nat.mul_assoc,<-Nat.add_mul];congr 1
    omega
   have d:0<n / 128:=by omega
   have j:a+7<64:=by
    by_cases hc:a+7<64
    ·exact hc
    ·have:2 ^ 64<=2 ^ (a+7):=Nat.pow_le_pow_right (by decide) (by omega);have h5:2 ^ (a+7)<=n / 128*2 ^ (a+7):=Nat.le_mul_of_pos_left _ d;have h6:(2:Nat) ^ 64=18446744073709551616:=by decide
     omega
   simp only [List.cons_append,rdN,e];rw [if_pos ⟨c,by omega⟩,if_neg (by omega),ih (n / 128) (by omega) (a+7) _ r (by omega) (Or.inl d) j];congr 2
   omega
def jr(l:List Nat):Option (Int × List Nat):=match rdN 0 0 l with
 | some (n,r)=>if n<=9223372036854775807 then some ((n:Int),r) else none
 | none=>none
def zig(n:Int):Nat:=if n<0 then (-2*n - 1).toNat else (2*n).toNat
def zag(n:Nat):Int:=if n % 2=1 then -((n / 2:Nat):Int) - 1 else ((n / 2:Nat):Int)
theorem zj(n:Int):zag (zig n)=n:=by
 unfold zag zig;split<;>split<;>omega
def kU(l:List Nat):Option (Int × List Nat):=match rdN 0 0 l with
 | some (n,r)=>some (zag n,r)
 | none=>none
def kK(b:Int)(l:List Nat):Option (Int × List Nat):=match jr l with
 | some (n,r)=>if n<=b then some (n,r) else none
 | none=>none
def lY(l:List Nat):Option (Ins × List Nat):=match jr l with
 | none=>none
 | some (o,l1)=>match jr l1 with
  | none=>none
  | some (a,l2)=>match jr l2 with
   | none=>none
   | some (b,l3)=>match kU l3 with
    | none=>none
    | some (n,l4)=>some (⟨o,a,b,n⟩,l4)
def jW{α:Type}(P:List Nat->Option (α × List Nat)):Nat->List Nat->Option (List α × List Nat)
 | 0,l=>some ([],l)
 | k+1,l=>match P l with
  | none=>none
  | some (x,r)=>match jW P k r with
   | none=>none
   | some (xs,r')=>some (x::xs,r')
def jF(l:List Nat):Option (List Ins × List Nat):=match kK 16 l with
 | none=>none
 | some (k,r)=>jW lY k.toNat r
def kN(l:List Nat):Option (List (List Ins) × List Nat):=match kK 4 l with
 | none=>none
 | some (k,r)=>jW jF k.toNat r
def lm:Nat->List Int->List Nat->Option (List Int × List Nat)
 | 0,sch,l=>some (sch,l)
 | k+1,sch,l=>match jr l with
  | none=>none
  | some (t,r)=>match kK (500 - sch.length) r with
   | none=>none
   | some (c,r')=>if 0<c/\sch.getLast?≠some t then lm k (sch++List.replicate c.toNat t) r' else none
def jU(l:List Nat):Option (List Int × List Nat):=match kK 500 l with
 | none=>none
 | some (k,r)=>lm k.toNat [] r
def mY(l:List Nat):Option ((Int × Int × Int) × List Nat):=match jr l with
 | none=>none
 | some (a,l1)=>match jr l1 with
  | none=>none
  | some (b,l2)=>match jr l2 with
   | none=>none
   | some (c,l3)=>some ((a,b,c),l3)
structure Art where
 prog:List (List Ins)
 sch:List Int
 ver:Int × Int × Int
def kG(v:Int × Int × Int):Bool:=(decide (1<=v.1) && decide (v.1<=5)) && (decide (0<=v.2.1) && decide (v.2.1<=3)) && (decide (0<=v.2.2) && decide (v.2.2<=500))
def jI(a:Art):Int:=if iU a.prog=true then (if jc a.sch=true/\kG a.ver=true then 0 else 2) else 1
def oH(l:List Nat):Option (Art × List Nat):=match l with
 | 82::82::1::r0=>match kN r0 with
  | none=>none
  | some (p,r1)=>match jU r1 with
   | none=>none
   | some (s,r2)=>match mY r2 with
    | none=>none
    | some (v,r3)=>some (⟨p,s,v⟩,r3)
 | _=>none
def ki(l:List Nat):Option Art:=match oH l with
 | none=>none
 | some (a,r)=>if r=leB 4 (lz (l.take (l.length - r.length)))/\jI a=0 then some a else none
def jw(n:Int):List Nat:=jY n.toNat
def mu(i:Ins):List Nat:=jw i.op++(jw i.a++(jw i.b++jY (zig i.n)))
def jS(c:List Ins):List Nat:=jw c.length++c.flatMap mu
def me(p:List (List Ins)):List Nat:=jw p.length++p.flatMap jS
def lQ(x:Int × Int):List Nat:=jw x.1++jw x.2
def mD(s:List Int):List Nat:=jw (grp s).length++(grp s).flatMap lQ
def mJ(v:Int × Int × Int):List Nat:=jw v.1++(jw v.2.1++jw v.2.2)
def mM(a:Art):List Nat:=[82,82,1]++(me a.prog++(mD a.sch++mJ a.ver))
def mN(a:Art):List Nat:=mM a++leB 4 (lz (mM a))
theorem lX(n:Int)(r:List Nat)(h0:0<=n)(h1:n<=9223372036854775807):jr (jw n++r)=some (n,r):=by
 unfold jr jw;rw [zB n.toNat 0 0 r (by simp;omega) (Or.inr rfl) (by omega)];simp only [Nat.pow_zero,Nat.mul_one,Nat.zero_add];rw [if_pos (by omega)];congr 2
 omega
theorem yP(n:Int)(r:List Nat)(h0: -9223372036854775808<=n)(h1:n<=9223372036854775807):kU (jY (zig n)++r)=some (n,r):=by
 unfold kU;rw [zB (zig n) 0 0 r (by unfold zig;split<;>simp<;>omega) (Or.inr rfl) (by omega)];simp [zj]
theorem ql(b n:Int)(r:List Nat)(c:0<=n)(a:n<=9223372036854775807)(d:n<=b):kK b (jw n++r)=some (n,r):=by
 unfold kK;rw [lX n r c a];simp only;rw [if_pos d]
def kR(i:Ins):Prop:=(0<=i.op/\i.op<=9223372036854775807)/\(0<=i.a/\i.a<=9223372036854775807)/\(0<=i.b/\i.b<=9223372036854775807)/\(-9223372036854775808<=i.n/\i.n<=9223372036854775807)
theorem Et(i:Ins)(r:List Nat)(h:kR i):lY (mu i++r)=some (i,r):=by
 obtain⟨⟨f,j⟩,⟨d,c⟩,⟨c1,a⟩,⟨b,e⟩⟩:=h;unfold lY mu;simp only [List.append_assoc];rw [lX _ _ f j];simp only;rw [lX _ _ d c];simp only;rw [lX _ _ c1 a];simp only;rw [yP _ _ b e]
theorem xy{α:Type}(P:List Nat->Option (α × List Nat))(W:α->List Nat)(q:List α)(r:List Nat)(h:∀ x∈q,∀ r,P (W x++r)=some (x,r)):jW P q.length (q.flatMap W++r)=some (q,r):=by
 induction q with
 | nil=>rfl
 | cons x q ih=>
  rw [List.flatMap_cons,List.append_assoc,List.length_cons,jW,h x (by simp)];simp only;rw [ih (fun y hy=>h y (by simp [hy]))]
theorem yx(c:List Ins)(r:List Nat)(hl:c.length<=16)(h:∀ i∈c,kR i):jF (jS c++r)=some (c,r):=by
 unfold jF jS;rw [List.append_assoc,ql _ _ _ (by omega) (by omega) (by omega)];simp only [Int.toNat_natCast];exact xy _ _ _ _ (fun i hi r=>Et i r (h i hi))
theorem Bz(p:List (List Ins))(r:List Nat)(hl:p.length<=4)(h:∀ c∈p,c.length<=16/\∀ i∈c,kR i):kN (me p++r)=some (p,r):=by
 unfold kN me;rw [List.append_assoc,ql _ _ _ (by omega) (by omega) (by omega)];simp only [Int.toNat_natCast];exact xy _ _ _ _ (fun c hc r=>yx c r (h c hc).1 (h c hc).2)
theorem Dp(v:Int × Int × Int)(r:List Nat)(h:kG v=true):mY (mJ v++r)=some (v,r):=by
 simp only [kG,Bool.and_eq_true,decide_eq_true_eq]at h;unfold mY mJ;simp only [List.append_assoc];rw [lX _ _ (by omega) (by omega)];simp only;rw [lX _ _ (by omega) (by omega)];simp only;rw [lX _ _ (by omega) (by omega)]
def Sep:Option Int->List (Int × Int)->Prop
 | _,[]=>True
 | p,x::q=>p≠some x.1/\Sep (some x.1) q
def j5(q:List (Int × Int)):List Int:=q.flatMap fun x=>List.replicate x.2.toNat x.1
theorem Dz(s:List Int):Sep none (grp s)/\∀ x q,grp s=x::q->Sep (some x.1) q:=by
 induction s with
 | nil=>exact⟨trivial,fun x q h=>by cases h⟩
 | cons t r ih=>
  unfold grp;cases h:grp r with
  | nil=>exact⟨⟨by simp,trivial⟩,fun x q e=>by simp at e;rw [e.2];trivial⟩
  | cons x q=>
   have a:=ih.2 x q h;simp only;split
   ·rename_i e
    rw [<-e]at a;exact⟨⟨by simp,a⟩,fun y q' e'=>by simp only [List.cons.injEq]at e';rw [<-e'.1,<-e'.2];exact a⟩
   ·rename_i e
    have b:Sep (some t) (x::q):=⟨fun e'=>e (Option.some.inj e'),a⟩;exact⟨⟨by simp,b⟩,fun y q' e'=>by simp only [List.cons.injEq]at e';rw [<-e'.1,<-e'.2];exact b⟩
theorem oh(s:List Int):j5 (grp s)=s:=by
 induction s with
 | nil=>rfl
 | cons t r ih=>
  have a:=pR r;unfold grp;cases h:grp r with
  | nil=>rw [h]at ih;rw [<-ih];simp [j5]
  | cons x q=>
   rw [h]at ih a;have hx:=(a x (by simp)).2.1;simp only;split
   ·rename_i e
    have b:(x.2+1).toNat=x.2.toNat+1:=by omega
    simp only [j5,List.flatMap_cons]at ih ⊢;rw [b,List.replicate_succ,List.cons_append,e,ih]
   ·simp only [j5,List.flatMap_cons]at ih ⊢;simp [ih]
theorem rE(a:List Int)(t:Int)(c:Nat)(hc:0<c):(a++List.replicate c t).getLast?=some t:=by
 obtain⟨k,rfl⟩:∃ k,c=k+1:=⟨c - 1,by omega⟩;rw [List.replicate_succ',<-List.append_assoc];simp
theorem Ck(q:List (Int × Int))(a:List Int)(r:List Nat)(b:Sep a.getLast? q)(c:∀ x∈q,0<=x.1/\x.1<=63/\1<=x.2/\x.2<=500)(f:a.length+(j5 q).length<=500):
  lm q.length a (q.flatMap lQ++r)=some (a++j5 q,r):=by
 induction q generalizing a with
 | nil=>simp [lm,j5]
 | cons x q ih=>
  obtain⟨d,h2,h3,h4⟩:=c x (by simp);have e:(j5 (x::q)).length=x.2.toNat+(j5 q).length:=by simp [j5]
  rw [e]at f;rw [List.flatMap_cons,List.length_cons,lm];unfold lQ;simp only [List.append_assoc];rw [lX _ _ d (by omega)];simp only;rw [ql _ _ _ (by omega) (by omega) (by omega)];simp only;rw [if_pos ⟨by omega,b.1⟩];have:=ih (a++List.replicate x.2.toNat x.1) (by rw [rE _ _ _ (by omega)];exact b.2) (fun y hy=>c y (by simp [hy])) (by simp;omega);unfold lQ at this;rw [this];simp [j5]
theorem zT(s:List Int)(r:List Nat)(h:jc s=true):jU (mD s++r)=some (s,r):=by
 have a:=h;simp only [jc,Bool.and_eq_true,decide_eq_true_eq,List.all_eq_true]at a;have hg:=pn s;unfold jU mD;rw [List.append_assoc,ql _ _ _ (by omega) (by omega) (by omega)];simp only [Int.toNat_natCast];rw [Ck (grp s) [] r (Dz s).1 (fun x hx=>by
  have b:=pR s x hx;have c:=a.2 x.1 b.1;exact⟨c.1,c.2,b.2.1,by omega⟩) (by rw [oh];simpa using a.1),oh]
 rfl
theorem pC{l r:List Nat}{a:Art}(h:oH l=some (a,r)):∃ r0,l=82::82::1::r0:=by
 unfold oH at h;split at h
 ·exact⟨_,rfl⟩
 ·cases h
theorem A1{l:List Nat}{a:Art}(h:ki l=some a):∃ r,oH l=some (a,r)/\r.length=4/\r=leB 4 (lz (l.take (l.length - r.length))):=by
 unfold ki at h;cases h1:oH l with
 | none=>rw [h1]at h;cases h
 | some y=>
  obtain⟨b,r⟩:=y;rw [h1]at h;simp only at h;split at h
  ·rename_i h2
   obtain rfl:=Option.some.inj h;exact⟨r,rfl,by rw [h2.1,pj],h2.1⟩
  ·cases h
theorem EZ(a:Art)(h:jI a=0)(e:∀ c∈a.prog,∀ i∈c,kR i):ki (mN a)=some a:=by
 have b:iU a.prog=true/\jc a.sch=true/\kG a.ver=true:=by
  unfold jI at h;split at h
  ·split at h
   ·rename_i d h2;exact⟨d,h2⟩
   ·omega
  ·omega
 have j:=jz b.1;have f:∀ c∈a.prog,c.length<=16/\∀ i∈c,kR i:=by
  intro c hc;refine⟨?_,e c hc⟩;have d:=b.1;simp only [iU,Bool.and_eq_true,List.all_eq_true]at d;exact kX (d.2.2 c hc)
 have k:oH (mN a)=some (a,leB 4 (lz (mM a))):=by
  unfold mN mM;simp only [List.cons_append,List.nil_append,List.append_assoc,oH];rw [Bz a.prog _ j.2 f];simp only;rw [zT a.sch _ b.2.1];simp only;rw [Dp a.ver _ b.2.2]
 unfold ki;rw [k];simp only;have:(mN a).take ((mN a).length - (leB 4 (lz (mM a))).length)=mM a:=by unfold mN;simp
 rw [this,if_pos ⟨rfl,h⟩]
theorem uz(l:List Nat):∀ (a d x:Nat) (r:List Nat),(∀ b∈l,b<256)->rdN a d l=some (x,r)->∃ n,l=jY n++r/\x=d+n*2 ^ a/\(0<n\/a=0):=by
 induction l with
 | nil=>intro a d x r _ h;cases h
 | cons b l ih=>
  intro a d x r i h;unfold rdN at h;split at h
  ·rename_i h1
   split at h
   ·rename_i h2
    split at h
    ·rename_i h3
     simp only [Option.some.injEq,Prod.mk.injEq]at h;obtain⟨rfl,rfl⟩:=h;have e:b % 128=b:=Nat.mod_eq_of_lt h2;exact⟨b,by rw [lS h2];rfl,by rw [e],h3⟩
    ·cases h
   ·rename_i h2
    obtain⟨n,j,k,f⟩:=ih _ _ _ _ (fun c hc=>i c (by simp [hc])) h;have hb:=i b (by simp);have hn:0<n:=by rcases f with f | f<;>omega
    refine⟨b % 128+128*n,?_,?_,Or.inl (by omega)⟩
    ·rw [np (by omega)];have o:(b % 128+128*n) % 128+128=b:=by omega
     have m:(b % 128+128*n) / 128=n:=by omega
     rw [o,m,j];rfl
    ·rw [k,Nat.pow_add,Nat.add_mul,Nat.add_assoc];congr 2
     rw [Nat.mul_comm 128 n,Nat.mul_assoc,Nat.mul_comm 128]
  ·cases h
theorem kc{l r:List Nat}{x:Int}(c:∀ b∈l,b<256)(h:jr l=some (x,r)):l=jw x++r:=by
 unfold jr at h;split at h
 ·rename_i n r' e
  split at h
  ·simp only [Option.some.injEq,Prod.mk.injEq]at h;obtain⟨rfl,rfl⟩:=h;obtain⟨m,d,a,_⟩:=uz l _ _ _ _ c e;simp at a;subst a;unfold jw;simpa using d
  ·cases h
 ·cases h
theorem EF(n:Nat):zig (zag n)=n:=by
 unfold zig zag;split<;>split<;>omega
theorem sh{l r:List Nat}{x:Int}(c:∀ b∈l,b<256)(h:kU l=some (x,r)):l=jY (zig x)++r:=by
 unfold kU at h;split at h
 ·rename_i n r' e
  simp only [Option.some.injEq,Prod.mk.injEq]at h;obtain⟨rfl,rfl⟩:=h;obtain⟨m,d,a,_⟩:=uz l _ _ _ _ c e;simp at a;subst a;rw [EF];exact d
 ·cases h
theorem nb{b:Int}{l r:List Nat}{x:Int}(a:∀ b∈l,b<256)(h:kK b l=some (x,r)):l=jw x++r/\x<=b/\0<=x:=by
 unfold kK at h;split at h
 ·rename_i n r' e
  split at h
  ·rename_i hb
   simp only [Option.some.injEq,Prod.mk.injEq]at h;obtain⟨rfl,rfl⟩:=h;refine⟨kc a e,hb,?_⟩;unfold jr at e;split at e
   ·split at e
    ·simp only [Option.some.injEq,Prod.mk.injEq]at e;omega
    ·cases e
   ·cases e
  ·cases h
 ·cases h
theorem xA{l r:List Nat}{x:Ins}(f:∀ b∈l,b<256)(h:lY l=some (x,r)):l=mu x++r:=by
 unfold lY at h;split at h
 ·cases h
 ·rename_i o l1 e1
  have j:=kc f e1;split at h
  ·cases h
  ·rename_i a l2 e2
   have d:∀ b∈l1,b<256:=fun b hb=>f b (by rw [j];simp [hb])
   have i:=kc d e2;split at h
   ·cases h
   ·rename_i c l3 e3
    have e:∀ b∈l2,b<256:=fun b hb=>d b (by rw [i];simp [hb])
    have k:=kc e e3;split at h
    ·cases h
    ·rename_i n l4 e4
     have m:∀ b∈l3,b<256:=fun b hb=>e b (by rw [k];simp [hb])
     have p:=sh m e4;simp only [Option.some.injEq,Prod.mk.injEq]at h;obtain⟨rfl,rfl⟩:=h;unfold mu;rw [j,i,k,p];simp
theorem pW{α:Type}{P:List Nat->Option (α × List Nat)}{W:α->List Nat}(d:∀ {l r:List Nat} {x:α},(∀ b∈l,b<256)->P l=some (x,r)->l=W x++r)(k:Nat):
  ∀ {l r:List Nat} {xs:List α},(∀ b∈l,b<256)->jW P k l=some (xs,r)->l=xs.flatMap W++r/\xs.length=k:=by
 induction k with
 | zero=>
  intro l r xs a h;simp only [jW,Option.some.injEq,Prod.mk.injEq]at h;obtain⟨rfl,rfl⟩:=h;exact⟨rfl,rfl⟩
 | succ k ih=>
  intro l r xs a h;unfold jW at h;split at h
  ·cases h
  ·rename_i x r1 e1
   have c:=d a e1;split at h
   ·cases h
   ·rename_i ys r2 e2
    obtain⟨e,f⟩:=ih (fun b hb=>a b (by rw [c];simp [hb])) e2;simp only [Option.some.injEq,Prod.mk.injEq]at h;obtain⟨rfl,rfl⟩:=h;exact⟨by rw [c,e];simp,by simp [f]⟩
theorem sq{l r:List Nat}{x:List Ins}(a:∀ b∈l,b<256)(h:jF l=some (x,r)):l=jS x++r:=by
 unfold jF at h;split at h
 ·cases h
 ·rename_i k r1 e1
  obtain⟨c,_,q0⟩:=nb a e1;obtain⟨d,q3⟩:=pW (W:=mu) (fun a h=>xA a h) _ (fun b hb=>a b (by rw [c];simp [hb])) h;unfold jS;have:(x.length:Int)=k:=by omega
  rw [c,d,this];simp
theorem vb{l r:List Nat}{x:List (List Ins)}(a:∀ b∈l,b<256)(h:kN l=some (x,r)):l=me x++r:=by
 unfold kN at h;split at h
 ·cases h
 ·rename_i k r1 e1
  obtain⟨c,_,q0⟩:=nb a e1;obtain⟨d,q3⟩:=pW (W:=jS) (fun a h=>sq a h) _ (fun b hb=>a b (by rw [c];simp [hb])) h;unfold me;have:(x.length:Int)=k:=by omega
  rw [c,d,this];simp
theorem vN(k:Nat):∀ {a:List Int} {l r:List Nat} {s:List Int},(∀ b∈l,b<256)->lm k a l=some (s,r)->∃ q,l=q.flatMap lQ++r/\q.length=k/\s=a++j5 q/\Sep a.getLast? q/\∀ x∈q,0<x.2:=by
 induction k with
 | zero=>
  intro a l r s d h;simp only [lm,Option.some.injEq,Prod.mk.injEq]at h;obtain⟨rfl,rfl⟩:=h;exact⟨[],rfl,rfl,by simp [j5],trivial,fun x hx=>by cases hx⟩
 | succ k ih=>
  intro a l r s d h;unfold lm at h;split at h
  ·cases h
  ·rename_i t r1 e1
   have i:=kc d e1;split at h
   ·cases h
   ·rename_i c r2 e2
    have e:∀ b∈r1,b<256:=fun b hb=>d b (by rw [i];simp [hb])
    obtain⟨f,_,_⟩:=nb e e2;split at h
    ·rename_i h3
     obtain⟨q,n,o,p,j,m⟩:=ih (fun b hb=>e b (by rw [f];simp [hb])) h;rw [rE _ _ _ (by omega)]at j;refine⟨(t,c)::q,by rw [i,f,n];simp [lQ],by simp [o],by rw [p];simp [j5],⟨h3.2,j⟩,fun x hx=>?_⟩;rcases List.mem_cons.1 hx with rfl | hx
     ·exact h3.1
     ·exact m x hx
    ·cases h
theorem DB(t:Int)(n:Nat)(s:List Int)(q:List (Int × Int))(b:grp s=q)(a:Sep (some t) q):grp (List.replicate (n+1) t++s)=(t,((n+1:Nat):Int))::q:=by
 induction n with
 | zero=>
  simp only [Nat.zero_add,List.replicate_one,List.singleton_append,grp,b];cases q with
  | nil=>rfl
  | cons x q=>
   simp only;rw [if_neg (fun e=>a.1 (by rw [e]))];rfl
 | succ n ih=>
  rw [List.replicate_succ,List.cons_append,grp,ih];simp
theorem tV(q:List (Int × Int)):∀ p,Sep p q->(∀ x∈q,0<x.2)->grp (j5 q)=q:=by
 induction q with
 | nil=>intro p _ _;rfl
 | cons x q ih=>
  intro p a b;have h0:=b x (by simp);obtain⟨n,c⟩:∃ n:Nat,x.2.toNat=n+1:=⟨x.2.toNat - 1,by omega⟩;have e:j5 (x::q)=List.replicate (n+1) x.1++j5 q:=by simp [j5,c]
  rw [e,DB x.1 n _ q (ih _ a.2 (fun y hy=>b y (by simp [hy]))) a.2];congr 1
  have:((n+1:Nat):Int)=x.2:=by omega
  rw [this]
theorem tP{l r:List Nat}{s:List Int}(c:∀ b∈l,b<256)(h:jU l=some (s,r)):l=mD s++r:=by
 unfold jU at h;split at h
 ·cases h
 ·rename_i k r1 e1
  obtain⟨d,_,q0⟩:=nb c e1;obtain⟨q,f,p2,a,i,e⟩:=vN _ (fun b hb=>c b (by rw [d];simp [hb])) h;simp only [List.nil_append]at a;unfold mD;rw [a,tV q _ i e];have:(q.length:Int)=k:=by omega
  rw [d,f,this];simp
theorem xm{l r:List Nat}{v:Int × Int × Int}(e:∀ b∈l,b<256)(h:mY l=some (v,r)):l=mJ v++r:=by
 unfold mY at h;split at h
 ·cases h
 ·rename_i a l1 e1
  have i:=kc e e1;split at h
  ·cases h
  ·rename_i b l2 e2
   have d:∀ b∈l1,b<256:=fun b hb=>e b (by rw [i];simp [hb])
   have f:=kc d e2;split at h
   ·cases h
   ·rename_i c l3 e3
    have j:∀ b∈l2,b<256:=fun b hb=>d b (by rw [f];simp [hb])
    have k:=kc j e3;simp only [Option.some.injEq,Prod.mk.injEq]at h;obtain⟨rfl,rfl⟩:=h;unfold mJ;rw [i,f,k];simp
theorem vV{l r:List Nat}{a:Art}(k:∀ b∈l,b<256)(h:oH l=some (a,r)):l=mM a++r:=by
 obtain⟨j,rfl⟩:=pC h;simp only [oH]at h;have d:∀ b∈j,b<256:=fun b hb=>k b (by simp [hb])
 split at h
 ·cases h
 ·rename_i p r1 e1
  have f:=vb d e1;have c:∀ b∈r1,b<256:=fun b hb=>d b (by rw [f];simp [hb])
  split at h
  ·cases h
  ·rename_i s r2 e2
   have e:=tP c e2;have i:∀ b∈r2,b<256:=fun b hb=>c b (by rw [e];simp [hb])
   split at h
   ·cases h
   ·rename_i v r3 e3
    have m:=xm i e3;simp only [Option.some.injEq,Prod.mk.injEq]at h;obtain⟨rfl,rfl⟩:=h;unfold mM;rw [f,e,m];simp
theorem ul{l:List Nat}{a:Art}(d:∀ b∈l,b<256)(h:ki l=some a):l=mN a/\jI a=0:=by
 unfold ki at h;split at h
 ·cases h
 ·rename_i a' r e
  split at h
  ·rename_i h1
   simp only [Option.some.injEq]at h;subst h;have q:=vV d e;refine⟨?_,h1.2⟩;have c:=h1.1;have:l.take (l.length - r.length)=mM a':=by rw [q];simp
   rw [this]at c;unfold mN;rw [<-c];exact q
  ·cases h
def mp:Nat->Nat->Nat->List Nat->Nat × List Nat × Bool
 | 0,_,_,l=>(0,l,true)
 | _+1,_,_,[]=>(0,[],true)
 | k+1,unit,v,c::r=>if c<128 then ((v+unit*(c % 128)) % 18446744073709551616,r,false) else mp k (unit*128 % 18446744073709551616) ((v+unit*(c % 128)) % 18446744073709551616) r
def iP(most:Nat)(l:List Nat):Nat × List Nat × Bool:=if most<(mp 10 1 0 l).1 then (0,(mp 10 1 0 l).2.1,true) else mp 10 1 0 l
def qJ(l:List Nat):Ins × List Nat × Bool:=
 let o:=iP 11 l
 let a:=iP 3 o.2.1
 let b:=iP 3 a.2.1
 let n:=mp 10 1 0 b.2.1
 (⟨o.1,a.1,b.1,zag n.1⟩,n.2.1,o.2.2 || a.2.2 || b.2.2 || n.2.2)
def ll:Nat->List Ins->List Nat->Bool->List Ins × List Nat × Bool
 | 0,c,l,b=>(c,l,b)
 | _+1,c,l,true=>(c,l,true)
 | k+1,c,l,false=>ll k (c++[(qJ l).1]) (qJ l).2.1 (qJ l).2.2
def lj:Nat->List (List Ins)->List Nat->Bool->List (List Ins) × List Nat × Bool
 | 0,p,l,b=>(p,l,b)
 | _+1,p,l,true=>(p,l,true)
 | k+1,p,l,false=>
  let n:=iP 16 l
  let c:=ll n.1 [] n.2.1 n.2.2
  lj k (p++[c.1]) c.2.1 c.2.2
def nA:Nat->Int->List Int->List Int
 | 0,_,s=>s
 | n+1,t,s=>if s.length<=500 then nA n t (s++[t]) else s
def nR:Nat->List Int->List Nat->Bool->List Int × List Nat × Bool
 | 0,s,l,b=>(s,l,b)
 | _+1,s,l,true=>(s,l,true)
 | k+1,s,l,false=>
  let t:=iP 63 l
  let n:=iP 500 t.2.1
  nR k (nA n.1 t.1 s) n.2.1 (t.2.2 || n.2.2)
def j3(l:List Nat):Art × Bool:=
 let t:=iP 4 (l.drop 3)
 let p:=lj t.1 [] t.2.1 t.2.2
 let k:=iP 500 p.2.1
 let s:=nR k.1 [] k.2.1 (p.2.2 || k.2.2)
 let a:=iP 5 s.2.1
 let b:=iP 3 a.2.1
 let c:=iP 500 b.2.1
 (⟨p.1,s.1,(a.1,b.1,c.1)⟩,!(s.2.2 || a.2.2 || b.2.2 || c.2.2))
theorem CX(n:Nat):∀ (k a b:Nat) (r:List Nat),a+7*k=70->1<=k->b+n*2 ^ a<18446744073709551616->mp k (2 ^ a) b (jY n++r)=(b+n*2 ^ a,r,false):=by
 induction n using Nat.strongRecOn with
 | ind n ih=>
  intro k a b r hk h1 h;obtain⟨j,rfl⟩:∃ j,k=j+1:=⟨k - 1,by omega⟩;by_cases c:n<128
  ·rw [lS c];have e:n % 128=n:=Nat.mod_eq_of_lt c;simp only [List.cons_append,List.nil_append,mp,e];rw [if_pos c,Nat.mul_comm (2 ^ a) n,Nat.mod_eq_of_lt h]
  ·rw [np c];have e:(n % 128+128) % 128=n % 128:=by omega
   simp only [List.cons_append,mp,e];rw [if_neg (by omega)];have d:2 ^ (a+7)=2 ^ a*128:=by rw [Nat.pow_add]
   have l:n*2 ^ a=2 ^ a*(n % 128)+(n / 128)*2 ^ (a+7):=by
    have:n=n % 128+128*(n / 128):=by omega
    rw [d];conv=>lhs;rw [this]
    rw [Nat.add_mul,Nat.mul_comm (n % 128),Nat.mul_comm 128,Nat.mul_assoc,Nat.mul_comm 128]
   have i:1<=n / 128:=by omega
   have hge:2 ^ (a+7)<=(n / 128)*2 ^ (a+7):=Nat.le_mul_of_pos_left _ i;have f:2 ^ (a+7)<18446744073709551616:=by omega
   have hpl:a+7<64:=by
    apply Nat.lt_of_not_le;intro hc;have:(2:Nat) ^ 64<=2 ^ (a+7):=Nat.pow_le_pow_right (by omega) hc;omega
   rw [Nat.mod_eq_of_lt (by omega:b+2 ^ a*(n % 128)<18446744073709551616),<-d,Nat.mod_eq_of_lt f,ih (n / 128) (by omega) j (a+7) _ r (by omega) (by omega) (by omega),Nat.add_assoc,<-l]
theorem Fa(n:Nat)(r:List Nat)(h:n<18446744073709551616):mp 10 1 0 (jY n++r)=(n,r,false):=by
 have:=CX n 10 0 0 r (by omega) (by omega) (by simpa using h);simpa using this
theorem oW(a:Nat)(n:Int)(r:List Nat)(_h0:0<=n)(h1:n<=a)(hm:a<=1000):iP a (jw n++r)=(n.toNat,r,false):=by
 unfold iP jw;rw [Fa _ _ (by omega),if_neg (by simp only;omega)]
theorem FI(i:Ins)(r:List Nat)(c:0<=i.op/\i.op<=11)(d:0<=i.a/\i.a<=3)(f:0<=i.b/\i.b<=3)(h4: -9223372036854775808<=i.n/\i.n<=9223372036854775807):qJ (mu i++r)=(i,r,false):=by
 unfold qJ mu;simp only [List.append_assoc];rw [oW 11 _ _ c.1 (by omega) (by omega)];simp only;rw [oW 3 _ _ d.1 (by omega) (by omega)];simp only;rw [oW 3 _ _ f.1 (by omega) (by omega)];simp only;have j:zig i.n<18446744073709551616:=by unfold zig;split<;>omega
 rw [Fa _ _ j];simp only [zj,Bool.or_self];have e:((i.op.toNat:Nat):Int)=i.op:=by omega
 have k:((i.a.toNat:Nat):Int)=i.a:=by omega
 have h:((i.b.toNat:Nat):Int)=i.b:=by omega
 rw [e,k,h]
def kA(i:Ins):Prop:=(0<=i.op/\i.op<=11)/\(0<=i.a/\i.a<=3)/\(0<=i.b/\i.b<=3)/\(-9223372036854775808<=i.n/\i.n<=9223372036854775807)
theorem DU(c:List Ins):∀ (d:List Ins) (r:List Nat),(∀ i∈c,kA i)->ll c.length d (c.flatMap mu++r) false=(d++c,r,false):=by
 induction c with
 | nil=>intro d r _;simp [ll]
 | cons i c ih=>
  intro d r h;obtain⟨a,b,f,e⟩:=h i (by simp);rw [List.length_cons,List.flatMap_cons,List.append_assoc,ll,FI i _ a b f e];simp only;rw [ih _ _ (fun j hj=>h j (by simp [hj]))];simp
theorem D6(p:List (List Ins)):∀ (d:List (List Ins)) (r:List Nat),(∀ c∈p,c.length<=16/\∀ i∈c,kA i)->lj p.length d (p.flatMap jS++r) false=(d++p,r,false):=by
 induction p with
 | nil=>intro d r _;simp [lj]
 | cons c p ih=>
  intro d r h;obtain⟨h1,a⟩:=h c (by simp);rw [List.length_cons,List.flatMap_cons,lj];unfold jS;simp only [List.append_assoc];rw [oW 16 _ _ (by omega) (by omega) (by omega)];simp only [Int.toNat_natCast];rw [DU c [] _ a];have:=ih (d++[c]) r (fun x hx=>h x (by simp [hx]));unfold jS at this;simp only [List.nil_append];rw [this];simp
theorem Cb(n:Nat)(t:Int):∀ s:List Int,s.length+n<=501->nA n t s=s++List.replicate n t:=by
 induction n with
 | zero=>intro s _;simp [nA]
 | succ n ih=>
  intro s h;rw [nA,if_pos (by omega),ih _ (by simp;omega),List.append_assoc];rfl
theorem DP(q:List (Int × Int)):∀ (s:List Int) (r:List Nat),(∀ x∈q,0<=x.1/\x.1<=63/\1<=x.2/\x.2<=500)->s.length+(j5 q).length<=500->nR q.length s (q.flatMap lQ++r) false=(s++j5 q,r,false):=by
 induction q with
 | nil=>intro s r _ _;simp [nR,j5]
 | cons x q ih=>
  intro s r h a;obtain⟨b,h2,h3,h4⟩:=h x (by simp);have d:j5 (x::q)=List.replicate x.2.toNat x.1++j5 q:=by simp [j5]
  rw [d]at a ⊢;simp only [List.length_append,List.length_replicate]at a;rw [List.flatMap_cons,List.length_cons,nR];unfold lQ;simp only [List.append_assoc];rw [oW 63 _ _ b (by omega) (by omega)];simp only;rw [oW 500 _ _ (by omega) (by omega) (by omega)];simp only [Bool.or_self];have c:((x.1.toNat:Nat):Int)=x.1:=by omega
  rw [c,Cb _ _ _ (by omega)];have:=ih (s++List.replicate x.2.toNat x.1) r (fun y hy=>h y (by simp [hy])) (by simp;omega);unfold lQ at this;rw [this];simp
theorem pI{i:Ins}{len:Int}(h:lG i len=true):(0<=i.op/\i.op<=11)/\(0<=i.a/\i.a<=3)/\(0<=i.b/\i.b<=3):=by
 simp only [lG,Bool.and_eq_true,decide_eq_true_eq]at h;obtain⟨h1,f,e,d,_⟩:=h;refine⟨⟨by omega,f⟩,?_,?_⟩
 ·obtain⟨o,c⟩:∃ o:Nat,i.op.toNat=o:=⟨_,rfl⟩;rw [c]at e;have:o=1\/o=2\/o=3\/o=4\/o=5\/o=6\/o=7\/o=8\/o=9\/o=10\/o=11:=by omega
  rcases this with rfl | rfl | rfl | rfl | rfl | rfl | rfl | rfl | rfl | rfl | rfl<;>simp [shp,mi,jD]at e<;>omega
 ·obtain⟨o,c⟩:∃ o:Nat,i.op.toNat=o:=⟨_,rfl⟩;rw [c]at d;have:o=1\/o=2\/o=3\/o=4\/o=5\/o=6\/o=7\/o=8\/o=9\/o=10\/o=11:=by omega
  rcases this with rfl | rfl | rfl | rfl | rfl | rfl | rfl | rfl | rfl | rfl | rfl<;>simp [shp,mi,jD]at d<;>omega
theorem qW{a:Art}(h:jI a=0):iU a.prog=true/\jc a.sch=true/\kG a.ver=true:=by
 unfold jI at h;split at h
 ·split at h
  ·rename_i h1 h2;exact⟨h1,h2⟩
  ·omega
 ·omega
theorem Ar(a:Art)(h:jI a=0)(r:∀ c∈a.prog,∀ i∈c,kR i):j3 (mN a)=(a,true):=by
 obtain⟨e,l,j⟩:=qW h;have z:=jz e;have hc:∀ c∈a.prog,c.length<=16/\∀ i∈c,kA i:=by
  intro c hc;simp only [iU,Bool.and_eq_true,List.all_eq_true]at e;have d:=e.2.2 c hc;have b:=d;simp only [kT,Bool.and_eq_true,List.all_eq_true,decide_eq_true_eq]at b;refine⟨b.1,fun i hi'=>?_⟩;obtain⟨v,u,A⟩:=pI (b.2 i hi');exact⟨v,u,A,(r c hc i hi').2.2.2⟩
 have f:=l;simp only [jc,Bool.and_eq_true,decide_eq_true_eq,List.all_eq_true]at f;have y:=pn a.sch;have n:∀ x∈grp a.sch,0<=x.1/\x.1<=63/\1<=x.2/\x.2<=500:=fun x hx=>by
  have d:=pR a.sch x hx;have b:=f.2 x.1 d.1;exact⟨b.1,b.2,d.2.1,by omega⟩
 simp only [kG,Bool.and_eq_true,decide_eq_true_eq]at j;obtain⟨p,s,k,o,m⟩:=a;simp only at e l z hc f y n j ⊢;unfold j3 mN mM me mD mJ;simp only [List.cons_append,List.nil_append,List.drop_succ_cons,List.drop_zero,List.append_assoc];rw [oW 4 _ _ (by omega) (by omega) (by omega)];simp only [Int.toNat_natCast];rw [D6 p [] _ hc];simp only [List.nil_append];rw [oW 500 _ _ (by omega) (by omega) (by omega)];simp only [Int.toNat_natCast,Bool.or_self];rw [DP (grp s) [] _ n (by rw [oh];simpa using f.1)];simp only [List.nil_append,oh];rw [oW 5 _ _ (by omega) (by omega) (by omega)];simp only;rw [oW 3 _ _ (by omega) (by omega) (by omega)];simp only;rw [oW 500 _ _ (by omega) (by omega) (by omega)];simp only [Bool.or_self,Bool.not_false];have w:((k.toNat:Nat):Int)=k:=by omega
 have q:((o.toNat:Nat):Int)=o:=by omega
 have t:((m.toNat:Nat):Int)=m:=by omega
 rw [w,q,t]
def si(l:List Nat):Option Art:=if (j3 l).2=true/\jI (j3 l).1=0/\mN (j3 l).1=l then some (j3 l).1 else none
theorem Bf{l:List Nat}(j:∀ b∈l,b<256)(k:∀ a,ki l=some a->∀ c∈a.prog,∀ i∈c,kR i)(n:∀ c∈(j3 l).1.prog,∀ i∈c,kR i):si l=ki l:=by
 unfold si;cases hd:ki l with
 | none=>
  rw [if_neg];rintro⟨_,h,m⟩;have:=EZ _ h n;rw [m,hd]at this;cases this
 | some a=>
  obtain⟨e,d⟩:=ul j hd;have f:=Ar a d (k a hd);rw [<-e]at f;rw [f];simp only [true_and];rw [if_pos ⟨d,e.symm⟩]
theorem rW:∀ (k u v:Nat) (l:List Nat),(mp k u v l).1<18446744073709551616
 | 0,_,_,_=>by simp [mp]
 | _+1,_,_,[]=>by simp [mp]
 | k+1,u,v,c::r=>by
  rw [mp];split
  ·exact Nat.mod_lt _ (by omega)
  ·exact rW k _ _ r
theorem kz(m:Nat)(l:List Nat):(iP m l).1<=m:=by
 unfold iP;split
 ·simp
 ·omega
theorem zx(n:Nat)(h:n<18446744073709551616): -9223372036854775808<=zag n/\zag n<=9223372036854775807:=by
 unfold zag;split<;>omega
theorem yD(l:List Nat):kA (qJ l).1:=by
 unfold qJ;have h1:=kz 11 l;have h2:=kz 3 (iP 11 l).2.1;have h3:=kz 3 (iP 3 (iP 11 l).2.1).2.1;refine⟨⟨?_,?_⟩,⟨?_,?_⟩,⟨?_,?_⟩,zx _ (rW _ _ _ _)⟩<;>simp only<;>omega
theorem ry:∀ (k:Nat) (c:List Ins) (l:List Nat) (b:Bool),(∀ i∈c,kA i)->(∀ i∈(ll k c l b).1,kA i)/\(ll k c l b).1.length<=c.length+k
 | 0,c,l,b,h=>⟨h,by simp [ll]⟩
 | k+1,c,l,true,h=>⟨h,by simp [ll]⟩
 | k+1,c,l,false,h=>by
  rw [ll];obtain⟨h1,h2⟩:=ry k (c++[(qJ l).1]) (qJ l).2.1 (qJ l).2.2 (fun i hi=>by
   rcases List.mem_append.1 hi with hi | hi
   ·exact h i hi
   ·simp at hi;subst hi;exact yD l)
  exact⟨h1,by simp at h2;omega⟩
theorem rL:∀ (k:Nat) (p:List (List Ins)) (l:List Nat) (b:Bool),(∀ c∈p,c.length<=16/\∀ i∈c,kA i)->(∀ c∈(lj k p l b).1,c.length<=16/\∀ i∈c,kA i)/\(lj k p l b).1.length<=p.length+k
 | 0,p,l,b,h=>⟨h,by simp [lj]⟩
 | k+1,p,l,true,h=>⟨h,by simp [lj]⟩
 | k+1,p,l,false,h=>by
  rw [lj];have hc:=ry (iP 16 l).1 [] (iP 16 l).2.1 (iP 16 l).2.2 (fun i hi=>by cases hi);have hn:=kz 16 l;obtain⟨h1,h2⟩:=rL k (p++[(ll (iP 16 l).1 [] (iP 16 l).2.1 (iP 16 l).2.2).1]) (ll (iP 16 l).1 [] (iP 16 l).2.1 (iP 16 l).2.2).2.1 (ll (iP 16 l).1 [] (iP 16 l).2.1 (iP 16 l).2.2).2.2 (fun c hi=>by
   rcases List.mem_append.1 hi with hi | hi
   ·exact h c hi
   ·simp at hi;subst hi;exact⟨by have:=hc.2;simp at this;omega,hc.1⟩)
  exact⟨h1,by simp at h2;omega⟩
theorem rP(l:List Nat):(∀ c∈(j3 l).1.prog,c.length<=16/\∀ i∈c,kA i)/\(j3 l).1.prog.length<=4:=by
 unfold j3;have h:=rL (iP 4 (l.drop 3)).1 [] (iP 4 (l.drop 3)).2.1 (iP 4 (l.drop 3)).2.2 (fun c hc=>by cases hc);have hn:=kz 4 (l.drop 3);exact⟨h.1,by have:=h.2;simp at this;simp only;omega⟩
theorem ud{i:Ins}(h:kA i):kR i:=by
 obtain⟨a,b,d,c⟩:=h;exact⟨⟨a.1,by omega⟩,⟨b.1,by omega⟩,⟨d.1,by omega⟩,c⟩
theorem DC(n x a:Nat)(hn:n<2 ^ a)(h:x % 128*2 ^ a<18446744073709551616)(hp:a<64):n+x % 128*2 ^ a<18446744073709551616/\n+x % 128*2 ^ a<2 ^ (a+7):=by
 constructor
 ·have e:18446744073709551616=2 ^ (64 - a)*2 ^ a:=by rw [<-Nat.pow_add,show 64 - a+a=64 by omega]
  rw [e]at h ⊢;have b:x % 128<2 ^ (64 - a):=Nat.lt_of_mul_lt_mul_right h;have c:(x % 128+1)*2 ^ a<=2 ^ (64 - a)*2 ^ a:=Nat.mul_le_mul_right _ b;rw [Nat.add_mul,Nat.one_mul]at c;omega
 ·have b:2 ^ (a+7)=128*2 ^ a:=by rw [Nat.pow_add,Nat.mul_comm]
  have c:x % 128*2 ^ a<=127*2 ^ a:=Nat.mul_le_mul_right _ (by omega);omega
theorem DJ(l:List Nat):∀ (c a x:Nat) (r:List Nat),a<2 ^ c->rdN c a l=some (x,r)->x<18446744073709551616:=by
 induction l with
 | nil=>intro c a x r _ h;cases h
 | cons b l ih=>
  intro c a x r e h;rw [rdN]at h;split at h
  ·rename_i h1
   have d:=DC a b c e h1.2 h1.1;split at h
   ·split at h
    ·simp only [Option.some.injEq,Prod.mk.injEq]at h;rw [<-h.1];exact d.1
    ·cases h
   ·exact ih _ _ _ _ d.2 h
  ·cases h
theorem oN{l r:List Nat}{x:Int}(h:jr l=some (x,r)):0<=x/\x<=9223372036854775807:=by
 unfold jr at h;split at h
 ·split at h
  ·simp only [Option.some.injEq,Prod.mk.injEq]at h;omega
  ·cases h
 ·cases h
theorem uZ{l r:List Nat}{x:Int}(h:kU l=some (x,r)): -9223372036854775808<=x/\x<=9223372036854775807:=by
 unfold kU at h;split at h
 ·rename_i n r' e
  simp only [Option.some.injEq,Prod.mk.injEq]at h;rw [<-h.1];exact zx n (DJ l 0 0 n r' (by simp) e)
 ·cases h
theorem Ak{l r:List Nat}{x:Ins}(h:lY l=some (x,r)):kR x:=by
 unfold lY at h;split at h
 ·cases h
 ·rename_i o l1 e1
  split at h
  ·cases h
  ·rename_i a l2 e2
   split at h
   ·cases h
   ·rename_i c l3 e3
    split at h
    ·cases h
    ·rename_i n l4 e4
     simp only [Option.some.injEq,Prod.mk.injEq]at h;rw [<-h.1];exact⟨oN e1,oN e2,oN e3,uZ e4⟩
theorem ts{α:Type}{P:List Nat->Option (α × List Nat)}{Q:α->Prop}(c:∀ {l r:List Nat} {x:α},P l=some (x,r)->Q x)(k:Nat):
  ∀ {l r:List Nat} {xs:List α},jW P k l=some (xs,r)->∀ x∈xs,Q x:=by
 induction k with
 | zero=>
  intro l r xs h;simp only [jW,Option.some.injEq,Prod.mk.injEq]at h;rw [<-h.1];intro x b;cases b
 | succ k ih=>
  intro l r xs h;unfold jW at h;split at h
  ·cases h
  ·rename_i x r1 e1
   split at h
   ·cases h
   ·rename_i ys r2 e2
    simp only [Option.some.injEq,Prod.mk.injEq]at h;rw [<-h.1];intro y a;rcases List.mem_cons.1 a with rfl | a
    ·exact c e1
    ·exact ih e2 y a
theorem vu{l r:List Nat}{x:List Ins}(h:jF l=some (x,r)):∀ i∈x,kR i:=by
 unfold jF at h;split at h
 ·cases h
 ·exact ts (fun h=>Ak h) _ h
theorem yi{l r:List Nat}{x:List (List Ins)}(h:kN l=some (x,r)):∀ c∈x,∀ i∈c,kR i:=by
 unfold kN at h;split at h
 ·cases h
 ·exact ts (fun h=>vu h) _ h
theorem Dr{l:List Nat}{a:Art}(h:ki l=some a):∀ c∈a.prog,∀ i∈c,kR i:=by
 unfold ki at h;split at h
 ·cases h
 ·rename_i a' r e
  split at h
  ·simp only [Option.some.injEq]at h;subst h;obtain⟨r0,rfl⟩:=pC e;simp only [oH]at e;split at e
   ·cases e
   ·rename_i p r1 e1
    split at e
    ·cases e
    ·split at e
     ·cases e
     ·simp only [Option.some.injEq,Prod.mk.injEq]at e;rw [<-e.1];exact yi e1
  ·cases h
theorem zd{l:List Nat}(hl:∀ b∈l,b<256):si l=ki l:=
 Bf hl (fun _ h=>Dr h) (fun c hc i hi=>ud (((rP l).1 c hc).2 i hi))
def tM(x:Nat × Nat):Nat × Nat:=(if (x.1+x.2) % 2=1 then (x.1 / 2) ^^^ 3988292384 else x.1 / 2,x.2 / 2)
def lZ:Nat->Nat × Nat->Nat × Nat
 | 0,x=>x
 | k+1,x=>tM (lZ k x)
theorem EB(x:Nat × Nat):(tM x).1 ^^^ (tM x).2=shN (x.1 ^^^ x.2):=by
 unfold tM shN;simp only;rw [EW,Cf];split
 ·rw [Nat.xor_assoc,Nat.xor_comm 3988292384,<-Nat.xor_assoc]
 ·rfl
theorem Co(k:Nat)(x:Nat × Nat):(lZ k x).1 ^^^ (lZ k x).2=shK k (x.1 ^^^ x.2):=by
 induction k with
 | zero=>rfl
 | succ k ih=>rw [lZ,EB,ih,zy k 1];rfl
theorem A5(k:Nat)(x:Nat × Nat):(lZ k x).2=x.2 / 2 ^ k:=by
 induction k with
 | zero=>simp [lZ]
 | succ k ih=>rw [lZ];show (lZ k x).2 / 2=_;rw [ih,Nat.div_div_eq_div_mul,Nat.pow_succ]
theorem wW(v c:Nat)(hc:c<256):(lZ 8 (v,c)).1=shK 8 (v ^^^ c):=by
 have a:=Co 8 (v,c);have b:=A5 8 (v,c);have d:c / 2 ^ 8=0:=Nat.div_eq_of_lt hc;simp only at a b;rw [b,d,Nat.xor_zero]at a;exact a
theorem wU(k:Nat)(v c:Nat)(a:v<4294967296)(hc:c<256):(lZ k (v,c)).1<4294967296/\(lZ k (v,c)).2<256:=by
 induction k with
 | zero=>exact⟨a,hc⟩
 | succ k ih=>
  rw [lZ];refine⟨?_,?_⟩
  ·unfold tM;simp only;split
   ·exact Nat.xor_lt_two_pow (n:=32) (by omega) (by omega)
   ·omega
  ·show (lZ k (v,c)).2 / 2<256
   omega
theorem CJ(v:Nat)(h:v<4294967296):4294967295 ^^^ v=4294967295 - v:=by
 apply Nat.eq_of_testBit_eq;intro i;have e:4294967295 - v=2 ^ 32 - (v+1):=by omega
 rw [e,Nat.testBit_two_pow_sub_succ (by omega),Nat.testBit_xor,show (4294967295:Nat)=2 ^ 32 - 1 from rfl,Nat.testBit_two_pow_sub_one];by_cases a:i<32
 ·simp [a]
 ·have:v.testBit i=false:=Nat.testBit_lt_two_pow (Nat.lt_of_lt_of_le (by omega:v<2 ^ 32) (Nat.pow_le_pow_right (by omega) (by omega)));simp [a,this]
end
section
open Go.RowKit
attribute [local go_sem] Go.World.cell?_alloc_some
def byt(s:ByteArray):List Nat:=s.data.toList.map UInt8.toNat
def ScAt(w:World)(b:Nat)(s:ByteArray)(a:Nat):Prop:=w.heap[b]?=some (.cells #[.string s,.int .i64 a] 184 (0,0))
theorem uG(m:Int)(w:World)(h0: -1000<=m)(h1:m<=1000):Calls Tryz.prog 188 #[.int .i64 m] w fun e w'=>e= .returned (.bool (ky m))/\w'=w:=by
 by_cases a:0<m
 ·by_cases b:10*m<63
  ·have HB:Hid (ky m=true):=by unfold Hid;simp [ky,a,b]
   go_enter Tryz.func188,Tryz.ntmps188
   go_wp2
   go_ret;exact⟨by rw [HB.out];rfl,rfl⟩
  ·have HB:Hid (ky m=false):=by unfold Hid;simp [ky,a,b]
   go_enter Tryz.func188,Tryz.ntmps188
   go_wp2
   go_ret;exact⟨by rw [HB.out];rfl,rfl⟩
 ·have HB:Hid (ky m=false):=by unfold Hid;simp [ky,a]
  go_enter Tryz.func188,Tryz.ntmps188
  go_wp2
  go_ret;exact⟨by rw [HB.out];rfl,rfl⟩
theorem uH(n d last:Int)(w:World)(h0: -1<=n)(h1:n<=63)(h2:0<=d)(h3:d<=9):Calls Tryz.prog 177 #[.int .i64 n,.int .i64 d,.int .i64 last] w fun e w'=>e= .returned (.bool (lD n d last))/\w'=w:=by
 by_cases hn:n<0
 ·have a:max n 0=0:=by omega
  have b:Hid (lD n d last=(!(n==0) && ((decide (d<=63) && !(d==last)) || ky d))):=by
   unfold Hid lD;rw [a];simp
  go_enter Tryz.func177,Tryz.ntmps177
  go_wp2_with (go_at_call 188;refine(uG _ _ (by omega) (by omega)).mono ?_;rintro e w' ⟨rfl,rfl⟩)
  all_goals (go_ret;refine⟨?_,rfl⟩;rw [b.out];simp [*]<;>omega)
 ·have a:max n 0=n:=by omega
  have b:Hid (lD n d last=(!(n==0) && ((decide (n*10+d<=63) && !(n*10+d==last)) || ky (n*10+d)))):=by
   unfold Hid lD;rw [a]
  go_enter Tryz.func177,Tryz.ntmps177
  go_wp2_with (go_at_call 188;refine(uG _ _ (by omega) (by omega)).mono ?_;rintro e w' ⟨rfl,rfl⟩)
  all_goals (go_ret;refine⟨?_,rfl⟩;rw [b.out];simp [*]<;>omega)
theorem iS(s:ByteArray):(byt s).length=s.size:=by simp [byt]
theorem ms(s:ByteArray)(a:Nat)(h:a<s.size):(byt s)[a]?=some s[a].toNat:=by
 have:a<s.data.toList.length:=by simpa using h
 rw [byt,List.getElem?_map,List.getElem?_eq_getElem this];rfl
theorem zJ(s:ByteArray)(a:Nat)(h:s.size<=a):(byt s)[a]?=none:=by
 rw [List.getElem?_eq_none_iff,iS];exact h
theorem vc(s:ByteArray)(c:Nat)(h:c∈byt s):c<256:=by
 simp only [byt,List.mem_map]at h;obtain⟨x,_,rfl⟩:=h;exact x.toNat_lt
def tf(c:Option Nat):Value:=match c with
 | some c=>if isD c=true then .tuple #[.int .i64 ((c:Int) - 48),.bool true] else .tuple #[.int .i64 0,.bool false]
 | none=> .tuple #[.int .i64 0,.bool false]
theorem zr(s:ByteArray)(b a:Nat)(w:World)(h:ScAt w b s a)(ha:a<=s.size):
  Calls Tryz.prog 176 #[pt b] w fun e w'=>jt w' w/\e= .returned (tf (byt s)[a]?):=by
 have c0:w.cell? ⟨b,0,none⟩=some (.string s):=by unfold ScAt at h;simp [World.cell?,h]
 have c1:w.cell? ⟨b,1,none⟩=some (.int .i64 a):=by unfold ScAt at h;simp [World.cell?,h]
 clear h;unfold pt;by_cases i:a<s.size
 ·have h1:(a:Int)<s.size:=by omega
  have f:((a:Int)==(s.size:Int))=false:=by simp;omega
  have hb:=s[a].toNat_lt;have d:=ij (ms s a i);by_cases h48:s[a].toNat<48
  ·have g1:((s[a].toNat:Nat):Int)<48:=by omega
   have c:Hid (isD s[a].toNat=false):=by unfold Hid;simp [isD];omega
   go_enter Tryz.func176,Tryz.ntmps176
   go_wp2
   go_quiet (fail)
   go_wp2
   refine bodyPost_ret (v:= .tuple #[.int .i64 0,.bool false]) (by simp [results,Tryz.results176,go_sem]) rfl ?_;refine⟨jV (jq _) _,?_⟩;rw [d.out];simp [tf,c.out]
  ·have g1:¬((s[a].toNat:Nat):Int)<48:=by omega
   by_cases h57:s[a].toNat<=57
   ·have g2:((s[a].toNat:Nat):Int)<=57:=by omega
    have c:Hid (isD s[a].toNat=true):=by unfold Hid;simp [isD];omega
    go_enter Tryz.func176,Tryz.ntmps176
    go_wp2
    go_quiet (fail)
    go_wp2
    go_quiet (fail)
    go_wp2
    refine bodyPost_ret (v:= .tuple #[.int .i64 (((s[a].toNat:Nat):Int) - 48),.bool true]) (by simp [results,Tryz.results176,go_sem]) rfl ?_;refine⟨jV (jV (jq _) _) _,?_⟩;rw [d.out];simp [tf,c.out]
   ·have g2:57<((s[a].toNat:Nat):Int):=by omega
    have c:Hid (isD s[a].toNat=false):=by unfold Hid;simp [isD];omega
    go_enter Tryz.func176,Tryz.ntmps176
    go_wp2
    go_quiet (fail)
    go_wp2
    refine bodyPost_ret (v:= .tuple #[.int .i64 0,.bool false]) (by simp [results,Tryz.results176,go_sem]) rfl ?_;refine⟨jV (jq _) _,?_⟩;rw [d.out];simp [tf,c.out]
 ·have f:((a:Int)==(s.size:Int))=true:=by simp;omega
  have d:=ij (zJ s a (by omega));go_enter Tryz.func176,Tryz.ntmps176
  go_wp2
  go_quiet (fail)
  go_wp2
  refine bodyPost_ret (v:= .tuple #[.int .i64 0,.bool false]) (by simp [results,Tryz.results176,go_sem]) rfl ?_;refine⟨jV (jq _) _,?_⟩;rw [d.out];simp [tf]
theorem ScAt.c0{w:World}{b:Nat}{s:ByteArray}{a:Nat}(h:ScAt w b s a):w.cell? ⟨b,0,none⟩=some (.string s):=by unfold ScAt at h;simp [World.cell?,h]
theorem ScAt.c1{w:World}{b:Nat}{s:ByteArray}{a:Nat}(h:ScAt w b s a):w.cell? ⟨b,1,none⟩=some (.int .i64 a):=by unfold ScAt at h;simp [World.cell?,h]
theorem ScAt.f1{w:World}{b:Nat}{s:ByteArray}{a:Nat}(h:ScAt w b s a):w.frozen? ⟨b,1,none⟩=false:=by unfold ScAt at h;simp [World.frozen?,h]
theorem ScAt.set{w:World}{b:Nat}{s:ByteArray}{a:Nat}(h:ScAt w b s a)(x:Nat):ScAt (w.setCell ⟨b,1,none⟩ (.int .i64 x)) b s x:=by
 unfold ScAt at*;rw [heap_setCell_same w b 1 _ _ _ h];rfl
theorem ScAt.like{w w':World}{b:Nat}{s:ByteArray}{a:Nat}(h:ScAt w b s a)(c:jt w' w):ScAt w' b s a:=by
 unfold ScAt at*;rw [c.1];exact h
theorem ScAt.lt{w:World}{b:Nat}{s:ByteArray}{a:Nat}(h:ScAt w b s a):b<w.heap.size:=(Array.getElem?_eq_some_iff.1 h).1
def mZ(s:ByteArray)(a c:Nat):Bool:=(byt s)[a]?==some c
def xH(s:ByteArray)(a c:Nat):Nat:=if mZ s a c=true then a+1 else a
theorem vq(s:ByteArray)(b a c:Nat)(w:World)(h:ScAt w b s a)(ha:a<=s.size)(hs:s.size<=9223372036854775806):
  Calls Tryz.prog 100 #[pt b,.int .u8 c] w fun e w'=>w.grownBy w' (some b)/\e= .returned (.bool (mZ s a c))/\ScAt w' b s (xH s a c):=by
 have c0:=h.c0;have c1:=h.c1;have f1:=h.f1;have d:=ij h;clear h;unfold pt;by_cases f:a<s.size
 ·have h1:(a:Int)<s.size:=by omega
  have i:((a:Int)==(s.size:Int))=false:=by simp;omega
  by_cases hc:s[a].toNat=c
  ·have HB:Hid (mZ s a c=true):=by unfold Hid mZ;rw [ms s a f,hc];simp
   have g1:((s[a].toNat:Nat):Int)=(c:Int):=by omega
   have hsz:(a:Int)+1<=9223372036854775807:=by omega
   go_enter Tryz.func100,Tryz.ntmps100
   go_wp2
   go_quiet (fail)
   go_wp2
   go_ret;refine⟨?_,by rw [HB.out];rfl,?_⟩
   ·exact iX _ iV
   ·rw [xH,HB.out,if_pos rfl];have:=(d.out.like (jV (jq _) nq)).set (a+1);simpa using this
  ·have HB:Hid (mZ s a c=false):=by unfold Hid mZ;rw [ms s a f];simpa using hc
   have g1:((s[a].toNat:Nat):Int)≠(c:Int):=by omega
   go_enter Tryz.func100,Tryz.ntmps100
   go_wp2
   go_quiet (fail)
   go_wp2
   go_ret;refine⟨iX _ (ir _ _),by rw [HB.out];rfl,?_⟩;rw [xH,HB.out,if_neg (by simp)];exact d.out.like (jV (jq _) _)
 ·have i:((a:Int)==(s.size:Int))=true:=by simp;omega
  have HB:Hid (mZ s a c=false):=by unfold Hid mZ;rw [zJ s a (by omega)];simp
  go_enter Tryz.func100,Tryz.ntmps100
  go_wp2
  go_quiet (fail)
  go_wp2
  go_ret;refine⟨iX _ (ir _ _),by rw [HB.out];rfl,?_⟩;rw [xH,HB.out,if_neg (by simp)];exact d.out.like (jV (jq _) _)
def vd(w:World)(b:Nat):Nat:=match w.cell? ⟨b,1,none⟩with
 | some (.int _ x)=>x.toNat
 | _=>0
theorem lL{w:World}{b:Nat}{s:ByteArray}{a:Nat}(h:ScAt w b s a):vd w b=a:=by simp [vd,h.c1]
theorem nt{l:List Nat}{a c:Nat}(h:l[a]?=some c):l.drop a=c::l.drop (a+1):=by
 obtain⟨b,rfl⟩:=List.getElem?_eq_some_iff.1 h;exact List.drop_eq_getElem_cons b
theorem kM{l:List Nat}{a c:Nat}(h:l[a]?=some c):a<l.length:=(List.getElem?_eq_some_iff.1 h).1
structure zE(w:World)(b:Nat)(s:ByteArray)(last:Int)(a:Nat)(n':Int)(a':Nat)(w':World):Prop where
 grown:w.grownBy w' (some b)
 sc:ScAt w' b s a'
 le:a'<=s.size
 lo: -1<=n'
 hi:n'<=63
 num:(thr last n' ((byt s).drop a')).1=(thr last (-1) ((byt s).drop a)).1
 len:a'+(thr last n' ((byt s).drop a')).2=a+(thr last (-1) ((byt s).drop a)).2
theorem AU{n d last:Int}(h:lD n d last=true):max n 0*10+d<=63:=by
 simp only [lD,ky,Bool.and_eq_true,Bool.or_eq_true,decide_eq_true_eq]at h;omega
theorem CF{last n:Int}{c:Nat}{l:List Nat}(a:isD c=true)(b:lD n ((c:Int) - 48) last=true):thr last n (c::l)=((thr last (nxt n c) l).1,(thr last (nxt n c) l).2+1):=by
 rw [thr,if_pos (by rw [a,b];rfl)]
theorem vT{last n:Int}{c:Nat}{l:List Nat}(h:(isD c && lD n ((c:Int) - 48) last)=false):thr last n (c::l)=(n,0):=by
 rw [thr,if_neg (by rw [h];simp)]
theorem Cc(s:ByteArray)(b a:Nat)(last:Int)(w:World)(h:ScAt w b s a)(L:a<=s.size)(hs:s.size<=9223372036854775806):
  Calls Tryz.prog 142 #[pt b,.int .i64 last] w fun e w'=>w.grownBy w' (some b)/\
   e= .returned (.tuple #[.int .i64 (thr last (-1) ((byt s).drop a)).1,.bool (lC last (thr last (-1) ((byt s).drop a)).1)])/\ScAt w' b s (a+(thr last (-1) ((byt s).drop a)).2)/\ -1<=(thr last (-1) ((byt s).drop a)).1/\(thr last (-1) ((byt s).drop a)).1<=63:=by
 have K:Hid (zE w b s last a (-1) a w):=⟨ir _ _,h,L,by omega,by omega,rfl,rfl⟩;clear h;unfold pt;go_enter Tryz.func142,Tryz.ntmps142
 go_wp2_with fail
 go_loopw [6] (fun i w'=>∃ (n':Int) (d:Nat),i= .int .i64 n'/\Hid (zE w b s last a n' d w')) (fun _ w'=>s.size - vd w' b)
 case atStart=>exact⟨-1,a,rfl,K.out⟩
 case round=>
  obtain⟨n',d,rfl,j⟩:=hrel;have n:=j.out.lo;have m:=j.out.hi;have J:Hid (vd wr b=d):=lL j.out.sc;go_wp2_with fail
  refine(zr s b d _ j.out.sc j.out.le).mono ?_;rintro e x ⟨C,rfl⟩;have k:Hid (zE w b s last a n' d x):=⟨jg j.out.grown C,j.out.sc.like C,j.out.le,n,m,j.out.num,j.out.len⟩;have fin:∀ z,jt z x->(thr last n' ((byt s).drop d))=(n',0)->w.grownBy z (some b)/\(thr last (-1) ((byt s).drop a)).1=n'/\ScAt z b s (a+(thr last (-1) ((byt s).drop a)).2):=by
   intro z E M;have r:=k.out.num;have p:=k.out.len;rw [M]at r p;refine⟨jg k.out.grown E,r.symm,?_⟩;rw [<-p];exact k.out.sc.like E
  have A:=ij fin;clear fin C j;cases hc:(byt s)[d]? with
  | none=>
   have t:Hid (thr last n' ((byt s).drop d)=(n',0)):=by
    unfold Hid;rw [List.drop_eq_nil_of_le (List.getElem?_eq_none_iff.1 hc)];rfl
   simp only [tf];go_wp2_with fail
   all_goals
    refine bodyPost_ret (v:= .tuple #[.int .i64 n',.bool (n' != -1 && n' !=last)]) (by simp [results,Tryz.results142,go_sem,*]) rfl ?_;obtain⟨u,f,q⟩:=A.out x (jq _) t.out;exact⟨u,by rw [f];rfl,q,by rw [f];exact n,by rw [f];exact m⟩
  | some c=>
   have o:=nt hc;cases hd:isD c with
   | false=>
    have t:Hid (thr last n' ((byt s).drop d)=(n',0)):=by
     unfold Hid;rw [o];exact vT (by rw [hd];rfl)
    simp only [tf,hd,Bool.false_eq_true,if_false];clear o;go_wp2_with fail
    all_goals
     refine bodyPost_ret (v:= .tuple #[.int .i64 n',.bool (n' != -1 && n' !=last)]) (by simp [results,Tryz.results142,go_sem,*]) rfl ?_;obtain⟨u,f,q⟩:=A.out x (jq _) t.out;exact⟨u,by rw [f];rfl,q,by rw [f];exact n,by rw [f];exact m⟩
   | true=>
    have hcr:48<=c/\c<=57:=by simpa [isD]using hd
    simp only [tf,hd,if_true];have G:=kM hc;cases hg:lD n' ((c:Int) - 48) last with
    | false=>
     have t:Hid (thr last n' ((byt s).drop d)=(n',0)):=by
      unfold Hid;rw [o];exact vT (by rw [hg];simp)
     clear o;go_wp2_with (go_at_call 177;refine(uH _ _ _ _ n m (by omega) (by omega)).mono ?_;rintro e w' ⟨rfl,rfl⟩;rw [hg])
     all_goals
      refine bodyPost_ret (v:= .tuple #[.int .i64 n',.bool (n' != -1 && n' !=last)]) (by simp [results,Tryz.results142,go_sem,*]) rfl ?_;obtain⟨u,f,q⟩:=A.out _ (jq _) t.out;exact⟨u,by rw [f];rfl,q,by rw [f];exact n,by rw [f];exact m⟩
    | true=>
     have D:=CF (l:=(byt s).drop (d+1)) hd hg;have I:=AU hg;have y:Hid (zE w b s last a (nxt n' c) (d+1) (x.setCell ⟨b,1,none⟩ (.int .i64 (d+1:Nat)))):=by
      have r:=k.out.num;have p:=k.out.len;rw [o,D]at r p;exact⟨il k.out.grown iV,k.out.sc.set (d+1),by rw [iS]at G;omega,by unfold nxt;omega,I,r,by simp only at p;omega⟩
     have c1:=k.out.sc.c1;have f1:=k.out.sc.f1;rw [iS]at G;have hsz:(d:Int)+1<=9223372036854775807:=by omega
     have F:Hid (vd wr b=d):=J.out;clear o D;by_cases hneg:n'<0
     ·have B:Hid (nxt n' c=(c:Int) - 48):=by unfold Hid nxt;omega
      go_wp2_with (go_at_call 177;refine(uH _ _ _ _ n m (by omega) (by omega)).mono ?_;rintro e w' ⟨rfl,rfl⟩;rw [hg])
      go_roundw
      case rel=>exact⟨nxt n' c,d+1,by rw [B.out],ij (by simpa using y.out)⟩
      case measure=>
       have:=lL y.out.sc;have H:=F.out;simp only [Int.natCast_add,Int.natCast_one]at this;omega
     ·have B:Hid (nxt n' c=n'*10+((c:Int) - 48)):=by unfold Hid nxt;omega
      go_wp2_with (go_at_call 177;refine(uH _ _ _ _ n m (by omega) (by omega)).mono ?_;rintro e w' ⟨rfl,rfl⟩;rw [hg])
      go_roundw
      case rel=>exact⟨nxt n' c,d+1,by rw [B.out],ij (by simpa using y.out)⟩
      case measure=>
       have:=lL y.out.sc;have H:=F.out;simp only [Int.natCast_add,Int.natCast_one]at this;omega
structure zi(w:World)(b:Nat)(s:ByteArray)(a:Nat)(n':Int)(a':Nat)(w':World):Prop where
 grown:w.grownBy w' (some b)
 sc:ScAt w' b s a'
 le:a'<=s.size
 lo:0<=n'
 hi:n'<=501
 num:(cnt n' ((byt s).drop a')).1=(cnt 0 ((byt s).drop a)).1
 len:a'+(cnt n' ((byt s).drop a')).2=a+(cnt 0 ((byt s).drop a)).2
theorem Br{n:Int}{c:Nat}{l:List Nat}(a:(isD c && !(n==0 && c==48))=true):cnt n (c::l)=((cnt (min (10*n+((c:Int) - 48)) 501) l).1,(cnt (min (10*n+((c:Int) - 48)) 501) l).2+1):=by
 rw [cnt,if_pos a]
theorem xr{n:Int}{c:Nat}{l:List Nat}(h:(isD c && !(n==0 && c==48))=false):cnt n (c::l)=(n,0):=by
 rw [cnt,if_neg (by rw [h];simp)]
theorem E6(s:ByteArray)(b a:Nat)(w:World)(h:ScAt w b s a)(I:a<=s.size)(hs:s.size<=9223372036854775806):
  Calls Tryz.prog 143 #[pt b] w fun e w'=>w.grownBy w' (some b)/\
   e= .returned (.int .i64 (cnt 0 ((byt s).drop a)).1)/\ScAt w' b s (a+(cnt 0 ((byt s).drop a)).2)/\0<=(cnt 0 ((byt s).drop a)).1/\(cnt 0 ((byt s).drop a)).1<=501:=by
 have H:Hid (zi w b s a 0 a w):=⟨ir _ _,h,I,by omega,by omega,rfl,rfl⟩;clear h;unfold pt;go_enter Tryz.func143,Tryz.ntmps143
 go_wp2_with fail
 go_loopw [3] (fun i w'=>∃ (n':Int) (d:Nat),i= .int .i64 n'/\Hid (zi w b s a n' d w')) (fun _ w'=>s.size - vd w' b)
 case atStart=>exact⟨0,a,rfl,H.out⟩
 case round=>
  obtain⟨n',d,rfl,k⟩:=hrel;have A:=k.out.lo;have x:=k.out.hi;have y:Hid (vd wr b=d):=lL k.out.sc;go_wp2_with fail
  refine(zr s b d _ k.out.sc k.out.le).mono ?_;rintro e z ⟨E,rfl⟩;have m:Hid (zi w b s a n' d z):=⟨jg k.out.grown E,k.out.sc.like E,k.out.le,A,x,k.out.num,k.out.len⟩;have fin:(cnt n' ((byt s).drop d))=(n',0)->w.grownBy z (some b)/\(cnt 0 ((byt s).drop a)).1=n'/\ScAt z b s (a+(cnt 0 ((byt s).drop a)).2):=by
   intro J;have t:=m.out.num;have q:=m.out.len;rw [J]at t q;refine⟨m.out.grown,t.symm,?_⟩;rw [<-q];exact m.out.sc
  have C:=ij fin;clear fin E k;cases hc:(byt s)[d]? with
  | none=>
   have u:Hid (cnt n' ((byt s).drop d)=(n',0)):=by
    unfold Hid;rw [List.drop_eq_nil_of_le (List.getElem?_eq_none_iff.1 hc)];rfl
   simp only [tf];go_wp2_with fail
   go_ret;obtain⟨v,j,r⟩:=C.out u.out;exact⟨v,by rw [j];rfl,r,by rw [j];exact A,by rw [j];exact x⟩
  | some c=>
   have p:=nt hc;have L:=kM hc;rw [iS]at L;cases hd:isD c with
   | false=>
    have u:Hid (cnt n' ((byt s).drop d)=(n',0)):=by
     unfold Hid;rw [p];exact xr (by rw [hd];rfl)
    simp only [tf,hd,Bool.false_eq_true,if_false];clear p;go_wp2_with fail
    go_ret;obtain⟨v,j,r⟩:=C.out u.out;exact⟨v,by rw [j];rfl,r,by rw [j];exact A,by rw [j];exact x⟩
   | true=>
    have hcr:48<=c/\c<=57:=by simpa [isD]using hd
    simp only [tf,hd,if_true];by_cases G:n'=0/\c=48
    ·obtain⟨rfl,rfl⟩:=G;have u:Hid (cnt 0 ((byt s).drop d)=(0,0)):=by
      unfold Hid;rw [p];exact xr rfl
     clear p;go_wp2_with fail
     go_ret;obtain⟨v,j,r⟩:=C.out u.out;exact⟨v,by rw [j];rfl,r,by rw [j];exact A,by rw [j];exact x⟩
    ·have F:=Br (n:=n') (l:=(byt s).drop (d+1)) (show (isD c && !(n'==0 && c==48))=true by
      rw [hd];simp;omega)
     have f:Hid (zi w b s a (min (10*n'+((c:Int) - 48)) 501) (d+1) (z.setCell ⟨b,1,none⟩ (.int .i64 (d+1:Nat)))):=by
      have t:=m.out.num;have q:=m.out.len;rw [p,F]at t q;exact⟨il m.out.grown iV,m.out.sc.set (d+1),by omega,by omega,by omega,t,by simp only at q;omega⟩
     have c1:=m.out.sc.c1;have f1:=m.out.sc.f1;have hsz:(d:Int)+1<=9223372036854775807:=by omega
     clear p F;have D:n'=0->((c:Int) - 48==0)=false:=fun h=>by simp;omega
     clear G;cases hq:(n'==0)with
     | true=>
      have hq3:=D (by simpa using hq);clear D;by_cases K:501<10*n'+((c:Int) - 48)
      ·have o:Hid (min (10*n'+((c:Int) - 48)) 501=501):=by unfold Hid;omega
       go_wp2_with fail
       all_goals
        go_roundw
        case rel=>exact⟨_,d+1,rfl,ij (by rw [o.out]at f;simpa using f.out)⟩
        case measure=>
         have:=lL f.out.sc;have B:=y.out;simp only [Int.natCast_add,Int.natCast_one]at this;omega
      ·have o:Hid (min (10*n'+((c:Int) - 48)) 501=10*n'+((c:Int) - 48)):=by unfold Hid;omega
       go_wp2_with fail
       all_goals
        go_roundw
        case rel=>exact⟨_,d+1,rfl,ij (by rw [o.out]at f;simpa using f.out)⟩
        case measure=>
         have:=lL f.out.sc;have B:=y.out;simp only [Int.natCast_add,Int.natCast_one]at this;omega
     | false=>
      clear D;by_cases K:501<10*n'+((c:Int) - 48)
      ·have o:Hid (min (10*n'+((c:Int) - 48)) 501=501):=by unfold Hid;omega
       go_wp2_with fail
       all_goals
        go_roundw
        case rel=>exact⟨_,d+1,rfl,ij (by rw [o.out]at f;simpa using f.out)⟩
        case measure=>
         have:=lL f.out.sc;have B:=y.out;simp only [Int.natCast_add,Int.natCast_one]at this;omega
      ·have o:Hid (min (10*n'+((c:Int) - 48)) 501=10*n'+((c:Int) - 48)):=by unfold Hid;omega
       go_wp2_with fail
       all_goals
        go_roundw
        case rel=>exact⟨_,d+1,rfl,ij (by rw [o.out]at f;simpa using f.out)⟩
        case measure=>
         have:=lL f.out.sc;have B:=y.out;simp only [Int.natCast_add,Int.natCast_one]at this;omega
def iY(s:ByteArray)(a:Nat)(last:Int):Ge:=jH last ((byt s).drop a)
theorem DD{s:ByteArray}{a:Nat}{last:Int}(h:(lC last (thr last (-1) ((byt s).drop a)).1 && mZ s (a+(thr last (-1) ((byt s).drop a)).2) 42)=false):
  iY s a last=⟨(thr last (-1) ((byt s).drop a)).1,1,lC last (thr last (-1) ((byt s).drop a)).1,(thr last (-1) ((byt s).drop a)).2⟩:=by
 unfold iY jH;rw [if_neg];unfold mZ at h;rw [List.getElem?_drop,h];simp
theorem BV{s:ByteArray}{a:Nat}{last:Int}(c:lC last (thr last (-1) ((byt s).drop a)).1=true)(b:mZ s (a+(thr last (-1) ((byt s).drop a)).2) 42=true):
  iY s a last=⟨(thr last (-1) ((byt s).drop a)).1,(cnt 0 ((byt s).drop (a+(thr last (-1) ((byt s).drop a)).2+1))).1,decide (1<(cnt 0 ((byt s).drop (a+(thr last (-1) ((byt s).drop a)).2+1))).1),
   (thr last (-1) ((byt s).drop a)).2+1+(cnt 0 ((byt s).drop (a+(thr last (-1) ((byt s).drop a)).2+1))).2⟩:=by
 unfold iY jH;unfold mZ at b;rw [if_pos (by rw [List.getElem?_drop,c,b];rfl),List.drop_drop];simp only [Nat.add_assoc]
def Cp(s:ByteArray)(b a:Nat)(last:Int)(w:World)(e:Ending)(w':World):Prop:=
 w.grownBy w' (some b)/\e= .returned (.tuple #[.agg #[.int .i64 (iY s a last).thread,.int .i64 (iY s a last).count],.bool (iY s a last).ok])/\ScAt w' b s (a+(iY s a last).len)/\
  0<=(iY s a last).count/\(iY s a last).count<=501/\ -1<=(iY s a last).thread/\(iY s a last).thread<=63
theorem ScAt.grown{w w':World}{b:Nat}{s:ByteArray}{a:Nat}(h:ScAt w b s a)(d:w.grownBy w' none):ScAt w' b s a:=by
 have c:=h.lt;unfold ScAt at*;rw [d.block b c (by simp)];exact h
theorem ScAt.setOther{w:World}{b g o:Nat}{v:Value}{s:ByteArray}{a:Nat}(h:ScAt w b s a)(c:b≠g):ScAt (w.setCell ⟨g,o,none⟩ v) b s a:=by
 unfold ScAt at*;rw [Below.heap_setCell _ _ _ _ (by simpa using c)];exact h
theorem Fv(s:ByteArray)(b a:Nat)(last:Int)(w:World)(h:ScAt w b s a)(ha:a<=s.size)(G:s.size<=9223372036854775806):
  Calls Tryz.prog 101 #[pt b,.int .i64 last] w (Cp s b a last w):=by
 have hb:=h.lt;have HH:=ij h;clear h;have ao:pt b= .pointer (some ⟨b,0,none⟩):=rfl;rw [ao];go_enter Tryz.func101,Tryz.ntmps101
 go_wp2_with fail
 refine(Cc s b a last _ (HH.out.grown (iq (ir _ _))) ha G).mono ?_;rintro e j ⟨B,rfl,R,J,E⟩;have Q:w.grownBy j (some b):=il (iq (ir _ _)) B;have X:w.heap.size<j.heap.size:=by have:=B.size;simp at this;omega
 have P:j.heap[w.heap.size]?=some (.cells #[.int .i64 0,.int .i64 0] 187 (0,0)):=by
  rw [B.block w.heap.size (by simp) (by simp;omega)];exact heap_alloc_new w _
 have S:=ij Q;have O:=ij R;have p:=ij P;have Z:a+(thr last (-1) ((byt s).drop a)).2<=s.size:=by
  have:=zp last (-1) ((byt s).drop a);rw [List.length_drop,iS]at this;omega
 have I:= @DD s a last;have L:= @BV s a last;clear B Q R P;generalize thr last (-1) ((byt s).drop a)=T at*;obtain⟨n,k⟩:=T;simp only at*;have fin:∀ (d:World) (x y:Int) (z:Bool) (l:Nat),iY s a last=⟨x,y,z,l⟩->w.grownBy d (some b)->ScAt d b s (a+l)->d.heap[w.heap.size]?=some (.cells #[.int .i64 0,.int .i64 0] 187 (0,0))->0<=y->y<=501-> -1<=x->x<=63->
   Cp s b a last w (.returned (.tuple #[.agg #[.int .i64 x,.int .i64 y],.bool z])) ((d.setCell ⟨w.heap.size,0,none⟩ (.int .i64 x)).setCell ⟨w.heap.size,1,none⟩ (.int .i64 y))/\
   ((d.setCell ⟨w.heap.size,0,none⟩ (.int .i64 x)).setCell ⟨w.heap.size,1,none⟩ (.int .i64 y)).heap[w.heap.size]?=some (.cells #[.int .i64 x,.int .i64 y] 187 (0,0)):=by
  intro d x y z l hr hg aj Y h1 V W h4;refine⟨?_,?_⟩
  ·unfold Cp;rw [hr];exact⟨iF (iF hg (Nat.le_refl _)) (Nat.le_refl _),rfl,(aj.setOther (by omega)).setOther (by omega),h1,V,W,h4⟩
  ·rw [heap_setCell_same _ _ 1 _ _ _ (heap_setCell_same _ _ 0 _ _ _ Y)];rfl
 have H:=ij fin;have hne:w.heap.size≠b:=by omega
 have z1:j.cell? ⟨w.heap.size,0,none⟩=some (.int .i64 0):=by have:=p.out;simp [World.cell?,this]
 have z2:j.cell? ⟨w.heap.size,1,none⟩=some (.int .i64 0):=by have:=p.out;simp [World.cell?,this]
 have z3:j.frozen? ⟨w.heap.size,0,none⟩=false:=by have:=p.out;simp [World.frozen?,this]
 have z4:j.frozen? ⟨w.heap.size,1,none⟩=false:=by have:=p.out;simp [World.frozen?,this]
 clear fin;cases hok:lC last n with
 | false=>
  have f:=I (by rw [hok];rfl);rw [hok]at f;go_wp2_with fail
  obtain⟨f1,i⟩:=H.out j n 1 false k f S.out O.out p.out (by omega) (by omega) J E;refine bodyPost_ret (v:= .tuple #[.agg #[.int .i64 n,.int .i64 1],.bool false]) ?_ rfl f1;have u:=cell_of_row _ _ 0 _ _ _ i;have A:=cell_of_row _ _ 1 _ _ _ i;simp at u A;simp [results,Tryz.results101,go_sem,u,A]
 | true=>
  go_wp2_with (go_at_call 100;refine(vq s b _ 42 _ O.out Z G).mono ?_)
  rintro e d ⟨t,rfl,o⟩;have U:Hid (w.grownBy d (some b)):=il S.out t;have r:d.heap[w.heap.size]?=some (.cells #[.int .i64 0,.int .i64 0] 187 (0,0)):=by
   rw [t.block w.heap.size X (by simp;omega)];exact p.out
  have al:w.heap.size<d.heap.size:=by have:=t.size;omega
  have u:d.cell? ⟨w.heap.size,0,none⟩=some (.int .i64 0):=by simp [World.cell?,r]
  have A:d.cell? ⟨w.heap.size,1,none⟩=some (.int .i64 0):=by simp [World.cell?,r]
  have y3:d.frozen? ⟨w.heap.size,0,none⟩=false:=by simp [World.frozen?,r]
  have y4:d.frozen? ⟨w.heap.size,1,none⟩=false:=by simp [World.frozen?,r]
  have N:=ij r;clear t r z1 z2 z3 z4;unfold xH at o;cases hit:mZ s (a+k) 42 with
  | false=>
   have f:=I (by rw [hit];simp);rw [hok]at f;rw [hit,if_neg (by simp)]at o;have F:=ij o;clear o;go_wp2_with fail
   obtain⟨f1,i⟩:=H.out d n 1 true k f U.out F.out N.out (by omega) (by omega) J E;refine bodyPost_ret (v:= .tuple #[.agg #[.int .i64 n,.int .i64 1],.bool true]) ?_ rfl f1;have x1:=cell_of_row _ _ 0 _ _ _ i;have x2:=cell_of_row _ _ 1 _ _ _ i;simp at x1 x2;simp [results,Tryz.results101,go_sem,x1,x2]
  | true=>
   have f:=L hok hit;rw [hit,if_pos rfl]at o;have F:=ij o;have hlt:a+k<s.size:=by
    unfold mZ at hit;have:(byt s)[a+k]?=some 42:=by simpa using hit
    have:=kM this;rwa [iS]at this
   clear o I L;have e1:a+k+1=a+(k+1):=by omega
   have K:=E6 s b (a+k+1) d F.out (by omega) G;generalize cnt 0 ((byt s).drop (a+k+1))=C at*;obtain⟨c,l⟩:=C;simp only at K f;have HC:=ij K;clear K;go_wp2_with (go_at_call 143;refine HC.out.mono ?_)
   rintro e m ⟨D,rfl,M,an,ah⟩;have ai:Hid (w.grownBy m (some b)):=il U.out D;have q:m.heap[w.heap.size]?=some (.cells #[.int .i64 0,.int .i64 0] 187 (0,0)):=by
    rw [D.block w.heap.size al (by simp;omega)];exact N.out
   have x1:m.cell? ⟨w.heap.size,0,none⟩=some (.int .i64 0):=by simp [World.cell?,q]
   have x2:m.cell? ⟨w.heap.size,1,none⟩=some (.int .i64 0):=by simp [World.cell?,q]
   have x3:m.frozen? ⟨w.heap.size,0,none⟩=false:=by simp [World.frozen?,q]
   have x4:m.frozen? ⟨w.heap.size,1,none⟩=false:=by simp [World.frozen?,q]
   have ag:=ij q;have ab:=ij M;clear D q M u A y3 y4;go_wp2_with fail
   all_goals
    obtain⟨f1,i⟩:=H.out m n c (decide (1<c)) (k+1+l) (by rw [f]) ai.out (by have:=ab.out;rwa [show a+k+1+l=a+(k+1+l) by omega]at this) ag.out an ah J E;refine bodyPost_ret (v:= .tuple #[.agg #[.int .i64 n,.int .i64 c],.bool (decide (1<c))]) ?_ rfl f1;have x1:=cell_of_row _ _ 0 _ _ _ i;have x2:=cell_of_row _ _ 1 _ _ _ i;simp at x1 x2;simp [results,Tryz.results101,go_sem,x1,x2]
end
end Go.Proofs.YtklenjmfalljgabGreatDoor
