/- The texts TxtP TxtQ TxtR TxtW Scn Scn2. -/
import Derived.Test.YtklenjmfalljgabGreatDoorM02
import Derived.RowKit
import Derived.Lib.ItoaNum
import Derived.Lib.Join
import Derived.WalkSpells
import Derived.WalkLawsBesides
import Derived.Deep.Light
namespace Go.Proofs.YtklenjmfalljgabGreatDoor
set_option maxRecDepth 100000
set_option maxHeartbeats 8000000
section
def isD(b:Nat):Bool:=decide (48<=b) && decide (b<=57)
def nxt(n:Int)(b:Nat):Int:=max n 0*10+((b:Int) - 48)
def beginsB(m:Int):Bool:=decide (0<m) && decide (10*m<63)
def growsB(n d last:Int):Bool:=
 !(n==0) && ((decide (max n 0*10+d<=63) && !(max n 0*10+d==last)) || beginsB (max n 0*10+d))
def thr(last:Int):Int->List Nat->Int × Nat
 | n,[]=>(n,0)
 | n,b::r=>if (isD b && growsB n ((b:Int) - 48) last)=true then ((thr last (nxt n b) r).1,(thr last (nxt n b) r).2+1) else (n,0)
def cnt:Int->List Nat->Int × Nat
 | n,[]=>(n,0)
 | n,b::r=>if (isD b && !(n==0 && b==48))=true then ((cnt (min (10*n+((b:Int) - 48)) 501) r).1,(cnt (min (10*n+((b:Int) - 48)) 501) r).2+1) else (n,0)
structure RunP where
 thread:Int
 count:Int
 ok:Bool
 len:Nat
def thrOk(last n:Int):Bool:=!(n== -1) && !(n==last)
def runP(last:Int)(l:List Nat):RunP:=
 if (thrOk last (thr last (-1) l).1 && (l[(thr last (-1) l).2]?==some 42))=true then
  ⟨(thr last (-1) l).1,(cnt 0 (l.drop ((thr last (-1) l).2+1))).1,decide (1<(cnt 0 (l.drop ((thr last (-1) l).2+1))).1),(thr last (-1) l).2+1+(cnt 0 (l.drop ((thr last (-1) l).2+1))).2⟩
 else ⟨(thr last (-1) l).1,1,thrOk last (thr last (-1) l).1,(thr last (-1) l).2⟩
structure ParP where
 out:List Int
 at_:Nat
 ok:Bool
def addRun(sch:List Int)(total' count thread:Int):List Int:=if total'<501 then sch++List.replicate count.toNat thread else sch
def loopP:Nat->List Int->Int->Int->Nat->List Nat->ParP
 | 0,_,_,_,_,_=>⟨[],0,false⟩
 | f+1,sch,last,total,at_,l=>
  if (runP last l).ok=true then
   match l.drop (runP last l).len with
   | []=>if min (total+(runP last l).count) 501=501 then ⟨[],0,false⟩ else ⟨addRun sch (min (total+(runP last l).count) 501) (runP last l).count (runP last l).thread,0,true⟩
   | b::rest=>if b=32 then loopP f (addRun sch (min (total+(runP last l).count) 501) (runP last l).count (runP last l).thread) (runP last l).thread (min (total+(runP last l).count) 501) (at_+(runP last l).len+1) rest
     else ⟨[],at_+(runP last l).len,false⟩
  else ⟨[],at_+(runP last l).len,false⟩
def parseP(l:List Nat):ParP:=if l=[] then ⟨[],0,true⟩ else loopP (l.length+1) [] (-1) 0 0 l
def partsR:List Nat->List (List Nat)
 | []=>[[]]
 | b::r=>if b=32 then []::partsR r else (b::(partsR r).headD [])::(partsR r).tail
def halfA(l:List Nat):List Nat:=l.takeWhile (· !=42)
def halfB(l:List Nat):List Nat:=(l.dropWhile (· !=42)).drop 1
def starR(l:List Nat):Bool:=l.any (·==42)
def plainR(l:List Nat):Bool:=l.all isD && ((l==[48]) || (!(l==[]) && !(l.head?==some 48)))
def valueR:Int->List Nat->Int
 | n,[]=>min n 1000
 | n,b::r=>if n<1000 then valueR (10*n+(((b+208) % 256:Nat):Int)) r else min n 1000
def runR(l:List Nat)(ahead:Int):Option (Int × Int):=
 if (!plainR (halfA l) || decide (63<valueR 0 (halfA l)) || (valueR 0 (halfA l)==ahead))=true then none
 else if (starR l && (!plainR (halfB l) || decide (valueR 0 (halfB l)<2)))=true then none
 else if starR l=true then some (valueR 0 (halfA l),valueR 0 (halfB l)) else some (valueR 0 (halfA l),1)
def beginsR(l:List Nat)(ahead:Int):Bool:=
 if l=[] then true
 else if (!plainR (halfA l) || decide (63<valueR 0 (halfA l)))=true then false
 else if starR l=true then !(valueR 0 (halfA l)==ahead) && ((halfB l==[]) || (plainR (halfB l) && !(halfB l==[48])))
 else !(valueR 0 (halfA l)==ahead) || (decide (1<=valueR 0 (halfA l)) && decide (valueR 0 (halfA l)<=6))
def fillR(out:List Int)(t n:Int):List Int:=out++List.replicate (min n.toNat (501 - out.length)) t
def wholeR:List (List Nat)->Int->List Int->Option (List Int × Int)
 | [],ahead,out=>some (out,ahead)
 | q::qs,ahead,out=>match runR q ahead with
  | none=>none
  | some (t,n)=>wholeR qs t (fillR out t n)
def viable(ahead:Int)(l:List Nat):Bool:=
 match wholeR (partsR l).dropLast ahead []with
 | none=>false
 | some (_,a)=>beginsR ((partsR l).getLastD []) a
def searchR(l:List Nat):Nat->Nat
 | 0=>0
 | k+1=>if viable (-1) (l.take (k+1))=true then k+1 else searchR l k
def parseR(l:List Nat):ParP:=
 if l=[] then ⟨[],0,true⟩
 else match wholeR (partsR l) (-1) []with
  | some (o,_)=>if 500<o.length then ⟨[],0,false⟩ else ⟨o,0,true⟩
  | none=>⟨[],searchR l l.length,false⟩
theorem zR(n:Int)(l:List Nat):(cnt n l).2<=l.length:=by
 induction l generalizing n with
 | nil=>simp [cnt]
 | cons b r ih=>
  unfold cnt;split
  ·simpa using ih _
  ·simp
theorem ow(n:Int)(hn:0<n)(l:List Nat)(k:Nat)(a:k<=l.length):(l.take k).all isD=decide (k<=(cnt n l).2):=by
 induction l generalizing n k with
 | nil=>simp at a;subst a;simp [cnt]
 | cons b r ih=>
  cases k with
  | zero=>simp
  | succ k=>
   unfold cnt;cases hd:isD b
   ·simp [hd]
   ·have c:(n==0)=false:=by simp;omega
    simp only [List.take_succ_cons,List.all_cons,hd,Bool.true_and,c,Bool.false_and,Bool.not_false,if_true];have hb:48<=b/\b<=57:=by simpa [isD]using hd
    rw [ih (min (10*n+((b:Int) - 48)) 501) (by omega) k (by simpa using a)];simp
theorem vA(n m:Int)(hn:0<n)(hm:n=min m 501)(l:List Nat)(h:l.all isD=true):(cnt n l).1=min (valueR m l) 501:=by
 induction l generalizing n m with
 | nil=>simp [cnt,valueR];omega
 | cons b r ih=>
  simp only [List.all_cons,Bool.and_eq_true]at h;have hb:48<=b/\b<=57:=by simpa [isD]using h.1
  unfold cnt valueR;have d:(n==0)=false:=by simp;omega
  simp only [h.1,d,Bool.true_and,Bool.false_and,Bool.not_false,if_true];have e:(((b+208) % 256:Nat):Int)=(b:Int) - 48:=by omega
  rw [e];split
  ·exact ih _ _ (by omega) (by omega) h.2
  ·have:∀ (x:Int) (l:List Nat),x=501->l.all isD=true->(cnt x l).1=501:=by
    intro x l f a;induction l generalizing x with
    | nil=>simp [cnt,f]
    | cons c s ih2=>
     simp only [List.all_cons,Bool.and_eq_true]at a;have hc:48<=c/\c<=57:=by simpa [isD]using a.1
     unfold cnt;have d:(x==0)=false:=by simp;omega
     simp only [a.1,d,Bool.true_and,Bool.false_and,Bool.not_false,if_true];exact ih2 _ (by omega) a.2
   rw [this _ r (by omega) h.2];omega
theorem mh(l:List Nat)(k:Nat)(d:k<=l.length):((l.take k==[]) || (plainR (l.take k) && !(l.take k==[48])))=decide (k<=(cnt 0 l).2):=by
 cases l with
 | nil=>simp at d;subst d;simp [cnt]
 | cons b r=>
  cases k with
  | zero=>simp
  | succ k=>
   unfold cnt plainR;cases hd:isD b
   ·simp [hd]
   ·have hb:48<=b/\b<=57:=by simpa [isD]using hd
    by_cases c:b=48
    ·subst c;simp [hd]
    ·have e:((b::r.take k)==[48])=false:=by
      cases r.take k<;>simp [c]
     have f:(b==48)=false:=by simpa using c
     simp only [List.take_succ_cons,List.all_cons,hd,Bool.true_and,e,Bool.false_or,List.head?_cons,f,Bool.and_false,Bool.not_false,if_true,Bool.and_true];rw [ow (min (10*0+((b:Int) - 48)) 501) (by omega) r k (by simpa using d)];have e3:(some b==some 48)=false:=by simpa using c
     simp [c]
theorem pQ(l:List Nat)(h:(cnt 0 l).2=l.length):(cnt 0 l).1=min (valueR 0 l) 501:=by
 cases l with
 | nil=>simp [cnt,valueR];omega
 | cons b r=>
  unfold cnt at h ⊢;split at h
  ·rename_i hc
   simp only [hc,if_true];simp only [Bool.and_eq_true,Bool.not_eq_true']at hc;have hb:48<=b/\b<=57:=by simpa [isD]using hc.1
   have h48:b≠48:=by
    intro e;have:=hc.2;simp [e]at this
   unfold valueR;simp only [show (0:Int)<1000 by decide,if_true];have e:(((b+208) % 256:Nat):Int)=(b:Int) - 48:=by omega
   rw [e];have a:(cnt (min (10*0+((b:Int) - 48)) 501) r).2=r.length:=by simpa using h
   refine vA _ _ (by omega) (by omega) r ?_;have:=ow (min (10*0+((b:Int) - 48)) 501) (by omega) r r.length (Nat.le_refl _);rw [List.take_length,a]at this;simpa using this
  ·simp at h
theorem uB(last:Int)(l:List Nat):thr last (-1) l=match l with
  | []=>(-1,0)
  | b::r=>if isD b=true/\(((b:Int) - 48≠last)\/(49<=b/\b<=54)) then
    (match r with
    | []=>((b:Int) - 48,1)
    | c::_=>if isD c=true/\b≠48/\((b:Int) - 48)*10+((c:Int) - 48)<=63/\((b:Int) - 48)*10+((c:Int) - 48)≠last then (((b:Int) - 48)*10+((c:Int) - 48),2) else ((b:Int) - 48,1))
   else (-1,0):=by
 have k:∀ (n:Int) (r:List Nat),10<=n->thr last n r=(n,0):=by
  intro n r hn;cases r with
  | nil=>rfl
  | cons c s=>
   unfold thr;rw [if_neg];simp only [isD,growsB,beginsB,Bool.and_eq_true,Bool.or_eq_true,decide_eq_true_eq,Bool.not_eq_true',beq_eq_false_iff_ne];omega
 have j:∀ (b:Nat) (r:List Nat),48<=b->b<=57->thr last ((b:Int) - 48) r=match r with
   | []=>((b:Int) - 48,0)
   | c::_=>if isD c=true/\b≠48/\((b:Int) - 48)*10+((c:Int) - 48)<=63/\((b:Int) - 48)*10+((c:Int) - 48)≠last then (((b:Int) - 48)*10+((c:Int) - 48),1) else ((b:Int) - 48,0):=by
  intro b r h1 h2;cases r with
  | nil=>rfl
  | cons c s=>
   unfold thr;simp only;by_cases hc:isD c=true/\b≠48/\((b:Int) - 48)*10+((c:Int) - 48)<=63/\((b:Int) - 48)*10+((c:Int) - 48)≠last
   ·have f:48<=c/\c<=57:=by simpa [isD]using hc.1
    rw [if_pos hc,if_pos]
    ·have e:nxt ((b:Int) - 48) c=((b:Int) - 48)*10+((c:Int) - 48):=by unfold nxt;rw [Int.max_eq_left (by omega)]
     rw [e,k _ s (by omega)]
    ·simp only [growsB,beginsB,hc.1,Bool.true_and,Bool.and_eq_true,Bool.or_eq_true,decide_eq_true_eq,Bool.not_eq_true',beq_eq_false_iff_ne];rw [Int.max_eq_left (by omega)];omega
   ·rw [if_neg hc,if_neg];intro h;apply hc;simp only [growsB,beginsB,Bool.and_eq_true,Bool.or_eq_true,decide_eq_true_eq,Bool.not_eq_true',beq_eq_false_iff_ne]at h;rw [Int.max_eq_left (by omega)]at h;obtain⟨d,a,i⟩:=h;have f:48<=c/\c<=57:=by simpa [isD]using d
    exact⟨d,by omega,by omega,by omega⟩
 cases l with
 | nil=>rfl
 | cons b r=>
  unfold thr;simp only;by_cases a:isD b=true/\(((b:Int) - 48≠last)\/(49<=b/\b<=54))
  ·have f:48<=b/\b<=57:=by simpa [isD]using a.1
   rw [if_pos a,if_pos]
   ·have e:nxt (-1) b=(b:Int) - 48:=by unfold nxt;rw [Int.max_eq_right (by omega)];omega
    rw [e,j b r f.1 f.2];cases r with
    | nil=>rfl
    | cons c s=>simp only;split<;>rfl
   ·simp only [growsB,beginsB,a.1,Bool.true_and,Bool.and_eq_true,Bool.or_eq_true,decide_eq_true_eq,Bool.not_eq_true',beq_eq_false_iff_ne];rw [Int.max_eq_right (by omega)];omega
  ·rw [if_neg a,if_neg];intro h;apply a;simp only [growsB,beginsB,Bool.and_eq_true,Bool.or_eq_true,decide_eq_true_eq,Bool.not_eq_true',beq_eq_false_iff_ne]at h;rw [Int.max_eq_right (by omega)]at h;obtain⟨d,hc,i⟩:=h;exact⟨d,by omega⟩
theorem lX{b:Nat}(h:isD b=true){n:Int}(c:n<1000)(r:List Nat):valueR n (b::r)=valueR (10*n+((b:Int) - 48)) r:=by
 have hb':48<=b/\b<=57:=by simpa [isD]using h
 have a:(((b+208) % 256:Nat):Int)=(b:Int) - 48:=by omega
 rw [valueR,if_pos c,a]
theorem qA(n:Int):valueR n []=min n 1000:=rfl
theorem lY{b:Nat}(h:isD b=true):valueR 0 [b]=(b:Int) - 48:=by
 have hb':48<=b/\b<=57:=by simpa [isD]using h
 rw [lX h (by omega),qA];omega
theorem k8{b c:Nat}(h:isD b=true)(a:isD c=true):valueR 0 [b,c]=((b:Int) - 48)*10+((c:Int) - 48):=by
 have hb':48<=b/\b<=57:=by simpa [isD]using h
 have hc':48<=c/\c<=57:=by simpa [isD]using a
 rw [lX h (by omega),lX a (by omega),qA];omega
theorem xh(n:Int)(hn:64<=n)(l:List Nat):63<valueR n l:=by
 induction l generalizing n with
 | nil=>unfold valueR;omega
 | cons b r ih=>
  unfold valueR;split
  ·exact ih _ (by omega)
  ·omega
theorem ki(a:List Nat):(plainR a=true/\valueR 0 a<=63)↔
  (∃ b,a=[b]/\isD b=true)\/(∃ b c,a=[b,c]/\isD b=true/\isD c=true/\b≠48/\((b:Int) - 48)*10+((c:Int) - 48)<=63):=by
 constructor
 ·rintro⟨f,j⟩;rcases a with _ | ⟨b,_ | ⟨c,_ | ⟨d,r⟩⟩⟩
  ·simp [plainR]at f
  ·left;exact⟨b,rfl,by simpa [plainR]using f⟩
  ·right
   simp [plainR]at f;obtain⟨⟨e,hc⟩,i⟩:=f;rw [k8 e hc]at j;exact⟨b,c,rfl,e,hc,i,j⟩
  ·exfalso
   simp [plainR]at f;obtain⟨⟨e,hc,k,_⟩,i⟩:=f;have m:48<=b/\b<=57:=by simpa [isD]using e
   have hc':48<=c/\c<=57:=by simpa [isD]using hc
   have hd':48<=d/\d<=57:=by simpa [isD]using k
   rw [lX e (by omega),lX hc (by omega),lX k (by omega)]at j;have:=xh (10*(10*(10*0+((b:Int) - 48))+((c:Int) - 48))+((d:Int) - 48)) (by omega) r;omega
 ·rintro(⟨b,rfl,e⟩ | ⟨b,c,rfl,e,hc,i,l⟩)
  ·have m:48<=b/\b<=57:=by simpa [isD]using e
   refine⟨?_,?_⟩
   ·by_cases h:b=48
    ·subst h;rfl
    ·simp [plainR,e]
   ·rw [lY e];omega
  ·exact⟨by simp [plainR,e,hc,i],by rw [k8 e hc];exact l⟩
theorem lP{a bb:List Nat}(b:∀ x∈a,x≠42):halfA (a++42::bb)=a/\halfB (a++42::bb)=bb/\starR (a++42::bb)=true:=by
 induction a with
 | nil=>simp [halfA,halfB,starR]
 | cons x a ih=>
  have c:x≠42:=b x (by simp);obtain⟨d,e,h3⟩:=ih (fun y hy=>b y (by simp [hy]));refine⟨?_,?_,?_⟩
  ·unfold halfA at*;rw [List.cons_append,List.takeWhile_cons,if_pos (by simpa using c),d]
  ·unfold halfB at*;rw [List.cons_append,List.dropWhile_cons,if_pos (by simpa using c),e]
  ·simp [starR]
theorem lO{a:List Nat}(c:∀ x∈a,x≠42):halfA a=a/\halfB a=[]/\starR a=false:=by
 induction a with
 | nil=>simp [halfA,halfB,starR]
 | cons x a ih=>
  have b:x≠42:=c x (by simp);obtain⟨d,e,f⟩:=ih (fun y hy=>c y (by simp [hy]));refine⟨?_,?_,?_⟩
  ·unfold halfA at*;rw [List.takeWhile_cons,if_pos (by simpa using b),d]
  ·unfold halfB at*;rw [List.dropWhile_cons,if_pos (by simpa using b),e]
  ·unfold starR at*;rw [List.any_cons,f];simpa using b
theorem kB{l:List Nat}(d:l≠[])(last:Int)(h:¬(plainR (halfA l)=true/\valueR 0 (halfA l)<=63)):beginsR l last=false/\runR l last=none:=by
 have b:(!plainR (halfA l) || decide (63<valueR 0 (halfA l)))=true:=by
  cases hp:plainR (halfA l)
  ·rfl
  ·simp only [Bool.not_true,Bool.false_or,decide_eq_true_eq];by_cases c:valueR 0 (halfA l)<=63
   ·exact absurd ⟨hp,c⟩ h
   ·omega
 unfold beginsR runR;rw [if_neg d,if_pos b,b,Bool.true_or,if_pos rfl];exact⟨rfl,rfl⟩
theorem nE{a bb:List Nat}(e:∀ x∈a,x≠42)(f:plainR a=true)(hv:valueR 0 a<=63)(last:Int):
  beginsR (a++42::bb) last=(!(valueR 0 a==last) && ((bb==[]) || (plainR bb && !(bb==[48])))):=by
 obtain⟨b,c,d⟩:=lP (bb:=bb) e;unfold beginsR;rw [if_neg (by simp),b,c,d,f,if_neg (by simp;omega),if_pos rfl]
theorem mz{a:List Nat}(e:∀ x∈a,x≠42)(b:a≠[])(f:plainR a=true)(hv:valueR 0 a<=63)(last:Int):
  beginsR a last=(!(valueR 0 a==last) || (decide (1<=valueR 0 a) && decide (valueR 0 a<=6))):=by
 obtain⟨c,h2,d⟩:=lO e;unfold beginsR;rw [if_neg b,c,d,f,if_neg (by simp;omega),if_neg (by simp)]
theorem s8{a bb:List Nat}(e:∀ x∈a,x≠42)(h:plainR a=true)(hv:valueR 0 a<=63)(last:Int)(f:valueR 0 a≠last):
  runR (a++42::bb) last=if (!plainR bb || decide (valueR 0 bb<2))=true then none else some (valueR 0 a,valueR 0 bb):=by
 obtain⟨b,c,d⟩:=lP (bb:=bb) e;unfold runR;rw [b,c,d,h,if_neg (by simp;exact⟨by omega,f⟩),Bool.true_and,if_pos rfl]
theorem mT{l:List Nat}{last:Int}(a:valueR 0 (halfA l)=last):runR l last=none:=by
 unfold runR;rw [if_pos];simp [a]
theorem lW{a:List Nat}(d:∀ x∈a,x≠42)(f:plainR a=true)(hv:valueR 0 a<=63)(last:Int)(e:valueR 0 a≠last):
  runR a last=some (valueR 0 a,1):=by
 obtain⟨b,h2,c⟩:=lO d;unfold runR;rw [b,c,f,if_neg (by simp;exact⟨by omega,e⟩),if_neg (by simp),if_neg (by simp)]
structure Auto(last:Int)(q:List Nat):Prop where
 len:(runP last q).len<=q.length
 pre:∀ k,k<=q.length->beginsR (q.take k) last=decide (k<=(runP last q).len)
 yes:∀ t n,runR q last=some (t,n)->(runP last q).ok=true/\(runP last q).len=q.length/\(runP last q).thread=t/\(runP last q).count=min n 501/\1<=n
 no:runR q last=none->(runP last q).ok=true->(runP last q).len≠q.length
theorem oq(last:Int):beginsR [] last=true:=rfl
theorem r9{b:Nat}(h:isD b=true):b≠42/\b≠32:=by
 have:48<=b/\b<=57:=by simpa [isD]using h
 omega
theorem pO(last:Int)(a bb:List Nat)(l:∀ x∈a,x≠42)(p:plainR a=true)(q:valueR 0 a<=63)(d:valueR 0 a≠last)(hn0:0<=valueR 0 a)
  (F:thr last (-1) (a++42::bb)=(valueR 0 a,a.length)) (E:∀ k,k<=a.length->beginsR (a.take k) last=true):Auto last (a++42::bb):=by
 have e:runP last (a++42::bb)=⟨valueR 0 a,(cnt 0 bb).1,decide (1<(cnt 0 bb).1),a.length+1+(cnt 0 bb).2⟩:=by
  unfold runP;rw [F];have u:(a++42::bb)[a.length]?=some 42:=by simp
  have v:(a++42::bb).drop (a.length+1)=bb:=by
   rw [List.drop_append];simp
  have w:thrOk last (valueR 0 a)=true:=by
   simp only [thrOk,Bool.and_eq_true,Bool.not_eq_true',beq_eq_false_iff_ne];exact⟨by omega,d⟩
  simp only [u,v,w,Bool.true_and,beq_self_eq_true,if_true]
 have hc:=zR 0 bb;have m:∀ k,k<=bb.length->beginsR (a++42::bb.take k) last=decide (k<=(cnt 0 bb).2):=by
  intro k m;rw [nE l p q,mh bb k m];have:(valueR 0 a==last)=false:=by simpa using d
  rw [this];simp
 refine⟨?_,?_,?_,?_⟩
 ·rw [e];simp;omega
 ·intro k D;rw [e];simp only;by_cases h:k<=a.length
  ·rw [List.take_append_of_le_length h,E k h];symm;simp;omega
  ·obtain⟨j,rfl⟩:∃ j,k=a.length+1+j:=⟨k - (a.length+1),by omega⟩;have y:(a++42::bb).take (a.length+1+j)=a++42::bb.take j:=by
    rw [List.take_append,List.take_of_length_le (by omega)];have:a.length+1+j - a.length=j+1:=by omega
    rw [this,List.take_succ_cons]
   have C:j<=bb.length:=by simp at D;omega
   rw [y,m j C];by_cases A:j<=(cnt 0 bb).2<;>simp [A]<;>omega
 ·intro t n h;rw [s8 l p q last d]at h;split at h
  ·cases h
  ·rename_i hb
   simp only [Option.some.injEq,Prod.mk.injEq]at h;obtain⟨rfl,rfl⟩:=h;simp only [Bool.or_eq_true,Bool.not_eq_true',decide_eq_true_eq,not_or,Bool.not_eq_false]at hb;have o:bb≠[]:=by intro c;rw [c]at hb;simp [plainR]at hb
   have z:bb≠[48]:=by intro c;rw [c]at hb;exact hb.2 (by rw [lY (by rfl)];omega)
   have b:=mh bb bb.length (Nat.le_refl _);rw [List.take_length,hb.1]at b;have i:(bb==[])=false:=by simpa using o
   have B:(bb==[48])=false:=by simpa using z
   rw [i,B]at b;have s:bb.length<=(cnt 0 bb).2:=by simpa using b.symm
   have r:=pQ bb (by omega);rw [e];refine⟨?_,?_,rfl,r,by omega⟩
   ·simp only [decide_eq_true_eq];omega
   ·simp;omega
 ·intro h f;rw [e]at f ⊢;simp only [decide_eq_true_eq]at f;rw [s8 l p q last d]at h;split at h
  ·rename_i hb
   simp only [List.length_append,List.length_cons];intro hl;have r:=pQ bb (by omega);have b:=mh bb bb.length (Nat.le_refl _);rw [List.take_length]at b;have s:decide (bb.length<=(cnt 0 bb).2)=true:=by simp;omega
   rw [s]at b;have o:bb≠[]:=by intro c;rw [c]at f;simp [cnt]at f
   have i:(bb==[])=false:=by simpa using o
   rw [i,Bool.false_or]at b;simp only [Bool.and_eq_true]at b;rw [b.1]at hb;simp only [Bool.not_true,Bool.false_or,decide_eq_true_eq]at hb;omega
  ·cases h
theorem kx(last:Int)(a r:List Nat)(n:Int)(p:thr last (-1) (a++r)=(n,a.length))(o:∀ k,k<=a.length->beginsR (a.take k) last=true)
  (j:(thrOk last n && (r.head?==some 42))=false)
  (l:∀ k,0<k->k<=r.length->beginsR (a++r.take k) last=false)
  (q:∀ t m,runR (a++r) last=some (t,m)->thrOk last n=true/\r=[]/\n=t/\m=1)
  (i:runR (a++r) last=none->thrOk last n=true->r≠[]):Auto last (a++r):=by
 have e:runP last (a++r)=⟨n,1,thrOk last n,a.length⟩:=by
  unfold runP;rw [p];have c:(a++r)[a.length]?=r.head?:=by rw [List.getElem?_append_right (Nat.le_refl _)];simp [List.head?_eq_getElem?]
  simp only [c,j];simp
 refine⟨?_,?_,?_,?_⟩
 ·rw [e];simp
 ·intro k f;rw [e];simp only;by_cases h:k<=a.length
  ·rw [List.take_append_of_le_length h,o k h];symm;simpa using h
  ·have d:(a++r).take k=a++r.take (k - a.length):=by rw [List.take_append,List.take_of_length_le (by omega)]
   rw [d,l _ (by omega) (by simp at f;omega)];symm;simpa using h
 ·intro t m h;obtain⟨b,rfl,rfl,rfl⟩:=q t m h;rw [e];simp [b];omega
 ·intro h b;rw [e]at b ⊢;have:=i h b;simp;exact this
theorem vr(last:Int)(q:List Nat):Auto last q:=by
 have T:=uB last q;rcases q with _ | ⟨b,r⟩
 ·refine kx last [] [] (-1) T (fun k C=>?_) rfl (fun k i f=>by simp at f;omega) ?_ ?_
  ·simp [oq]
  ·intro t m h;simp [runR,halfA,plainR]at h
  ·intro _ h;simp [thrOk]at h
 ·simp only at T;by_cases B:isD b=true/\(((b:Int) - 48≠last)\/(49<=b/\b<=54))
  ·rw [if_pos B]at T;obtain⟨v,hb2⟩:=B;have D:=r9 v;have N:48<=b/\b<=57:=by simpa [isD]using v
   have o:=(ki [b]).2 (Or.inl ⟨b,rfl,v⟩);have p:=lY v;have z:∀ x∈[b],x≠42:=by simp;exact D.1
   have K:beginsR [b] last=true:=by
    rw [mz z (by simp) o.1 o.2,p];simp;omega
   have I:∀ k,k<=[b].length->beginsR ([b].take k) last=true:=by
    intro k C;have:k=0\/k=1:=by simp at C;omega
    rcases this with rfl | rfl
    ·rfl
    ·exact K
   rcases r with _ | ⟨c,r⟩
   ·refine kx last [b] [] ((b:Int) - 48) T I (by simp) (fun k i f=>by simp at f;omega) ?_ ?_
    ·intro t m h;by_cases l:(b:Int) - 48=last
     ·rw [mT (by rw [(lO (by simpa using z)).1,List.append_nil,p];exact l)]at h;cases h
     ·rw [List.append_nil,lW z o.1 o.2 last (by rw [p];exact l),p]at h;simp only [Option.some.injEq,Prod.mk.injEq]at h;exact⟨by simp [thrOk,l];omega,rfl,h.1,h.2.symm⟩
    ·intro h f;by_cases l:(b:Int) - 48=last
     ·simp [thrOk,l]at f
     ·rw [List.append_nil,lW z o.1 o.2 last (by rw [p];exact l)]at h;cases h
   ·by_cases hc:isD c=true/\b≠48/\((b:Int) - 48)*10+((c:Int) - 48)<=63/\((b:Int) - 48)*10+((c:Int) - 48)≠last
    ·simp only [if_pos hc]at T;obtain⟨E,L,Z,F⟩:=hc;have O:=r9 E;have P:48<=c/\c<=57:=by simpa [isD]using E
     have w:=(ki [b,c]).2 (Or.inr ⟨b,c,rfl,v,E,L,Z⟩);have A:=k8 v E;have H:∀ x∈[b,c],x≠42:=by simp;exact⟨D.1,O.1⟩
     have Y:beginsR [b,c] last=true:=by
      rw [mz H (by simp) w.1 w.2,A];simp;omega
     have U:∀ k,k<=[b,c].length->beginsR ([b,c].take k) last=true:=by
      intro k C;have:k=0\/k=1\/k=2:=by simp at C;omega
      rcases this with rfl | rfl | rfl
      ·rfl
      ·exact K
      ·exact Y
     have S:thrOk last (((b:Int) - 48)*10+((c:Int) - 48))=true:=by
      simp only [thrOk,Bool.and_eq_true,Bool.not_eq_true',beq_eq_false_iff_ne];exact⟨by omega,F⟩
     by_cases n:r.head?=some 42
     ·obtain⟨bb,rfl⟩:∃ bb,r=42::bb:=by
       cases r with
       | nil=>simp at n
       | cons x bb=>simp at n;exact⟨bb,by rw [n]⟩
      exact pO last [b,c] bb H w.1 w.2 (by rw [A];exact F) (by rw [A];omega) (by rw [A];exact T) U
     ·have W:∀ d s,d≠42->¬(plainR (halfA (b::c::d::s))=true/\valueR 0 (halfA (b::c::d::s))<=63):=by
       intro d s aa;have e:halfA (b::c::d::s)=b::c::d::halfA s:=by
        unfold halfA;rw [List.takeWhile_cons,if_pos (by simpa using D.1),List.takeWhile_cons,if_pos (by simpa using O.1),List.takeWhile_cons,if_pos (by simpa using aa)]
       rw [e,ki];simp
      refine kx last [b,c] r _ T U (by rw [S];simpa using n) ?_ ?_ ?_
      ·intro k i f;rcases r with _ | ⟨d,s⟩
       ·simp at f;omega
       ·obtain⟨j,rfl⟩:∃ j,k=j+1:=⟨k - 1,by omega⟩;exact(kB (by simp) last (W d (s.take j) (by simpa using n))).1
      ·intro t m h;rcases r with _ | ⟨d,s⟩
       ·rw [List.append_nil,lW H w.1 w.2 last (by rw [A];exact F),A]at h;simp only [Option.some.injEq,Prod.mk.injEq]at h;exact⟨S,rfl,h.1,h.2.symm⟩
       ·rw [show [b,c]++d::s=b::c::d::s from rfl,(kB (by simp) last (W d s (by simpa using n))).2]at h;cases h
      ·intro h _;rcases r with _ | ⟨d,s⟩
       ·rw [List.append_nil,lW H w.1 w.2 last (by rw [A];exact F)]at h;cases h
       ·simp
    ·simp only [if_neg hc]at T;by_cases n:c=42
     ·subst n;by_cases l:(b:Int) - 48=last
      ·have same:∀ s,halfA (b::42::s)=[b]:=fun s=>(lP (a:=[b]) (bb:=s) z).1
       refine kx last [b] (42::r) _ T I (by simp [thrOk,l]) ?_ ?_ ?_
       ·intro k i f;obtain⟨j,rfl⟩:∃ j,k=j+1:=⟨k - 1,by omega⟩;rw [List.take_succ_cons,nE z o.1 o.2,p];simp [l]
       ·intro t m h;rw [mT (by rw [show [b]++42::r=b::42::r from rfl,same,p];exact l)]at h;cases h
       ·intro _ h;simp [thrOk,l]at h
      ·exact pO last [b] r z o.1 o.2 (by rw [p];exact l) (by rw [p];omega) (by rw [p];exact T) I
     ·have X:∀ s,(plainR (halfA (b::c::s))=true/\valueR 0 (halfA (b::c::s))<=63)->halfA (b::c::s)=[b,c]/\isD c=true/\b≠48/\((b:Int) - 48)*10+((c:Int) - 48)=last:=by
       intro s h;have e:halfA (b::c::s)=b::c::halfA s:=by
        unfold halfA;rw [List.takeWhile_cons,if_pos (by simpa using D.1),List.takeWhile_cons,if_pos (by simpa using n)]
       rw [e,ki]at h;rcases h with ⟨b',h,_⟩ | ⟨b',c',h,i,f,u,h4⟩
       ·simp at h
       ·simp only [List.cons.injEq]at h;obtain⟨rfl,rfl,M⟩:=h;refine⟨by rw [e,M],f,u,?_⟩;by_cases y:((b:Int) - 48)*10+((c:Int) - 48)=last
        ·exact y
        ·exact absurd ⟨f,u,h4,y⟩ hc
      have ac:∀ s,runR (b::c::s) last=none:=by
       intro s;by_cases h:plainR (halfA (b::c::s))=true/\valueR 0 (halfA (b::c::s))<=63
       ·obtain⟨i,f,_,u⟩:=X s h;exact mT (by rw [i,k8 v f];exact u)
       ·exact(kB (by simp) last h).2
      refine kx last [b] (c::r) _ T I (by simp [n]) ?_ ?_ ?_
      ·intro k i f;obtain⟨j,rfl⟩:∃ j,k=j+1:=⟨k - 1,by omega⟩;rw [List.take_succ_cons];by_cases h:plainR (halfA (b::c::r.take j))=true/\valueR 0 (halfA (b::c::r.take j))<=63
       ·obtain⟨i,f,L,u⟩:=X _ h;have P:48<=c/\c<=57:=by simpa [isD]using f
        have R:=k8 v f;show beginsR (b::c::r.take j) last=false
        unfold beginsR;rw [if_neg (by simp),i,R,u,if_neg (by rw [i]at h;simp [h.1];rw [R]at h;omega)];split
        ·simp
        ·simp;omega
       ·exact(kB (by simp) last h).1
      ·intro t m h;rw [show [b]++c::r=b::c::r from rfl,ac]at h;cases h
      ·intro _ _;simp
  ·rw [if_neg B]at T;have bad:∀ s,beginsR (b::s) last=false/\runR (b::s) last=none:=by
    intro s;by_cases h:plainR (halfA (b::s))=true/\valueR 0 (halfA (b::s))<=63
    ·have Q:=(ki _).1 h;have hh:∃ V,halfA (b::s)=b::V:=by
      unfold halfA;rw [List.takeWhile_cons];split
      ·exact⟨_,rfl⟩
      ·rename_i h42
       rw [halfA,List.takeWhile_cons,if_neg h42]at h;simp [plainR]at h
     obtain⟨V,G⟩:=hh;rw [G]at Q;rcases Q with ⟨b',i,f⟩ | ⟨b',c',i,f,u,h4,M⟩
     ·simp only [List.cons.injEq]at i;obtain⟨rfl,rfl⟩:=i;have l:(b:Int) - 48=last/\¬(49<=b/\b<=54):=by
       refine⟨?_,fun y=>B ⟨f,Or.inr y⟩⟩;by_cases y:(b:Int) - 48=last
       ·exact y
       ·exact absurd ⟨f,Or.inl y⟩ B
      have N:48<=b/\b<=57:=by simpa [isD]using f
      have J:=lY f;refine⟨?_,mT (by rw [G,J];exact l.1)⟩;unfold beginsR;rw [if_neg (by simp),G,J,l.1,if_neg (by rw [G]at h;simp [h.1];rw [J]at h;omega)];split
      ·simp
      ·simp;omega
     ·simp only [List.cons.injEq]at i;obtain⟨rfl,rfl⟩:=i;have N:48<=b/\b<=57:=by simpa [isD]using f
      have P:48<=c'/\c'<=57:=by simpa [isD]using u
      exact absurd ⟨f,Or.inr (by omega)⟩ B
    ·exact kB (by simp) last h
   refine kx last [] (b::r) (-1) T (fun k C=>by simp [oq]) (by simp [thrOk]) ?_ ?_ ?_
   ·intro k i f;obtain⟨j,rfl⟩:∃ j,k=j+1:=⟨k - 1,by omega⟩;exact(bad _).1
   ·intro t m h;rw [List.nil_append,(bad r).2]at h;cases h
   ·intro _ h;simp [thrOk]at h
theorem vf(last n:Int)(l:List Nat):(thr last n l).2<=l.length:=by
 induction l generalizing n with
 | nil=>simp [thr]
 | cons b r ih=>
  unfold thr;split
  ·simpa using ih _
  ·simp
theorem xd(last n:Int)(q u:List Nat):thr last n (q++32::u)=thr last n q:=by
 induction q generalizing n with
 | nil=>simp [thr,isD]
 | cons b r ih=>simp only [List.cons_append,thr,ih]
theorem vz(n:Int)(q u:List Nat):cnt n (q++32::u)=cnt n q:=by
 induction q generalizing n with
 | nil=>simp [cnt,isD]
 | cons b r ih=>simp only [List.cons_append,cnt,ih]
theorem uw(last:Int)(q u:List Nat):runP last (q++32::u)=runP last q:=by
 have hl:=vf last (-1) q;unfold runP;rw [xd];generalize (thr last (-1) q).2=j at*;by_cases h:j<q.length
 ·have a:(q++32::u)[j]?=q[j]?:=List.getElem?_append_left h;have b:(q++32::u).drop (j+1)=q.drop (j+1)++32::u:=by
   rw [List.drop_append];have:j+1 - q.length=0:=by omega
   rw [this,List.drop_zero]
  rw [a,b,vz]
 ·obtain rfl:j=q.length:=by omega
  have a:(q++32::u)[q.length]?=some 32:=by simp
  have b:q[q.length]?=none:=by simp
  rw [a,b];have c:((some 32:Option Nat)==some 42)=false:=by decide
  have d:((none:Option Nat)==some 42)=false:=by decide
  rw [c,d];simp
theorem nw(q:List Nat)(h:∀ x∈q,x≠32):partsR q=[q]:=by
 induction q with
 | nil=>rfl
 | cons b r ih=>
  have a:b≠32:=h b (by simp);rw [partsR,if_neg a,ih (fun x hx=>h x (by simp [hx]))];rfl
theorem nx(q u:List Nat)(h:∀ x∈q,x≠32):partsR (q++32::u)=q::partsR u:=by
 induction q with
 | nil=>simp [partsR]
 | cons b r ih=>
  have a:b≠32:=h b (by simp);rw [List.cons_append,partsR,if_neg a,ih (fun x hx=>h x (by simp [hx]))];rfl
theorem oS(l:List Nat):partsR l≠[]:=by
 cases l with
 | nil=>simp [partsR]
 | cons b r=>unfold partsR;split<;>simp
theorem tk(l:List Nat):(∀ x∈l,x≠32)\/∃ q u,l=q++32::u/\∀ x∈q,x≠32:=by
 induction l with
 | nil=>left;simp
 | cons b r ih=>
  by_cases c:b=32
  ·right;exact⟨[],r,by simp [c],by simp⟩
  ·rcases ih with h | ⟨q,u,rfl,h⟩
   ·left
    intro x a;rcases List.mem_cons.1 a with rfl | a
    ·exact c
    ·exact h x a
   ·right
    refine⟨b::q,u,rfl,?_⟩;intro x a;rcases List.mem_cons.1 a with rfl | a
    ·exact c
    ·exact h x a
theorem xp(b:List (List Nat))(a:Int)(o c:List Int):(wholeR b a o).map (·.2)=(wholeR b a c).map (·.2):=by
 induction b generalizing a o c with
 | nil=>rfl
 | cons q b ih=>
  unfold wholeR;cases runR q a with
  | none=>rfl
  | some x=>exact ih _ _ _
theorem qB(b:Int)(l:List Nat):viable b l=match (wholeR (partsR l).dropLast b []).map (·.2)with
  | none=>false
  | some a=>beginsR ((partsR l).getLastD []) a:=by
 unfold viable;cases wholeR (partsR l).dropLast b []<;>rfl
theorem lm(a:Int)(q:List Nat)(h:∀ x∈q,x≠32):viable a q=beginsR q a:=by
 unfold viable;rw [nw q h];rfl
theorem mx(c:Int)(q u:List Nat)(h:∀ x∈q,x≠32):viable c (q++32::u)=match runR q c with
  | none=>false
  | some x=>viable x.1 u:=by
 rw [qB,nx q u h];have d:(q::partsR u).dropLast=q::(partsR u).dropLast:=by rw [List.dropLast_cons_of_ne_nil (oS u)]
 have e:(q::partsR u).getLastD []=(partsR u).getLastD []:=by
  cases hp:partsR u with
  | nil=>exact absurd hp (oS u)
  | cons a b=>rfl
 rw [d,e,wholeR];cases runR q c with
 | none=>rfl
 | some x=>
  simp only;rw [qB,xp _ _ _ []]
structure IsLng(ahead:Int)(l:List Nat)(m:Nat):Prop where
 le:m<=l.length
 yes:viable ahead (l.take m)=true
 no:∀ k,m<k->k<=l.length->viable ahead (l.take k)=false
theorem uz{l:List Nat}{m:Nat}(h:IsLng (-1) l m)(n:Nat)(hm:m<=n)(a:n<=l.length):searchR l n=m:=by
 induction n with
 | zero=>simp [searchR];omega
 | succ n ih=>
  unfold searchR;by_cases e:m=n+1
  ·rw [if_pos]
   ·exact e.symm
   ·rw [<-e];exact h.yes
  ·rw [if_neg (by rw [h.no (n+1) (by omega) a];simp)];exact ih (by omega) (by omega)
theorem pk{q u:List Nat}{k:Nat}(h:k<=q.length):(q++32::u).take k=q.take k:=List.take_append_of_le_length h
theorem mW{q:List Nat}(h:∀ x∈q,x≠32)(k:Nat):∀ x∈q.take k,x≠32:=fun x hx=>h x (List.mem_of_mem_take hx)
theorem nC(q u:List Nat)(j:Nat):(q++32::u).take (q.length+1+j)=q++32::u.take j:=by
 rw [List.take_append,List.take_of_length_le (by omega)];have:q.length+1+j - q.length=j+1:=by omega
 rw [this,List.take_succ_cons]
theorem Ax{last:Int}{q:List Nat}(h:∀ x∈q,x≠32):IsLng last q (runP last q).len:=by
 have A:=vr last q;refine⟨A.len,?_,?_⟩
 ·rw [lm _ _ (mW h _),A.pre _ A.len];simp
 ·intro k h1 a;rw [lm _ _ (mW h _),A.pre _ a];simp;omega
theorem sD{last:Int}{q u:List Nat}(h:∀ x∈q,x≠32)(b:runR q last=none):IsLng last (q++32::u) (runP last q).len:=by
 have A:=vr last q;have hl:=A.len;refine⟨by simp;omega,?_,?_⟩
 ·rw [pk A.len,lm _ _ (mW h _),A.pre _ A.len];simp
 ·intro k h1 h2;by_cases a:k<=q.length
  ·rw [pk a,lm _ _ (mW h _),A.pre _ a];simp;omega
  ·obtain⟨j,rfl⟩:∃ j,k=q.length+1+j:=⟨k - (q.length+1),by omega⟩;rw [nC,mx _ _ _ h,b]
theorem Ay{last t n:Int}{q u:List Nat}{m:Nat}(h:∀ x∈q,x≠32)(b:runR q last=some (t,n))(a:IsLng t u m):IsLng last (q++32::u) (q.length+1+m):=by
 have hl:=a.le;refine⟨by simp;omega,?_,?_⟩
 ·rw [nC,mx _ _ _ h,b];exact a.yes
 ·intro k h1 c;obtain⟨j,rfl⟩:∃ j,k=q.length+1+j:=⟨k - (q.length+1),by omega⟩;rw [nC,mx _ _ _ h,b];exact a.no j (by omega) (by simp at c;omega)
theorem AA(f:Nat)(b out:List Int)(last a:Int)(at_:Nat)(l:List Nat)(C:l.length<f)(ht:a=out.length)(H:a<501->b=out)(h501:a<=501):
  match wholeR (partsR l) last out with
  | some (o,_)=>loopP f b last a at_ l=if 500<o.length then ⟨[],0,false⟩ else ⟨o,0,true⟩
  | none=>∃ m,IsLng last l m/\loopP f b last a at_ l=⟨[],at_+m,false⟩:=by
 induction f generalizing b out last a at_ l with
 | zero=>omega
 | succ f ih=>
  have next:∀ (q:List Nat) (t n:Int),runR q last=some (t,n)->min (a+(runP last q).count) 501=((fillR out t n).length:Int)/\
    (min (a+(runP last q).count) 501<501->addRun b (min (a+(runP last q).count) 501) (runP last q).count (runP last q).thread=fillR out t n):=by
   intro q t n h;obtain⟨i,j,k,p,s⟩:=(vr last q).yes t n h;have e:((fillR out t n).length:Int)=min (a+(runP last q).count) 501:=by
    unfold fillR;simp;omega
   refine⟨e.symm,fun c=>?_⟩;unfold addRun fillR;rw [if_pos c,k,p,H (by omega)];have:(min n 501).toNat=min n.toNat (501 - out.length):=by omega
   rw [this]
  rcases tk l with hb | ⟨q,u,rfl,hb⟩
  ·rw [nw l hb];simp only [wholeR];have A:=vr last l;cases hr:runR l last with
   | none=>
    simp only;refine⟨(runP last l).len,Ax hb,?_⟩;unfold loopP;by_cases d:(runP last l).ok=true
    ·have G:=A.no hr d;have c:(runP last l).len<l.length:=by have:=A.len;omega
     rw [if_pos d,List.drop_eq_getElem_cons c];simp only;rw [if_neg (hb _ (List.getElem_mem c))]
    ·rw [if_neg d]
   | some x=>
    obtain⟨t,n⟩:=x;simp only;obtain⟨i,j,k,p,s⟩:=A.yes t n hr;obtain⟨z,r⟩:=next l t n hr;unfold loopP;rw [if_pos i,j,List.drop_length];simp only;by_cases v:min (a+(runP last l).count) 501=501
    ·rw [if_pos v,if_pos (by omega)]
    ·rw [if_neg v,if_neg (by omega),r (by omega)]
  ·rw [nx q u hb];simp only [wholeR];have A:=vr last q;have w:=uw last q u;cases hr:runR q last with
   | none=>
    simp only;refine⟨(runP last q).len,sD hb hr,?_⟩;unfold loopP;rw [w];by_cases d:(runP last q).ok=true
    ·have G:=A.no hr d;have c:(runP last q).len<q.length:=by have:=A.len;omega
     have D:(runP last q).len<(q++32::u).length:=by simp;omega
     rw [if_pos d,List.drop_eq_getElem_cons D];simp only;rw [if_neg];rw [List.getElem_append_left c];exact hb _ (List.getElem_mem c)
    ·rw [if_neg d]
   | some x=>
    obtain⟨t,n⟩:=x;simp only;obtain⟨i,j,k,p,s⟩:=A.yes t n hr;obtain⟨z,r⟩:=next q t n hr;have e:loopP (f+1) b last a at_ (q++32::u)=loopP f (addRun b (min (a+(runP last q).count) 501) (runP last q).count (runP last q).thread) t (min (a+(runP last q).count) 501) (at_+q.length+1) u:=by
     conv=>lhs;unfold loopP
     rw [w,if_pos i,j];have B:(q++32::u).drop q.length=32::u:=by simp
     rw [B];simp only [if_true,k]
    rw [e];have:=ih (addRun b (min (a+(runP last q).count) 501) (runP last q).count (runP last q).thread) (fillR out t n) t (min (a+(runP last q).count) 501) (at_+q.length+1) u (by simp at C;omega) z r (by omega);cases hw:wholeR (partsR u) t (fillR out t n)with
    | none=>
     rw [hw]at this;simp only at this ⊢;obtain⟨m,E,F⟩:=this;exact⟨q.length+1+m,Ay hb hr E,by rw [F];congr 1;omega⟩
    | some y=>
     rw [hw]at this;exact this
theorem mO(l:List Nat):parseP l=parseR l:=by
 unfold parseP parseR;by_cases a:l=[]
 ·rw [if_pos a,if_pos a]
 ·rw [if_neg a,if_neg a];have:=AA (l.length+1) [] [] (-1) 0 0 l (by omega) rfl (fun _=>rfl) (by omega);cases hw:wholeR (partsR l) (-1) []with
  | none=>
   rw [hw]at this;obtain⟨m,b,c⟩:=this;simp only;rw [c,uz b l.length b.le (Nat.le_refl _)];simp
  | some y=>rw [hw]at this;exact this
def validS(l:List Int):Bool:=decide (l.length<=500) && l.all fun t=>decide (0<=t) && decide (t<=63)
def grp:List Int->List (Int × Int)
 | []=>[]
 | t::r=>match grp r with
  | []=>[(t,1)]
  | x::q=>if t=x.1 then (t,x.2+1)::q else (t,1)::x::q
def bump:List (Int × Int)->List (Int × Int)
 | []=>[]
 | [x]=>[(x.1,x.2+1)]
 | x::y::q=>x::bump (y::q)
theorem oK(t:Int)(r:List Int):∃ n q,grp (t::r)=(t,n)::q:=by
 unfold grp;cases grp r with
 | nil=>exact⟨_,_,rfl⟩
 | cons x q=>simp only;split<;>exact⟨_,_,rfl⟩
theorem BF{l:List Int}(h:l≠[]):grp l≠[]:=by
 cases l with
 | nil=>exact absurd rfl h
 | cons t r=>obtain⟨n,q,e⟩:=oK t r;rw [e];simp
theorem sm(l:List Int)(t:Int):grp (l++[t])=if l.getLast?=some t then bump (grp l) else grp l++[(t,1)]:=by
 induction l with
 | nil=>simp [grp]
 | cons a r ih=>
  cases r with
  | nil=>
   by_cases h:a=t
   ·simp [grp,bump,h]
   ·simp [grp,h]
  | cons b s=>
   have f:(a::b::s).getLast?=(b::s).getLast?:=by simp [List.getLast?_cons_cons]
   rw [f];obtain⟨n,q,e⟩:=oK b s;have i:a::b::s++[t]=a::(b::s++[t]):=rfl;have j:grp (a::b::s)=if a=b then (a,n+1)::q else (a,1)::(b,n)::q:=by
    conv=>lhs;rw [grp,e]
   rw [i,grp,ih,j,e];by_cases d:(b::s).getLast?=some t
   ·rw [if_pos d,if_pos d];by_cases c:a=b
    ·rw [if_pos c];cases q with
     | nil=>simp [bump,c]
     | cons x q=>simp [bump,c]
    ·rw [if_neg c];cases q with
     | nil=>simp [bump,c]
     | cons x q=>simp [bump,c]
   ·rw [if_neg d,if_neg d];by_cases c:a=b
    ·rw [if_pos c];simp [c]
    ·rw [if_neg c];simp [c]
theorem x9(l:List Int):(grp l).getLast?.map (·.1)=l.getLast?:=by
 induction l with
 | nil=>rfl
 | cons a r ih=>
  cases r with
  | nil=>rfl
  | cons b s=>
   obtain⟨n,q,e⟩:=oK b s;rw [grp,e];rw [e]at ih;rw [List.getLast?_cons_cons];simp only;split
   ·rename_i h
    rw [<-ih];cases q with
    | nil=>simp [h]
    | cons x q=>simp [List.getLast?_cons_cons]
   ·rw [<-ih];simp [List.getLast?_cons_cons]
theorem lN(l:List Int):(grp l).length<=l.length:=by
 induction l with
 | nil=>simp [grp]
 | cons a r ih=>
  unfold grp;cases h:grp r with
  | nil=>simp
  | cons x q=>
   rw [h]at ih;simp only;split
   ·simp at ih ⊢;omega
   ·simpa using ih
theorem mI(l:List Int):∀ x∈grp l,x.1∈l/\1<=x.2/\x.2<=l.length:=by
 induction l with
 | nil=>simp [grp]
 | cons a r ih=>
  unfold grp;cases h:grp r with
  | nil=>simp;omega
  | cons x q=>
   rw [h]at ih;have hx:=ih x (by simp);simp only;split
   ·rename_i e
    intro y b;rcases List.mem_cons.1 b with rfl | b
    ·simp;omega
    ·have:=ih y (by simp [b]);simp;exact⟨Or.inr this.1,this.2.1,by omega⟩
   ·intro y b;rcases List.mem_cons.1 b with rfl | b
    ·simp;omega
    ·have:=ih y b;simp;exact⟨Or.inr this.1,this.2.1,by omega⟩
def wordS(t n:Int):List UInt8:=if n=1 then Lib.itoa t else Lib.itoa t++[42]++Lib.itoa n
def printS(l:List Int):List UInt8:=Lib.join ((grp l).map fun x=>wordS x.1 x.2) [32]
end
section
open Go.RowKit
attribute [local go_sem] Go.World.cell?_alloc_some
def byt(s:ByteArray):List Nat:=s.data.toList.map UInt8.toNat
def ScAt(w:World)(b:Nat)(s:ByteArray)(a:Nat):Prop:=w.heap[b]?=some (.cells #[.string s,.int .i64 a] 184 (0,0))
theorem qv(m:Int)(w:World)(h0: -1000<=m)(h1:m<=1000):Calls Tryz.prog 188 #[.int .i64 m] w fun e w'=>e= .returned (.bool (beginsB m))/\w'=w:=by
 by_cases a:0<m
 ·by_cases b:10*m<63
  ·have HB:Hid (beginsB m=true):=by unfold Hid;simp [beginsB,a,b]
   go_enter Tryz.func188,Tryz.ntmps188
   go_wp2
   go_ret;exact⟨by rw [HB.out];rfl,rfl⟩
  ·have HB:Hid (beginsB m=false):=by unfold Hid;simp [beginsB,a,b]
   go_enter Tryz.func188,Tryz.ntmps188
   go_wp2
   go_ret;exact⟨by rw [HB.out];rfl,rfl⟩
 ·have HB:Hid (beginsB m=false):=by unfold Hid;simp [beginsB,a]
  go_enter Tryz.func188,Tryz.ntmps188
  go_wp2
  go_ret;exact⟨by rw [HB.out];rfl,rfl⟩
theorem qR(n d last:Int)(w:World)(h0: -1<=n)(h1:n<=63)(h2:0<=d)(h3:d<=9):Calls Tryz.prog 177 #[.int .i64 n,.int .i64 d,.int .i64 last] w fun e w'=>e= .returned (.bool (growsB n d last))/\w'=w:=by
 by_cases hn:n<0
 ·have b:max n 0=0:=by omega
  have a:Hid (growsB n d last=(!(n==0) && ((decide (d<=63) && !(d==last)) || beginsB d))):=by
   unfold Hid growsB;rw [b];simp
  go_enter Tryz.func177,Tryz.ntmps177
  go_wp2_with (go_at_call 188;refine(qv _ _ (by omega) (by omega)).mono ?_;rintro e w' ⟨rfl,rfl⟩)
  all_goals (go_ret;refine⟨?_,rfl⟩;rw [a.out];simp [*]<;>omega)
 ·have b:max n 0=n:=by omega
  have a:Hid (growsB n d last=(!(n==0) && ((decide (n*10+d<=63) && !(n*10+d==last)) || beginsB (n*10+d)))):=by
   unfold Hid growsB;rw [b]
  go_enter Tryz.func177,Tryz.ntmps177
  go_wp2_with (go_at_call 188;refine(qv _ _ (by omega) (by omega)).mono ?_;rintro e w' ⟨rfl,rfl⟩)
  all_goals (go_ret;refine⟨?_,rfl⟩;rw [a.out];simp [*]<;>omega)
theorem iL(s:ByteArray):(byt s).length=s.size:=by simp [byt]
theorem jU(s:ByteArray)(a:Nat)(h:a<s.size):(byt s)[a]?=some s[a].toNat:=by
 have:a<s.data.toList.length:=by simpa using h
 rw [byt,List.getElem?_map,List.getElem?_eq_getElem this];rfl
theorem uI(s:ByteArray)(a:Nat)(h:s.size<=a):(byt s)[a]?=none:=by
 rw [List.getElem?_eq_none_iff,iL];exact h
theorem qJ(s:ByteArray)(c:Nat)(h:c∈byt s):c<256:=by
 simp only [byt,List.mem_map]at h;obtain⟨x,_,rfl⟩:=h;exact x.toNat_lt
def digV(c:Option Nat):Value:=match c with
 | some c=>if isD c=true then .tuple #[.int .i64 ((c:Int) - 48),.bool true] else .tuple #[.int .i64 0,.bool false]
 | none=> .tuple #[.int .i64 0,.bool false]
theorem uO(s:ByteArray)(b a:Nat)(w:World)(h:ScAt w b s a)(ha:a<=s.size):
  Calls Tryz.prog 176 #[pt b] w fun e w'=>Like w' w/\e= .returned (digV (byt s)[a]?):=by
 have c0:w.cell? ⟨b,0,none⟩=some (.string s):=by unfold ScAt at h;simp [World.cell?,h]
 have c1:w.cell? ⟨b,1,none⟩=some (.int .i64 a):=by unfold ScAt at h;simp [World.cell?,h]
 clear h;unfold pt;by_cases i:a<s.size
 ·have h1:(a:Int)<s.size:=by omega
  have f:((a:Int)==(s.size:Int))=false:=by simp;omega
  have hb:=s[a].toNat_lt;have d:=ij (jU s a i);by_cases h48:s[a].toNat<48
  ·have g1:((s[a].toNat:Nat):Int)<48:=by omega
   have c:Hid (isD s[a].toNat=false):=by unfold Hid;simp [isD];omega
   go_enter Tryz.func176,Tryz.ntmps176
   go_wp2
   go_quiet (fail)
   go_wp2
   refine bodyPost_ret (v:= .tuple #[.int .i64 0,.bool false]) (by simp [results,Tryz.results176,go_sem]) rfl ?_;refine⟨jb (iT _) _,?_⟩;rw [d.out];simp [digV,c.out]
  ·have g1:¬((s[a].toNat:Nat):Int)<48:=by omega
   by_cases h57:s[a].toNat<=57
   ·have g2:((s[a].toNat:Nat):Int)<=57:=by omega
    have c:Hid (isD s[a].toNat=true):=by unfold Hid;simp [isD];omega
    go_enter Tryz.func176,Tryz.ntmps176
    go_wp2
    go_quiet (fail)
    go_wp2
    go_quiet (fail)
    go_wp2
    refine bodyPost_ret (v:= .tuple #[.int .i64 (((s[a].toNat:Nat):Int) - 48),.bool true]) (by simp [results,Tryz.results176,go_sem]) rfl ?_;refine⟨jb (jb (iT _) _) _,?_⟩;rw [d.out];simp [digV,c.out]
   ·have g2:57<((s[a].toNat:Nat):Int):=by omega
    have c:Hid (isD s[a].toNat=false):=by unfold Hid;simp [isD];omega
    go_enter Tryz.func176,Tryz.ntmps176
    go_wp2
    go_quiet (fail)
    go_wp2
    refine bodyPost_ret (v:= .tuple #[.int .i64 0,.bool false]) (by simp [results,Tryz.results176,go_sem]) rfl ?_;refine⟨jb (iT _) _,?_⟩;rw [d.out];simp [digV,c.out]
 ·have f:((a:Int)==(s.size:Int))=true:=by simp;omega
  have d:=ij (uI s a (by omega));go_enter Tryz.func176,Tryz.ntmps176
  go_wp2
  go_quiet (fail)
  go_wp2
  refine bodyPost_ret (v:= .tuple #[.int .i64 0,.bool false]) (by simp [results,Tryz.results176,go_sem]) rfl ?_;refine⟨jb (iT _) _,?_⟩;rw [d.out];simp [digV]
theorem ScAt.c0{w:World}{b:Nat}{s:ByteArray}{a:Nat}(h:ScAt w b s a):w.cell? ⟨b,0,none⟩=some (.string s):=by unfold ScAt at h;simp [World.cell?,h]
theorem ScAt.c1{w:World}{b:Nat}{s:ByteArray}{a:Nat}(h:ScAt w b s a):w.cell? ⟨b,1,none⟩=some (.int .i64 a):=by unfold ScAt at h;simp [World.cell?,h]
theorem ScAt.f1{w:World}{b:Nat}{s:ByteArray}{a:Nat}(h:ScAt w b s a):w.frozen? ⟨b,1,none⟩=false:=by unfold ScAt at h;simp [World.frozen?,h]
theorem ScAt.set{w:World}{b:Nat}{s:ByteArray}{a:Nat}(h:ScAt w b s a)(x:Nat):ScAt (w.setCell ⟨b,1,none⟩ (.int .i64 x)) b s x:=by
 unfold ScAt at*;rw [heap_setCell_same w b 1 _ _ _ h];rfl
theorem ScAt.like{w w':World}{b:Nat}{s:ByteArray}{a:Nat}(h:ScAt w b s a)(c:Like w' w):ScAt w' b s a:=by
 unfold ScAt at*;rw [c.1];exact h
theorem ScAt.lt{w:World}{b:Nat}{s:ByteArray}{a:Nat}(h:ScAt w b s a):b<w.heap.size:=(Array.getElem?_eq_some_iff.1 h).1
def hitB(s:ByteArray)(a c:Nat):Bool:=(byt s)[a]?==some c
def skAt(s:ByteArray)(a c:Nat):Nat:=if hitB s a c=true then a+1 else a
theorem rJ(s:ByteArray)(b a c:Nat)(w:World)(h:ScAt w b s a)(ha:a<=s.size)(hs:s.size<=9223372036854775806):
  Calls Tryz.prog 100 #[pt b,.int .u8 c] w fun e w'=>w.grownBy w' (some b)/\e= .returned (.bool (hitB s a c))/\ScAt w' b s (skAt s a c):=by
 have c0:=h.c0;have c1:=h.c1;have f1:=h.f1;have d:=ij h;clear h;unfold pt;by_cases f:a<s.size
 ·have h1:(a:Int)<s.size:=by omega
  have i:((a:Int)==(s.size:Int))=false:=by simp;omega
  by_cases hc:s[a].toNat=c
  ·have HB:Hid (hitB s a c=true):=by unfold Hid hitB;rw [jU s a f,hc];simp
   have g1:((s[a].toNat:Nat):Int)=(c:Int):=by omega
   have hsz:(a:Int)+1<=9223372036854775807:=by omega
   go_enter Tryz.func100,Tryz.ntmps100
   go_wp2
   go_quiet (fail)
   go_wp2
   go_ret;refine⟨?_,by rw [HB.out];rfl,?_⟩
   ·exact iO _ iM
   ·rw [skAt,HB.out,if_pos rfl];have:=(d.out.like (jb (iT _) nq)).set (a+1);simpa using this
  ·have HB:Hid (hitB s a c=false):=by unfold Hid hitB;rw [jU s a f];simpa using hc
   have g1:((s[a].toNat:Nat):Int)≠(c:Int):=by omega
   go_enter Tryz.func100,Tryz.ntmps100
   go_wp2
   go_quiet (fail)
   go_wp2
   go_ret;refine⟨iO _ (ir _ _),by rw [HB.out];rfl,?_⟩;rw [skAt,HB.out,if_neg (by simp)];exact d.out.like (jb (iT _) _)
 ·have i:((a:Int)==(s.size:Int))=true:=by simp;omega
  have HB:Hid (hitB s a c=false):=by unfold Hid hitB;rw [uI s a (by omega)];simp
  go_enter Tryz.func100,Tryz.ntmps100
  go_wp2
  go_quiet (fail)
  go_wp2
  go_ret;refine⟨iO _ (ir _ _),by rw [HB.out];rfl,?_⟩;rw [skAt,HB.out,if_neg (by simp)];exact d.out.like (jb (iT _) _)
def atOf(w:World)(b:Nat):Nat:=match w.cell? ⟨b,1,none⟩with
 | some (.int _ x)=>x.toNat
 | _=>0
theorem jI{w:World}{b:Nat}{s:ByteArray}{a:Nat}(h:ScAt w b s a):atOf w b=a:=by simp [atOf,h.c1]
theorem kD{l:List Nat}{a c:Nat}(h:l[a]?=some c):l.drop a=c::l.drop (a+1):=by
 obtain⟨b,rfl⟩:=List.getElem?_eq_some_iff.1 h;exact List.drop_eq_getElem_cons b
theorem jt{l:List Nat}{a c:Nat}(h:l[a]?=some c):a<l.length:=(List.getElem?_eq_some_iff.1 h).1
structure ThrIn(w:World)(b:Nat)(s:ByteArray)(last:Int)(a:Nat)(n':Int)(a':Nat)(w':World):Prop where
 grown:w.grownBy w' (some b)
 sc:ScAt w' b s a'
 le:a'<=s.size
 lo: -1<=n'
 hi:n'<=63
 num:(thr last n' ((byt s).drop a')).1=(thr last (-1) ((byt s).drop a)).1
 len:a'+(thr last n' ((byt s).drop a')).2=a+(thr last (-1) ((byt s).drop a)).2
theorem vW{n d last:Int}(h:growsB n d last=true):max n 0*10+d<=63:=by
 simp only [growsB,beginsB,Bool.and_eq_true,Bool.or_eq_true,decide_eq_true_eq]at h;omega
theorem zr{last n:Int}{c:Nat}{l:List Nat}(a:isD c=true)(b:growsB n ((c:Int) - 48) last=true):thr last n (c::l)=((thr last (nxt n c) l).1,(thr last (nxt n c) l).2+1):=by
 rw [thr,if_pos (by rw [a,b];rfl)]
theorem tt{last n:Int}{c:Nat}{l:List Nat}(h:(isD c && growsB n ((c:Int) - 48) last)=false):thr last n (c::l)=(n,0):=by
 rw [thr,if_neg (by rw [h];simp)]
theorem zt(s:ByteArray)(b a:Nat)(last:Int)(w:World)(h:ScAt w b s a)(K:a<=s.size)(hs:s.size<=9223372036854775806):
  Calls Tryz.prog 142 #[pt b,.int .i64 last] w fun e w'=>w.grownBy w' (some b)/\
   e= .returned (.tuple #[.int .i64 (thr last (-1) ((byt s).drop a)).1,.bool (thrOk last (thr last (-1) ((byt s).drop a)).1)])/\ScAt w' b s (a+(thr last (-1) ((byt s).drop a)).2)/\ -1<=(thr last (-1) ((byt s).drop a)).1/\(thr last (-1) ((byt s).drop a)).1<=63:=by
 have H:Hid (ThrIn w b s last a (-1) a w):=⟨ir _ _,h,K,by omega,by omega,rfl,rfl⟩;clear h;unfold pt;go_enter Tryz.func142,Tryz.ntmps142
 go_wp2_with fail
 go_loopw [6] (fun i w'=>∃ (n':Int) (d:Nat),i= .int .i64 n'/\Hid (ThrIn w b s last a n' d w')) (fun _ w'=>s.size - atOf w' b)
 case atStart=>exact⟨-1,a,rfl,H.out⟩
 case round=>
  obtain⟨n',d,rfl,f⟩:=hrel;have n:=f.out.lo;have m:=f.out.hi;have I:Hid (atOf wr b=d):=jI f.out.sc;go_wp2_with fail
  refine(uO s b d _ f.out.sc f.out.le).mono ?_;rintro e x ⟨B,rfl⟩;have k:Hid (ThrIn w b s last a n' d x):=⟨iR f.out.grown B,f.out.sc.like B,f.out.le,n,m,f.out.num,f.out.len⟩;have fin:∀ z,Like z x->(thr last n' ((byt s).drop d))=(n',0)->w.grownBy z (some b)/\(thr last (-1) ((byt s).drop a)).1=n'/\ScAt z b s (a+(thr last (-1) ((byt s).drop a)).2):=by
   intro z F L;have q:=k.out.num;have r:=k.out.len;rw [L]at q r;refine⟨iR k.out.grown F,q.symm,?_⟩;rw [<-r];exact k.out.sc.like F
  have A:=ij fin;clear fin B f;cases hc:(byt s)[d]? with
  | none=>
   have p:Hid (thr last n' ((byt s).drop d)=(n',0)):=by
    unfold Hid;rw [List.drop_eq_nil_of_le (List.getElem?_eq_none_iff.1 hc)];rfl
   simp only [digV];go_wp2_with fail
   all_goals
    refine bodyPost_ret (v:= .tuple #[.int .i64 n',.bool (n' != -1 && n' !=last)]) (by simp [results,Tryz.results142,go_sem, *]) rfl ?_;obtain⟨t,j,u⟩:=A.out x (iT _) p.out;exact⟨t,by rw [j];rfl,u,by rw [j];exact n,by rw [j];exact m⟩
  | some c=>
   have o:=kD hc;cases hd:isD c with
   | false=>
    have p:Hid (thr last n' ((byt s).drop d)=(n',0)):=by
     unfold Hid;rw [o];exact tt (by rw [hd];rfl)
    simp only [digV,hd,Bool.false_eq_true,if_false];clear o;go_wp2_with fail
    all_goals
     refine bodyPost_ret (v:= .tuple #[.int .i64 n',.bool (n' != -1 && n' !=last)]) (by simp [results,Tryz.results142,go_sem, *]) rfl ?_;obtain⟨t,j,u⟩:=A.out x (iT _) p.out;exact⟨t,by rw [j];rfl,u,by rw [j];exact n,by rw [j];exact m⟩
   | true=>
    have hcr:48<=c/\c<=57:=by simpa [isD]using hd
    simp only [digV,hd,if_true];have E:=jt hc;cases hg:growsB n' ((c:Int) - 48) last with
    | false=>
     have p:Hid (thr last n' ((byt s).drop d)=(n',0)):=by
      unfold Hid;rw [o];exact tt (by rw [hg];simp)
     clear o;go_wp2_with (go_at_call 177;refine(qR _ _ _ _ n m (by omega) (by omega)).mono ?_;rintro e w' ⟨rfl,rfl⟩;rw [hg])
     all_goals
      refine bodyPost_ret (v:= .tuple #[.int .i64 n',.bool (n' != -1 && n' !=last)]) (by simp [results,Tryz.results142,go_sem, *]) rfl ?_;obtain⟨t,j,u⟩:=A.out _ (iT _) p.out;exact⟨t,by rw [j];rfl,u,by rw [j];exact n,by rw [j];exact m⟩
    | true=>
     have G:=zr (l:=(byt s).drop (d+1)) hd hg;have M:=vW hg;have y:Hid (ThrIn w b s last a (nxt n' c) (d+1) (x.setCell ⟨b,1,none⟩ (.int .i64 (d+1:Nat)))):=by
      have q:=k.out.num;have r:=k.out.len;rw [o,G]at q r;exact⟨il k.out.grown iM,k.out.sc.set (d+1),by rw [iL]at E;omega,by unfold nxt;omega,M,q,by simp only at r;omega⟩
     have c1:=k.out.sc.c1;have f1:=k.out.sc.f1;rw [iL]at E;have hsz:(d:Int)+1<=9223372036854775807:=by omega
     have D:Hid (atOf wr b=d):=I.out;clear o G;by_cases hneg:n'<0
     ·have C:Hid (nxt n' c=(c:Int) - 48):=by unfold Hid nxt;omega
      go_wp2_with (go_at_call 177;refine(qR _ _ _ _ n m (by omega) (by omega)).mono ?_;rintro e w' ⟨rfl,rfl⟩;rw [hg])
      go_roundw
      case rel=>exact⟨nxt n' c,d+1,by rw [C.out],ij (by simpa using y.out)⟩
      case measure=>
       have:=jI y.out.sc;have J:=D.out;simp only [Int.natCast_add,Int.natCast_one]at this;omega
     ·have C:Hid (nxt n' c=n'*10+((c:Int) - 48)):=by unfold Hid nxt;omega
      go_wp2_with (go_at_call 177;refine(qR _ _ _ _ n m (by omega) (by omega)).mono ?_;rintro e w' ⟨rfl,rfl⟩;rw [hg])
      go_roundw
      case rel=>exact⟨nxt n' c,d+1,by rw [C.out],ij (by simpa using y.out)⟩
      case measure=>
       have:=jI y.out.sc;have J:=D.out;simp only [Int.natCast_add,Int.natCast_one]at this;omega
structure CntIn(w:World)(b:Nat)(s:ByteArray)(a:Nat)(n':Int)(a':Nat)(w':World):Prop where
 grown:w.grownBy w' (some b)
 sc:ScAt w' b s a'
 le:a'<=s.size
 lo:0<=n'
 hi:n'<=501
 num:(cnt n' ((byt s).drop a')).1=(cnt 0 ((byt s).drop a)).1
 len:a'+(cnt n' ((byt s).drop a')).2=a+(cnt 0 ((byt s).drop a)).2
theorem xH{n:Int}{c:Nat}{l:List Nat}(a:(isD c && !(n==0 && c==48))=true):cnt n (c::l)=((cnt (min (10*n+((c:Int) - 48)) 501) l).1,(cnt (min (10*n+((c:Int) - 48)) 501) l).2+1):=by
 rw [cnt,if_pos a]
theorem rV{n:Int}{c:Nat}{l:List Nat}(h:(isD c && !(n==0 && c==48))=false):cnt n (c::l)=(n,0):=by
 rw [cnt,if_neg (by rw [h];simp)]
theorem zT(s:ByteArray)(b a:Nat)(w:World)(h:ScAt w b s a)(J:a<=s.size)(hs:s.size<=9223372036854775806):
  Calls Tryz.prog 143 #[pt b] w fun e w'=>w.grownBy w' (some b)/\
   e= .returned (.int .i64 (cnt 0 ((byt s).drop a)).1)/\ScAt w' b s (a+(cnt 0 ((byt s).drop a)).2)/\0<=(cnt 0 ((byt s).drop a)).1/\(cnt 0 ((byt s).drop a)).1<=501:=by
 have H:Hid (CntIn w b s a 0 a w):=⟨ir _ _,h,J,by omega,by omega,rfl,rfl⟩;clear h;unfold pt;go_enter Tryz.func143,Tryz.ntmps143
 go_wp2_with fail
 go_loopw [3] (fun i w'=>∃ (n':Int) (d:Nat),i= .int .i64 n'/\Hid (CntIn w b s a n' d w')) (fun _ w'=>s.size - atOf w' b)
 case atStart=>exact⟨0,a,rfl,H.out⟩
 case round=>
  obtain⟨n',d,rfl,j⟩:=hrel;have z:=j.out.lo;have y:=j.out.hi;have x:Hid (atOf wr b=d):=jI j.out.sc;go_wp2_with fail
  refine(uO s b d _ j.out.sc j.out.le).mono ?_;rintro e A ⟨D,rfl⟩;have m:Hid (CntIn w b s a n' d A):=⟨iR j.out.grown D,j.out.sc.like D,j.out.le,z,y,j.out.num,j.out.len⟩;have fin:(cnt n' ((byt s).drop d))=(n',0)->w.grownBy A (some b)/\(cnt 0 ((byt s).drop a)).1=n'/\ScAt A b s (a+(cnt 0 ((byt s).drop a)).2):=by
   intro K;have r:=m.out.num;have t:=m.out.len;rw [K]at r t;refine⟨m.out.grown,r.symm,?_⟩;rw [<-t];exact m.out.sc
  have B:=ij fin;clear fin D j;cases hc:(byt s)[d]? with
  | none=>
   have q:Hid (cnt n' ((byt s).drop d)=(n',0)):=by
    unfold Hid;rw [List.drop_eq_nil_of_le (List.getElem?_eq_none_iff.1 hc)];rfl
   simp only [digV];go_wp2_with fail
   go_ret;obtain⟨u,k,v⟩:=B.out q.out;exact⟨u,by rw [k];rfl,v,by rw [k];exact z,by rw [k];exact y⟩
  | some c=>
   have p:=kD hc;have I:=jt hc;rw [iL]at I;cases hd:isD c with
   | false=>
    have q:Hid (cnt n' ((byt s).drop d)=(n',0)):=by
     unfold Hid;rw [p];exact rV (by rw [hd];rfl)
    simp only [digV,hd,Bool.false_eq_true,if_false];clear p;go_wp2_with fail
    go_ret;obtain⟨u,k,v⟩:=B.out q.out;exact⟨u,by rw [k];rfl,v,by rw [k];exact z,by rw [k];exact y⟩
   | true=>
    have hcr:48<=c/\c<=57:=by simpa [isD]using hd
    simp only [digV,hd,if_true];by_cases G:n'=0/\c=48
    ·obtain⟨rfl,rfl⟩:=G;have q:Hid (cnt 0 ((byt s).drop d)=(0,0)):=by
      unfold Hid;rw [p];exact rV rfl
     clear p;go_wp2_with fail
     go_ret;obtain⟨u,k,v⟩:=B.out q.out;exact⟨u,by rw [k];rfl,v,by rw [k];exact z,by rw [k];exact y⟩
    ·have F:=xH (n:=n') (l:=(byt s).drop (d+1)) (show (isD c && !(n'==0 && c==48))=true by
      rw [hd];simp;omega)
     have f:Hid (CntIn w b s a (min (10*n'+((c:Int) - 48)) 501) (d+1) (A.setCell ⟨b,1,none⟩ (.int .i64 (d+1:Nat)))):=by
      have r:=m.out.num;have t:=m.out.len;rw [p,F]at r t;exact⟨il m.out.grown iM,m.out.sc.set (d+1),by omega,by omega,by omega,r,by simp only at t;omega⟩
     have c1:=m.out.sc.c1;have f1:=m.out.sc.f1;have hsz:(d:Int)+1<=9223372036854775807:=by omega
     clear p F;have E:n'=0->((c:Int) - 48==0)=false:=fun h=>by simp;omega
     clear G;cases hq:(n'==0)with
     | true=>
      have hq3:=E (by simpa using hq);clear E;by_cases L:501<10*n'+((c:Int) - 48)
      ·have o:Hid (min (10*n'+((c:Int) - 48)) 501=501):=by unfold Hid;omega
       go_wp2_with fail
       all_goals
        go_roundw
        case rel=>exact⟨_,d+1,rfl,ij (by rw [o.out]at f;simpa using f.out)⟩
        case measure=>
         have:=jI f.out.sc;have C:=x.out;simp only [Int.natCast_add,Int.natCast_one]at this;omega
      ·have o:Hid (min (10*n'+((c:Int) - 48)) 501=10*n'+((c:Int) - 48)):=by unfold Hid;omega
       go_wp2_with fail
       all_goals
        go_roundw
        case rel=>exact⟨_,d+1,rfl,ij (by rw [o.out]at f;simpa using f.out)⟩
        case measure=>
         have:=jI f.out.sc;have C:=x.out;simp only [Int.natCast_add,Int.natCast_one]at this;omega
     | false=>
      clear E;by_cases L:501<10*n'+((c:Int) - 48)
      ·have o:Hid (min (10*n'+((c:Int) - 48)) 501=501):=by unfold Hid;omega
       go_wp2_with fail
       all_goals
        go_roundw
        case rel=>exact⟨_,d+1,rfl,ij (by rw [o.out]at f;simpa using f.out)⟩
        case measure=>
         have:=jI f.out.sc;have C:=x.out;simp only [Int.natCast_add,Int.natCast_one]at this;omega
      ·have o:Hid (min (10*n'+((c:Int) - 48)) 501=10*n'+((c:Int) - 48)):=by unfold Hid;omega
       go_wp2_with fail
       all_goals
        go_roundw
        case rel=>exact⟨_,d+1,rfl,ij (by rw [o.out]at f;simpa using f.out)⟩
        case measure=>
         have:=jI f.out.sc;have C:=x.out;simp only [Int.natCast_add,Int.natCast_one]at this;omega
end
end Go.Proofs.YtklenjmfalljgabGreatDoor
