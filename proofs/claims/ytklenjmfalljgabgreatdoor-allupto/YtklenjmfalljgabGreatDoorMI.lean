/- The texts TxtP TxtQ TxtR TxtW Crc BytP BytQ Wqa Wqb Wqc Scn Scn2 Scn3. -/
import Derived.Test.YtklenjmfalljgabGreatDoorMH
import Derived.RowKit
import Derived.Lib.ItoaNum
import Derived.Lib.Join
import Derived.WalkSpells
import Derived.WalkLawsBesides
import Derived.Deep.Light
namespace Go.Proofs.YtklenjmfalljgabGreatDoor
set_option maxRecDepth 100000
set_option maxHeartbeats 8000000
section
def isD(b:Nat):Bool:=decide(48<=b)&& decide(b<=57)
def nxt(n:Int)(b:Nat):Int:=max n 0*10+((b:Int) - 48)
def kE(m:Int):Bool:=decide(0<m)&& decide(10*m<63)
def lI(n d last:Int):Bool:=
 !(n==0)&&((decide(max n 0*10+d<=63)&& !(max n 0*10+d==last)) || kE(max n 0*10+d))
def thr(last:Int):Int->List Nat->Int × Nat
 | n, []=>(n,0)
 | n,b::r=>if(isD b && lI n((b:Int) - 48)last)=true then((thr last(nxt n b)r).1,(thr last(nxt n b)r).2+1)else(n,0)
def cnt:Int->List Nat->Int × Nat
 | n, []=>(n,0)
 | n,b::r=>if(isD b && !(n==0 && b==48))=true then((cnt(min(10*n+((b:Int) - 48))501)r).1,(cnt(min(10*n+((b:Int) - 48))501)r).2+1)else(n,0)
structure Gy where
 thread:Int
 count:Int
 ok:Bool
 len:Nat
def lH(last n:Int):Bool:= !(n== -1)&& !(n==last)
def jE(last:Int)(l:List Nat):Gy:=
 if(lH last(thr last(-1)l).1 &&(l[(thr last(-1)l).2]?==some 42))=true then
  ⟨(thr last(-1)l).1,(cnt 0(l.drop((thr last(-1)l).2+1))).1,decide(1<(cnt 0(l.drop((thr last(-1)l).2+1))).1),(thr last(-1)l).2+1+(cnt 0(l.drop((thr last(-1)l).2+1))).2⟩
 else⟨(thr last(-1)l).1,1,lH last(thr last(-1)l).1,(thr last(-1)l).2⟩
structure AO where
 out:List Int
 at_:Nat
 ok:Bool
def mx(sch:List Int)(total' count thread:Int):List Int:=if total'<501 then sch++List.replicate count.toNat thread else sch
def mA:Nat->List Int->Int->Int->Nat->List Nat->AO
 | 0,_,_,_,_,_=>⟨[],0,false⟩
 | f+1,sch,last,total,at_,l=>
  if(jE last l).ok=true then
   match l.drop(jE last l).len with
   | []=>if min(total+(jE last l).count)501=501 then⟨[],0,false⟩else⟨mx sch(min(total+(jE last l).count)501)(jE last l).count(jE last l).thread,0,true⟩
   | b::rest=>if b=32 then mA f(mx sch(min(total+(jE last l).count)501)(jE last l).count(jE last l).thread)(jE last l).thread(min(total+(jE last l).count)501)(at_+(jE last l).len+1)rest
     else⟨[],at_+(jE last l).len,false⟩
  else⟨[],at_+(jE last l).len,false⟩
def jJ(l:List Nat):AO:=if l= []then⟨[],0,true⟩else mA(l.length+1) [](-1)0 0 l
def iY:List Nat->List(List Nat)
 | []=> [[]]
 | b::r=>if b=32 then []::iY r else(b::(iY r).headD [])::(iY r).tail
def jj(l:List Nat):List Nat:=l.takeWhile(· !=42)
def na(l:List Nat):List Nat:=(l.dropWhile(· !=42)).drop 1
def lG(l:List Nat):Bool:=l.any(· ==42)
def iZ(l:List Nat):Bool:=l.all isD &&((l== [48]) || (!(l== [])&& !(l.head?==some 48)))
def iB:Int->List Nat->Int
 | n, []=>min n 1000
 | n,b::r=>if n<1000 then iB(10*n+(((b+208) % 256:Nat):Int))r else min n 1000
def kT(l:List Nat)(ahead:Int):Option(Int × Int):=
 if(!iZ(jj l) || decide(63<iB 0(jj l)) || (iB 0(jj l)==ahead))=true then none
 else if(lG l &&(!iZ(na l) || decide(iB 0(na l)<2)))=true then none
 else if lG l=true then some(iB 0(jj l),iB 0(na l))else some(iB 0(jj l),1)
def jc(l:List Nat)(ahead:Int):Bool:=
 if l= []then true
 else if(!iZ(jj l) || decide(63<iB 0(jj l)))=true then false
 else if lG l=true then !(iB 0(jj l)==ahead)&&((na l== []) || (iZ(na l)&& !(na l== [48])))
 else !(iB 0(jj l)==ahead) || (decide(1<=iB 0(jj l))&& decide(iB 0(jj l)<=6))
def lN(out:List Int)(t n:Int):List Int:=out++List.replicate(min n.toNat(501 - out.length))t
def jg:List(List Nat)->Int->List Int->Option(List Int × Int)
 | [],ahead,out=>some(out,ahead)
 | q::qs,ahead,out=>match kT q ahead with
  | none=>none
  | some(t,n)=>jg qs t(lN out t n)
def m7(ahead:Int)(l:List Nat):Bool:=
 match jg(iY l).dropLast ahead []with
 | none=>false
 | some(_,a)=>jc((iY l).getLastD [])a
def kU(l:List Nat):Nat->Nat
 | 0=>0
 | k+1=>if m7(-1)(l.take(k+1))=true then k+1 else kU l k
def lK(l:List Nat):AO:=
 if l= []then⟨[],0,true⟩
 else match jg(iY l)(-1) []with
  | some(o,_)=>if 500<o.length then⟨[],0,false⟩else⟨o,0,true⟩
  | none=>⟨[],kU l l.length,false⟩
theorem E4(n:Int)(l:List Nat):(cnt n l).2<=l.length:=by
 induction l generalizing n with
 | nil=>simp [cnt]
 | cons b r ih=>unfold cnt;split
          ·simpa using ih _
          ·simp
theorem sU(n:Int)(hn:0<n)(l:List Nat)(k:Nat)(hk:k<=l.length):(l.take k).all isD=decide(k<=(cnt n l).2):=by
 induction l generalizing n k with
 | nil=>simp at hk;subst hk;simp [cnt]
 | cons b r ih=>
  cases k with
  | zero=>simp
  | succ k=>
   unfold cnt;cases hd:isD b
   ·simp [hd]
   ·have h0:(n==0)=false:=by simp;omega
    simp only [List.take_succ_cons,List.all_cons,hd,Bool.true_and,h0,Bool.false_and,Bool.not_false,if_true];have hb:48<=b/\b<=57:=by simpa [isD]using hd
    rw [ih(min(10*n+((b:Int) - 48))501)(by omega)k(by simpa using hk)];simp
theorem BQ(n m:Int)(hn:0<n)(hm:n=min m 501)(l:List Nat)(h:l.all isD=true):(cnt n l).1=min(iB m l)501:=by
 induction l generalizing n m with
 | nil=>simp [cnt,iB];omega
 | cons b r ih=>
  simp only [List.all_cons,Bool.and_eq_true]at h;have hb:48<=b/\b<=57:=by simpa [isD]using h.1
  unfold cnt iB;have h0:(n==0)=false:=by simp;omega
  simp only [h.1,h0,Bool.true_and,Bool.false_and,Bool.not_false,if_true];have e:(((b+208) % 256:Nat):Int)=(b:Int) - 48:=by omega
  rw [e];split
  ·exact ih _ _(by omega)(by omega)h.2
  ·have:∀ (x:Int)(l:List Nat),x=501->l.all isD=true->(cnt x l).1=501:=by
    intro x l hx hl;induction l generalizing x with
    | nil=>simp [cnt,hx]
    | cons c s ih2=>
     simp only [List.all_cons,Bool.and_eq_true]at hl;have hc:48<=c/\c<=57:=by simpa [isD]using hl.1
     unfold cnt;have h0:(x==0)=false:=by simp;omega
     simp only [hl.1,h0,Bool.true_and,Bool.false_and,Bool.not_false,if_true];exact ih2 _(by omega)hl.2
   rw [this _ r(by omega)h.2];omega
theorem pR(l:List Nat)(k:Nat)(hk:k<=l.length):((l.take k== []) || (iZ(l.take k)&& !(l.take k== [48])))=decide(k<=(cnt 0 l).2):=by
 cases l with
 | nil=>simp at hk;subst hk;simp [cnt]
 | cons b r=>
  cases k with
  | zero=>simp
  | succ k=>
   unfold cnt iZ;cases hd:isD b
   ·simp [hd]
   ·have hb:48<=b/\b<=57:=by simpa [isD]using hd
    by_cases aa:b=48
    ·subst aa;simp [hd]
    ·have e1:((b::r.take k)== [48])=false:=by
      cases r.take k<;>simp [aa]
     have e2:(b==48)=false:=by simpa using aa
     simp only [List.take_succ_cons,List.all_cons,hd,Bool.true_and,e1,Bool.false_or,List.head?_cons,e2,Bool.and_false,Bool.not_false,if_true,Bool.and_true];rw [sU(min(10*0+((b:Int) - 48))501)(by omega)r k(by simpa using hk)];have e3:(some b==some 48)=false:=by simpa using aa
     simp [aa]
theorem uH(l:List Nat)(h:(cnt 0 l).2=l.length):(cnt 0 l).1=min(iB 0 l)501:=by
 cases l with
 | nil=>simp [cnt,iB];omega
 | cons b r=>
  unfold cnt at h ⊢;split at h
  ·rename_i hc
   simp only [hc,if_true];simp only [Bool.and_eq_true,Bool.not_eq_true']at hc;have hb:48<=b/\b<=57:=by simpa [isD]using hc.1
   have h48:b≠48:=by
    intro e;have:=hc.2;simp [e]at this
   unfold iB;simp only [show(0:Int)<1000 by decide,if_true];have e:(((b+208) % 256:Nat):Int)=(b:Int) - 48:=by omega
   rw [e];have aa:(cnt(min(10*0+((b:Int) - 48))501)r).2=r.length:=by simpa using h
   refine BQ _ _(by omega)(by omega)r ?_;have:=sU(min(10*0+((b:Int) - 48))501)(by omega)r r.length(Nat.le_refl _);rw [List.take_length,aa]at this;simpa using this
  ·simp at h
theorem zw(last:Int)(l:List Nat):thr last(-1)l=match l with
  | []=>(-1,0)
  | b::r=>if isD b=true/\(((b:Int) - 48≠last)\/(49<=b/\b<=54))then
    (match r with
    | []=>((b:Int) - 48,1)
    | c::_=>if isD c=true/\b≠48/\((b:Int) - 48)*10+((c:Int) - 48)<=63/\((b:Int) - 48)*10+((c:Int) - 48)≠last then(((b:Int) - 48)*10+((c:Int) - 48),2)else((b:Int) - 48,1))
   else(-1,0):=by
 have ab:∀ (n:Int)(r:List Nat),10<=n->thr last n r=(n,0):=by
  intro n r hn;cases r with
  | nil=>rfl
  | cons c s=>
   unfold thr;rw [if_neg];simp only [isD,lI,kE,Bool.and_eq_true,Bool.or_eq_true,decide_eq_true_eq,Bool.not_eq_true',beq_eq_false_iff_ne];omega
 have aa:∀ (b:Nat)(r:List Nat),48<=b->b<=57->thr last((b:Int) - 48)r=match r with
   | []=>((b:Int) - 48,0)
   | c::_=>if isD c=true/\b≠48/\((b:Int) - 48)*10+((c:Int) - 48)<=63/\((b:Int) - 48)*10+((c:Int) - 48)≠last then(((b:Int) - 48)*10+((c:Int) - 48),1)else((b:Int) - 48,0):=by
  intro b r h1 h2;cases r with
  | nil=>rfl
  | cons c s=>
   unfold thr;simp only;by_cases hc:isD c=true/\b≠48/\((b:Int) - 48)*10+((c:Int) - 48)<=63/\((b:Int) - 48)*10+((c:Int) - 48)≠last
   ·have hd:48<=c/\c<=57:=by simpa [isD]using hc.1
    rw [if_pos hc,if_pos]
    ·have e:nxt((b:Int) - 48)c=((b:Int) - 48)*10+((c:Int) - 48):=by unfold nxt;rw [Int.max_eq_left(by omega)]
     rw [e,ab _ s(by omega)]
    ·simp only [lI,kE,hc.1,Bool.true_and,Bool.and_eq_true,Bool.or_eq_true,decide_eq_true_eq,Bool.not_eq_true',beq_eq_false_iff_ne];rw [Int.max_eq_left(by omega)];omega
   ·rw [if_neg hc,if_neg];intro h;apply hc;simp only [lI,kE,Bool.and_eq_true,Bool.or_eq_true,decide_eq_true_eq,Bool.not_eq_true',beq_eq_false_iff_ne]at h;rw [Int.max_eq_left(by omega)]at h;obtain⟨ha,hb,ac⟩:=h;have hd:48<=c/\c<=57:=by simpa [isD]using ha
    exact⟨ha,by omega,by omega,by omega⟩
 cases l with
 | nil=>rfl
 | cons b r=>
  unfold thr;simp only;by_cases hb:isD b=true/\(((b:Int) - 48≠last)\/(49<=b/\b<=54))
  ·have hd:48<=b/\b<=57:=by simpa [isD]using hb.1
   rw [if_pos hb,if_pos]
   ·have e:nxt(-1)b=(b:Int) - 48:=by unfold nxt;rw [Int.max_eq_right(by omega)];omega
    rw [e,aa b r hd.1 hd.2];cases r with
    | nil=>rfl
    | cons c s=>simp only;split<;>rfl
   ·simp only [lI,kE,hb.1,Bool.true_and,Bool.and_eq_true,Bool.or_eq_true,decide_eq_true_eq,Bool.not_eq_true',beq_eq_false_iff_ne];rw [Int.max_eq_right(by omega)];omega
  ·rw [if_neg hb,if_neg];intro h;apply hb;simp only [lI,kE,Bool.and_eq_true,Bool.or_eq_true,decide_eq_true_eq,Bool.not_eq_true',beq_eq_false_iff_ne]at h;rw [Int.max_eq_right(by omega)]at h;obtain⟨ha,hc,ac⟩:=h;exact⟨ha,by omega⟩
theorem pl {b:Nat}(h:isD b=true) {n:Int}(hn:n<1000)(r:List Nat):iB n(b::r)=iB(10*n+((b:Int) - 48))r:=by
 have hb':48<=b/\b<=57:=by simpa [isD]using h
 have e1:(((b+208) % 256:Nat):Int)=(b:Int) - 48:=by omega
 rw [iB,if_pos hn,e1]
theorem uN(n:Int):iB n []=min n 1000:=rfl
theorem pz {b:Nat}(h:isD b=true):iB 0 [b]=(b:Int) - 48:=by
 have hb':48<=b/\b<=57:=by simpa [isD]using h
 rw [pl h(by omega),uN];omega
theorem od {b c:Nat}(h:isD b=true)(h2:isD c=true):iB 0 [b,c]=((b:Int) - 48)*10+((c:Int) - 48):=by
 have hb':48<=b/\b<=57:=by simpa [isD]using h
 have hc':48<=c/\c<=57:=by simpa [isD]using h2
 rw [pl h(by omega),pl h2(by omega),uN];omega
theorem BF(n:Int)(hn:64<=n)(l:List Nat):63<iB n l:=by
 induction l generalizing n with
 | nil=>unfold iB;omega
 | cons b r ih=>
  unfold iB;split
  ·exact ih _(by omega)
  ·omega
theorem mX(a:List Nat):(iZ a=true/\iB 0 a<=63)↔
  (∃ b,a= [b]/\isD b=true)\/(∃ b c,a= [b,c]/\isD b=true/\isD c=true/\b≠48/\((b:Int) - 48)*10+((c:Int) - 48)<=63):=by
 constructor
 ·rintro⟨h1,h2⟩;rcases a with _ | ⟨b,_ | ⟨c,_ | ⟨d,r⟩⟩⟩
  ·simp [iZ]at h1
  ·left;exact⟨b,rfl,by simpa [iZ]using h1⟩
  ·right
   simp [iZ]at h1;obtain⟨⟨hb,hc⟩,aa⟩:=h1;rw [od hb hc]at h2;exact⟨b,c,rfl,hb,hc,aa,h2⟩
  ·exfalso
   simp [iZ]at h1;obtain⟨⟨hb,hc,hd,_⟩,aa⟩:=h1;have ab:48<=b/\b<=57:=by simpa [isD]using hb
   have hc':48<=c/\c<=57:=by simpa [isD]using hc
   have hd':48<=d/\d<=57:=by simpa [isD]using hd
   rw [pl hb(by omega),pl hc(by omega),pl hd(by omega)]at h2;have:=BF(10*(10*(10*0+((b:Int) - 48))+((c:Int) - 48))+((d:Int) - 48))(by omega)r;omega
 ·rintro(⟨b,rfl,hb⟩ | ⟨b,c,rfl,hb,hc,aa,ac⟩)
  ·have ab:48<=b/\b<=57:=by simpa [isD]using hb
   refine⟨?_, ?_⟩
   ·by_cases h:b=48
    ·subst h;rfl
    ·simp [iZ,hb]
   ·rw [pz hb];omega
  ·exact⟨by simp [iZ,hb,hc,aa],by rw [od hb hc];exact ac⟩
end
section
theorem pD {a bb:List Nat}(ha:∀ x∈a,x≠42):jj(a++42::bb)=a/\na(a++42::bb)=bb/\lG(a++42::bb)=true:=by
 induction a with
 | nil=>simp [jj,na,lG]
 | cons x a ih=>
  have hx:x≠42:=ha x(by simp);obtain⟨h1,h2,h3⟩:=ih(fun y hy=>ha y(by simp [hy]));refine⟨?_, ?_, ?_⟩
  ·unfold jj at*;rw [List.cons_append,List.takeWhile_cons,if_pos(by simpa using hx),h1]
  ·unfold na at*;rw [List.cons_append,List.dropWhile_cons,if_pos(by simpa using hx),h2]
  ·simp [lG]
theorem px {a:List Nat}(ha:∀ x∈a,x≠42):jj a=a/\na a= []/\lG a=false:=by
 induction a with
 | nil=>simp [jj,na,lG]
 | cons x a ih=>
  have hx:x≠42:=ha x(by simp);obtain⟨h1,h2,h3⟩:=ih(fun y hy=>ha y(by simp [hy]));refine⟨?_, ?_, ?_⟩
  ·unfold jj at*;rw [List.takeWhile_cons,if_pos(by simpa using hx),h1]
  ·unfold na at*;rw [List.dropWhile_cons,if_pos(by simpa using hx),h2]
  ·unfold lG at*;rw [List.any_cons,h3];simpa using hx
theorem nz {l:List Nat}(hl:l≠ [])(last:Int)(h:¬(iZ(jj l)=true/\iB 0(jj l)<=63)):jc l last=false/\kT l last=none:=by
 have h':(!iZ(jj l) || decide(63<iB 0(jj l)))=true:=by
  cases hp:iZ(jj l)
  ·rfl
  ·simp only [Bool.not_true,Bool.false_or,decide_eq_true_eq];by_cases h2:iB 0(jj l)<=63
   ·exact absurd⟨hp,h2⟩h
   ·omega
 unfold jc kT;rw [if_neg hl,if_pos h',h',Bool.true_or,if_pos rfl];exact⟨rfl,rfl⟩
theorem rU {a bb:List Nat}(ha:∀ x∈a,x≠42)(hp:iZ a=true)(hv:iB 0 a<=63)(last:Int):
  jc(a++42::bb)last=(!(iB 0 a==last)&&((bb== []) || (iZ bb && !(bb== [48])))):=by
 obtain⟨h1,h2,h3⟩:=pD(bb:=bb)ha;unfold jc;rw [if_neg(by simp),h1,h2,h3,hp,if_neg(by simp;omega),if_pos rfl]
theorem qY {a:List Nat}(ha:∀ x∈a,x≠42)(h0:a≠ [])(hp:iZ a=true)(hv:iB 0 a<=63)(last:Int):
  jc a last=(!(iB 0 a==last) || (decide(1<=iB 0 a)&& decide(iB 0 a<=6))):=by
 obtain⟨h1,h2,h3⟩:=px ha;unfold jc;rw [if_neg h0,h1,h3,hp,if_neg(by simp;omega),if_neg(by simp)]
theorem wJ {a bb:List Nat}(ha:∀ x∈a,x≠42)(hp:iZ a=true)(hv:iB 0 a<=63)(last:Int)(hn:iB 0 a≠last):
  kT(a++42::bb)last=if(!iZ bb || decide(iB 0 bb<2))=true then none else some(iB 0 a,iB 0 bb):=by
 obtain⟨h1,h2,h3⟩:=pD(bb:=bb)ha;unfold kT;rw [h1,h2,h3,hp,if_neg(by simp;exact⟨by omega,hn⟩),Bool.true_and,if_pos rfl]
theorem qC {l:List Nat} {last:Int}(hn:iB 0(jj l)=last):kT l last=none:=by
 unfold kT;rw [if_pos];simp [hn]
theorem pp {a:List Nat}(ha:∀ x∈a,x≠42)(hp:iZ a=true)(hv:iB 0 a<=63)(last:Int)(hn:iB 0 a≠last):
  kT a last=some(iB 0 a,1):=by
 obtain⟨h1,h2,h3⟩:=px ha;unfold kT;rw [h1,h3,hp,if_neg(by simp;exact⟨by omega,hn⟩),if_neg(by simp),if_neg(by simp)]
structure F4(last:Int)(q:List Nat):Prop where
 len:(jE last q).len<=q.length
 pre:∀ k,k<=q.length->jc(q.take k)last=decide(k<=(jE last q).len)
 yes:∀ t n,kT q last=some(t,n)->(jE last q).ok=true/\(jE last q).len=q.length/\(jE last q).thread=t/\(jE last q).count=min n 501/\1<=n
 no:kT q last=none->(jE last q).ok=true->(jE last q).len≠q.length
theorem sX(last:Int):jc []last=true:=rfl
theorem xR {b:Nat}(h:isD b=true):b≠42/\b≠32:=by
 have:48<=b/\b<=57:=by simpa [isD]using h
 omega
theorem uR(last:Int)(a bb:List Nat)(ha:∀ x∈a,x≠42)(hp:iZ a=true)(hv:iB 0 a<=63)(hn:iB 0 a≠last)(hn0:0<=iB 0 a)
  (ht:thr last(-1)(a++42::bb)=(iB 0 a,a.length))(ab:∀ k,k<=a.length->jc(a.take k)last=true):F4 last(a++42::bb):=by
 have e:jE last(a++42::bb)=⟨iB 0 a,(cnt 0 bb).1,decide(1<(cnt 0 bb).1),a.length+1+(cnt 0 bb).2⟩:=by
  unfold jE;rw [ht];have e1:(a++42::bb)[a.length]?=some 42:=by simp
  have e2:(a++42::bb).drop(a.length+1)=bb:=by
   rw [List.drop_append];simp
  have e3:lH last(iB 0 a)=true:=by
   simp only [lH,Bool.and_eq_true,Bool.not_eq_true',beq_eq_false_iff_ne];exact⟨by omega,hn⟩
  simp only [e1,e2,e3,Bool.true_and,beq_self_eq_true,if_true]
 have hc:=E4 0 bb;have hk:∀ k,k<=bb.length->jc(a++42::bb.take k)last=decide(k<=(cnt 0 bb).2):=by
  intro k hk;rw [rU ha hp hv,pR bb k hk];have:(iB 0 a==last)=false:=by simpa using hn
  rw [this];simp
 refine⟨?_, ?_, ?_, ?_⟩
 ·rw [e];simp;omega
 ·intro k ae;rw [e];simp only;by_cases h:k<=a.length
  ·rw [List.take_append_of_le_length h,ab k h];symm;simp;omega
  ·obtain⟨j,rfl⟩:∃ j,k=a.length+1+j:=⟨k - (a.length+1),by omega⟩;have e4:(a++42::bb).take(a.length+1+j)=a++42::bb.take j:=by
    rw [List.take_append,List.take_of_length_le(by omega)];have:a.length+1+j - a.length=j+1:=by omega
    rw [this,List.take_succ_cons]
   have hj:j<=bb.length:=by simp at ae;omega
   rw [e4,hk j hj];by_cases h5:j<=(cnt 0 bb).2<;>simp [h5]<;>omega
 ·intro t n h;rw [wJ ha hp hv last hn]at h;split at h
  ·cases h
  ·rename_i hb
   simp only [Option.some.injEq,Prod.mk.injEq]at h;obtain⟨rfl,rfl⟩:=h;simp only [Bool.or_eq_true,Bool.not_eq_true',decide_eq_true_eq,not_or,Bool.not_eq_false]at hb;have ac:bb≠ []:=by intro h0;rw [h0]at hb;simp [iZ]at hb
   have af:bb≠ [48]:=by intro h0;rw [h0]at hb;exact hb.2(by rw [pz(by rfl)];omega)
   have h6:=pR bb bb.length(Nat.le_refl _);rw [List.take_length,hb.1]at h6;have h7:(bb== [])=false:=by simpa using ac
   have h8:(bb== [48])=false:=by simpa using af
   rw [h7,h8]at h6;have h9:bb.length<=(cnt 0 bb).2:=by simpa using h6.symm
   have ad:=uH bb(by omega);rw [e];refine⟨?_, ?_,rfl,ad,by omega⟩
   ·simp only [decide_eq_true_eq];omega
   ·simp;omega
 ·intro h aa;rw [e]at aa ⊢;simp only [decide_eq_true_eq]at aa;rw [wJ ha hp hv last hn]at h;split at h
  ·rename_i hb
   simp only [List.length_append,List.length_cons];intro hl;have ad:=uH bb(by omega);have h6:=pR bb bb.length(Nat.le_refl _);rw [List.take_length]at h6;have h9:decide(bb.length<=(cnt 0 bb).2)=true:=by simp;omega
   rw [h9]at h6;have ac:bb≠ []:=by intro h0;rw [h0]at aa;simp [cnt]at aa
   have h7:(bb== [])=false:=by simpa using ac
   rw [h7,Bool.false_or]at h6;simp only [Bool.and_eq_true]at h6;rw [h6.1]at hb;simp only [Bool.not_true,Bool.false_or,decide_eq_true_eq]at hb;omega
  ·cases h
theorem nl(last:Int)(a r:List Nat)(n:Int)(ht:thr last(-1)(a++r)=(n,a.length))(ab:∀ k,k<=a.length->jc(a.take k)last=true)
  (ad:(lH last n &&(r.head?==some 42))=false)
  (aa:∀ k,0<k->k<=r.length->jc(a++r.take k)last=false)
  (ac:∀ t m,kT(a++r)last=some(t,m)->lH last n=true/\r= []/\n=t/\m=1)
  (ae:kT(a++r)last=none->lH last n=true->r≠ []):F4 last(a++r):=by
 have e:jE last(a++r)=⟨n,1,lH last n,a.length⟩:=by
  unfold jE;rw [ht];have e1:(a++r)[a.length]?=r.head?:=by rw [List.getElem?_append_right(Nat.le_refl _)];simp [List.head?_eq_getElem?]
  simp only [e1,ad];simp
 refine⟨?_, ?_, ?_, ?_⟩
 ·rw [e];simp
 ·intro k hk;rw [e];simp only;by_cases h:k<=a.length
  ·rw [List.take_append_of_le_length h,ab k h];symm;simpa using h
  ·have e4:(a++r).take k=a++r.take(k - a.length):=by rw [List.take_append,List.take_of_length_le(by omega)]
   rw [e4,aa _(by omega)(by simp at hk;omega)];symm;simpa using h
 ·intro t m h;obtain⟨h1,rfl,rfl,rfl⟩:=ac t m h;rw [e];simp [h1];omega
 ·intro h h1;rw [e]at h1 ⊢;have:=ae h h1;simp;exact this
theorem BP(last:Int)(q:List Nat):F4 last q:=by
 have T:=zw last q;rcases q with _ | ⟨b,r⟩
 ·refine nl last [] [](-1)T(fun k hk=> ?_)rfl(fun k h1 h2=>by simp at h2;omega) ?_ ?_
  ·simp [sX]
  ·intro t m h;simp [kT,jj,iZ]at h
  ·intro _ h;simp [lH]at h
 ·simp only at T;by_cases hb:isD b=true/\(((b:Int) - 48≠last)\/(49<=b/\b<=54))
  ·rw [if_pos hb]at T;obtain⟨hd,hb2⟩:=hb;have aa:=xR hd;have al:48<=b/\b<=57:=by simpa [isD]using hd
   have p1:=(mX [b]).2(Or.inl⟨b,rfl,hd⟩);have v1:=pz hd;have n1:∀ x∈ [b],x≠42:=by simp;exact aa.1
   have b1:jc [b]last=true:=by
    rw [qY n1(by simp)p1.1 p1.2,v1];simp;omega
   have ab:∀ k,k<= [b].length->jc([b].take k)last=true:=by
    intro k hk;have:k=0\/k=1:=by simp at hk;omega
    rcases this with rfl | rfl
    ·rfl
    ·exact b1
   rcases r with _ | ⟨c,r⟩
   ·refine nl last [b] []((b:Int) - 48)T ab(by simp)(fun k h1 h2=>by simp at h2;omega) ?_ ?_
    ·intro t m h;by_cases hv:(b:Int) - 48=last
     ·rw [qC(by rw [(px(by simpa using n1)).1,List.append_nil,v1];exact hv)]at h;cases h
     ·rw [List.append_nil,pp n1 p1.1 p1.2 last(by rw [v1];exact hv),v1]at h;simp only [Option.some.injEq,Prod.mk.injEq]at h;exact⟨by simp [lH,hv];omega,rfl,h.1,h.2.symm⟩
    ·intro h h2;by_cases hv:(b:Int) - 48=last
     ·simp [lH,hv]at h2
     ·rw [List.append_nil,pp n1 p1.1 p1.2 last(by rw [v1];exact hv)]at h;cases h
   ·by_cases hc:isD c=true/\b≠48/\((b:Int) - 48)*10+((c:Int) - 48)<=63/\((b:Int) - 48)*10+((c:Int) - 48)≠last
    ·simp only [if_pos hc]at T;obtain⟨ag,aj,aq,hl⟩:=hc;have ad:=xR ag;have am:48<=c/\c<=57:=by simpa [isD]using ag
     have p2:=(mX [b,c]).2(Or.inr⟨b,c,rfl,hd,ag,aj,aq⟩);have v2:=od hd ag;have n2:∀ x∈ [b,c],x≠42:=by simp;exact⟨aa.1,ad.1⟩
     have b2:jc [b,c]last=true:=by
      rw [qY n2(by simp)p2.1 p2.2,v2];simp;omega
     have ae:∀ k,k<= [b,c].length->jc([b,c].take k)last=true:=by
      intro k hk;have:k=0\/k=1\/k=2:=by simp at hk;omega
      rcases this with rfl | rfl | rfl
      ·rfl
      ·exact b1
      ·exact b2
     have ak:lH last(((b:Int) - 48)*10+((c:Int) - 48))=true:=by
      simp only [lH,Bool.and_eq_true,Bool.not_eq_true',beq_eq_false_iff_ne];exact⟨by omega,hl⟩
     by_cases hs:r.head?=some 42
     ·obtain⟨bb,rfl⟩:∃ bb,r=42::bb:=by
       cases r with
       | nil=>simp at hs
       | cons x bb=>simp at hs;exact⟨bb,by rw [hs]⟩
      exact uR last [b,c]bb n2 p2.1 p2.2(by rw [v2];exact hl)(by rw [v2];omega)(by rw [v2];exact T)ae
     ·have ac:∀ d s,d≠42->¬(iZ(jj(b::c::d::s))=true/\iB 0(jj(b::c::d::s))<=63):=by
       intro d s ah;have e:jj(b::c::d::s)=b::c::d::jj s:=by
        unfold jj;rw [List.takeWhile_cons,if_pos(by simpa using aa.1),List.takeWhile_cons,if_pos(by simpa using ad.1),List.takeWhile_cons,if_pos(by simpa using ah)]
       rw [e,mX];simp
      refine nl last [b,c]r _ T ae(by rw [ak];simpa using hs) ?_ ?_ ?_
      ·intro k h1 h2;rcases r with _ | ⟨d,s⟩
       ·simp at h2;omega
       ·obtain⟨j,rfl⟩:∃ j,k=j+1:=⟨k - 1,by omega⟩;exact(nz(by simp)last(ac d(s.take j)(by simpa using hs))).1
      ·intro t m h;rcases r with _ | ⟨d,s⟩
       ·rw [List.append_nil,pp n2 p2.1 p2.2 last(by rw [v2];exact hl),v2]at h;simp only [Option.some.injEq,Prod.mk.injEq]at h;exact⟨ak,rfl,h.1,h.2.symm⟩
       ·rw [show [b,c]++d::s=b::c::d::s from rfl,(nz(by simp)last(ac d s(by simpa using hs))).2]at h;cases h
      ·intro h _;rcases r with _ | ⟨d,s⟩
       ·rw [List.append_nil,pp n2 p2.1 p2.2 last(by rw [v2];exact hl)]at h;cases h
       ·simp
    ·simp only [if_neg hc]at T;by_cases hs:c=42
     ·subst hs;by_cases hv:(b:Int) - 48=last
      ·have same:∀ s,jj(b::42::s)= [b]:=fun s=>(pD(a:= [b])(bb:=s)n1).1
       refine nl last [b](42::r)_ T ab(by simp [lH,hv]) ?_ ?_ ?_
       ·intro k h1 h2;obtain⟨j,rfl⟩:∃ j,k=j+1:=⟨k - 1,by omega⟩;rw [List.take_succ_cons,rU n1 p1.1 p1.2,v1];simp [hv]
       ·intro t m h;rw [qC(by rw [show [b]++42::r=b::42::r from rfl,same,v1];exact hv)]at h;cases h
       ·intro _ h;simp [lH,hv]at h
      ·exact uR last [b]r n1 p1.1 p1.2(by rw [v1];exact hv)(by rw [v1];omega)(by rw [v1];exact T)ab
     ·have an:∀ s,(iZ(jj(b::c::s))=true/\iB 0(jj(b::c::s))<=63)->jj(b::c::s)= [b,c]/\isD c=true/\b≠48/\((b:Int) - 48)*10+((c:Int) - 48)=last:=by
       intro s h;have e:jj(b::c::s)=b::c::jj s:=by
        unfold jj;rw [List.takeWhile_cons,if_pos(by simpa using aa.1),List.takeWhile_cons,if_pos(by simpa using hs)]
       rw [e,mX]at h;rcases h with⟨b',h,_⟩ | ⟨b',c',h,h1,h2,h3,h4⟩
       ·simp at h
       ·simp only [List.cons.injEq]at h;obtain⟨rfl,rfl,h5⟩:=h;refine⟨by rw [e,h5],h2,h3, ?_⟩;by_cases h6:((b:Int) - 48)*10+((c:Int) - 48)=last
        ·exact h6
        ·exact absurd⟨h2,h3,h4,h6⟩hc
      have ap:∀ s,kT(b::c::s)last=none:=by
       intro s;by_cases h:iZ(jj(b::c::s))=true/\iB 0(jj(b::c::s))<=63
       ·obtain⟨h1,h2,_,h3⟩:=an s h;exact qC(by rw [h1,od hd h2];exact h3)
       ·exact(nz(by simp)last h).2
      refine nl last [b](c::r)_ T ab(by simp [hs]) ?_ ?_ ?_
      ·intro k h1 h2;obtain⟨j,rfl⟩:∃ j,k=j+1:=⟨k - 1,by omega⟩;rw [List.take_succ_cons];by_cases h:iZ(jj(b::c::r.take j))=true/\iB 0(jj(b::c::r.take j))<=63
       ·obtain⟨h1,h2,aj,h3⟩:=an _ h;have am:48<=c/\c<=57:=by simpa [isD]using h2
        have ao:=od hd h2;show jc(b::c::r.take j)last=false
        unfold jc;rw [if_neg(by simp),h1,ao,h3,if_neg(by rw [h1]at h;simp [h.1];rw [ao]at h;omega)];split
        ·simp
        ·simp;omega
       ·exact(nz(by simp)last h).1
      ·intro t m h;rw [show [b]++c::r=b::c::r from rfl,ap]at h;cases h
      ·intro _ _;simp
  ·rw [if_neg hb]at T;have bad:∀ s,jc(b::s)last=false/\kT(b::s)last=none:=by
    intro s;by_cases h:iZ(jj(b::s))=true/\iB 0(jj(b::s))<=63
    ·have hf:=(mX _).1 h;have hh:∃ s',jj(b::s)=b::s':=by
      unfold jj;rw [List.takeWhile_cons];split
      ·exact⟨_,rfl⟩
      ·rename_i h42
       rw [jj,List.takeWhile_cons,if_neg h42]at h;simp [iZ]at h
     obtain⟨s',af⟩:=hh;rw [af]at hf;rcases hf with⟨b',h1,h2⟩ | ⟨b',c',h1,h2,h3,h4,h5⟩
     ·simp only [List.cons.injEq]at h1;obtain⟨rfl,rfl⟩:=h1;have hv:(b:Int) - 48=last/\¬(49<=b/\b<=54):=by
       refine⟨?_,fun h6=>hb⟨h2,Or.inr h6⟩⟩;by_cases h6:(b:Int) - 48=last
       ·exact h6
       ·exact absurd⟨h2,Or.inl h6⟩hb
      have al:48<=b/\b<=57:=by simpa [isD]using h2
      have ai:=pz h2;refine⟨?_,qC(by rw [af,ai];exact hv.1)⟩;unfold jc;rw [if_neg(by simp),af,ai,hv.1,if_neg(by rw [af]at h;simp [h.1];rw [ai]at h;omega)];split
      ·simp
      ·simp;omega
     ·simp only [List.cons.injEq]at h1;obtain⟨rfl,rfl⟩:=h1;have al:48<=b/\b<=57:=by simpa [isD]using h2
      have am:48<=c'/\c'<=57:=by simpa [isD]using h3
      exact absurd⟨h2,Or.inr(by omega)⟩hb
    ·exact nz(by simp)last h
   refine nl last [](b::r)(-1)T(fun k hk=>by simp [sX])(by simp [lH]) ?_ ?_ ?_
   ·intro k h1 h2;obtain⟨j,rfl⟩:∃ j,k=j+1:=⟨k - 1,by omega⟩;exact(bad _).1
   ·intro t m h;rw [List.nil_append,(bad r).2]at h;cases h
   ·intro _ h;simp [lH]at h
end
section
theorem zQ(last n:Int)(l:List Nat):(thr last n l).2<=l.length:=by
 induction l generalizing n with
 | nil=>simp [thr]
 | cons b r ih=>
  unfold thr;split
  ·simpa using ih _
  ·simp
theorem AN(last n:Int)(q u:List Nat):thr last n(q++32::u)=thr last n q:=by
 induction q generalizing n with
 | nil=>simp [thr,isD]
 | cons b r ih=>simp only [List.cons_append,thr,ih]
theorem BC(n:Int)(q u:List Nat):cnt n(q++32::u)=cnt n q:=by
 induction q generalizing n with
 | nil=>simp [cnt,isD]
 | cons b r ih=>simp only [List.cons_append,cnt,ih]
theorem yA(last:Int)(q u:List Nat):jE last(q++32::u)=jE last q:=by
 have hl:=zQ last(-1)q;unfold jE;rw [AN];generalize(thr last(-1)q).2=j at*;by_cases h:j<q.length
 ·have e1:(q++32::u)[j]?=q[j]?:=List.getElem?_append_left h;have e2:(q++32::u).drop(j+1)=q.drop(j+1)++32::u:=by
   rw [List.drop_append];have:j+1 - q.length=0:=by omega
   rw [this,List.drop_zero]
  rw [e1,e2,BC]
 ·obtain rfl:j=q.length:=by omega
  have e1:(q++32::u)[q.length]?=some 32:=by simp
  have e2:q[q.length]?=none:=by simp
  rw [e1,e2];have e3:((some 32:Option Nat)==some 42)=false:=by decide
  have e4:((none:Option Nat)==some 42)=false:=by decide
  rw [e3,e4];simp
theorem ro(q:List Nat)(h:∀ x∈q,x≠32):iY q= [q]:=by
 induction q with
 | nil=>rfl
 | cons b r ih=>
  have hb:b≠32:=h b(by simp);rw [iY,if_neg hb,ih(fun x hx=>h x(by simp [hx]))];rfl
theorem rN(q u:List Nat)(h:∀ x∈q,x≠32):iY(q++32::u)=q::iY u:=by
 induction q with
 | nil=>simp [iY]
 | cons b r ih=>
  have hb:b≠32:=h b(by simp);rw [List.cons_append,iY,if_neg hb,ih(fun x hx=>h x(by simp [hx]))];rfl
theorem tB(l:List Nat):iY l≠ []:=by
 cases l with
 | nil=>simp [iY]
 | cons b r=>unfold iY;split<;>simp
theorem xu(l:List Nat):(∀ x∈l,x≠32)\/∃ q u,l=q++32::u/\∀ x∈q,x≠32:=by
 induction l with
 | nil=>left;simp
 | cons b r ih=>
  by_cases hb:b=32
  ·right;exact⟨[],r,by simp [hb],by simp⟩
  ·rcases ih with h | ⟨q,u,rfl,h⟩
   ·left
    intro x hx;rcases List.mem_cons.1 hx with rfl | hx
    ·exact hb
    ·exact h x hx
   ·right
    refine⟨b::q,u,rfl, ?_⟩;intro x hx;rcases List.mem_cons.1 hx with rfl | hx
    ·exact hb
    ·exact h x hx
theorem BR(qs:List(List Nat))(aa:Int)(o o':List Int):(jg qs aa o).map(·.2)=(jg qs aa o').map(·.2):=by
 induction qs generalizing aa o o' with
 | nil=>rfl
 | cons q qs ih=>
  unfold jg;cases kT q aa with
  | none=>rfl
  | some x=>exact ih _ _ _
theorem uw(aa:Int)(l:List Nat):m7 aa l=match(jg(iY l).dropLast aa []).map(·.2)with
  | none=>false
  | some a=>jc((iY l).getLastD [])a:=by
 unfold m7;cases jg(iY l).dropLast aa []<;>rfl
theorem oE(aa:Int)(q:List Nat)(h:∀ x∈q,x≠32):m7 aa q=jc q aa:=by
 unfold m7;rw [ro q h];rfl
theorem pL(aa:Int)(q u:List Nat)(h:∀ x∈q,x≠32):m7 aa(q++32::u)=match kT q aa with
  | none=>false
  | some x=>m7 x.1 u:=by
 rw [uw,rN q u h];have e1:(q::iY u).dropLast=q::(iY u).dropLast:=by rw [List.dropLast_cons_of_ne_nil(tB u)]
 have e2:(q::iY u).getLastD []=(iY u).getLastD []:=by
  cases hp:iY u with
  | nil=>exact absurd hp(tB u)
  | cons a b=>rfl
 rw [e1,e2,jg];cases kT q aa with
 | none=>rfl
 | some x=>
  simp only;rw [uw,BR _ _ _ []]
structure uX(ahead:Int)(l:List Nat)(m:Nat):Prop where
 le:m<=l.length
 yes:m7 ahead(l.take m)=true
 no:∀ k,m<k->k<=l.length->m7 ahead(l.take k)=false
theorem zg {l:List Nat} {m:Nat}(h:uX(-1)l m)(n:Nat)(hm:m<=n)(hn:n<=l.length):kU l n=m:=by
 induction n with
 | zero=>simp [kU];omega
 | succ n ih=>
  unfold kU;by_cases e:m=n+1
  ·rw [if_pos]
   ·exact e.symm
   ·rw [<-e];exact h.yes
  ·rw [if_neg(by rw [h.no(n+1)(by omega)hn];simp)];exact ih(by omega)(by omega)
theorem tw {q u:List Nat} {k:Nat}(h:k<=q.length):(q++32::u).take k=q.take k:=List.take_append_of_le_length h
theorem qh {q:List Nat}(h:∀ x∈q,x≠32)(k:Nat):∀ x∈q.take k,x≠32:=fun x hx=>h x(List.mem_of_mem_take hx)
theorem rA(q u:List Nat)(j:Nat):(q++32::u).take(q.length+1+j)=q++32::u.take j:=by
 rw [List.take_append,List.take_of_length_le(by omega)];have:q.length+1+j - q.length=j+1:=by omega
 rw [this,List.take_succ_cons]
theorem Ft {last:Int} {q:List Nat}(h:∀ x∈q,x≠32):uX last q(jE last q).len:=by
 have A:=BP last q;refine⟨A.len, ?_, ?_⟩
 ·rw [oE _ _(qh h _),A.pre _ A.len];simp
 ·intro k h1 h2;rw [oE _ _(qh h _),A.pre _ h2];simp;omega
theorem wN {last:Int} {q u:List Nat}(h:∀ x∈q,x≠32)(hr:kT q last=none):uX last(q++32::u)(jE last q).len:=by
 have A:=BP last q;have hl:=A.len;refine⟨by simp;omega, ?_, ?_⟩
 ·rw [tw A.len,oE _ _(qh h _),A.pre _ A.len];simp
 ·intro k h1 h2;by_cases h3:k<=q.length
  ·rw [tw h3,oE _ _(qh h _),A.pre _ h3];simp;omega
  ·obtain⟨j,rfl⟩:∃ j,k=q.length+1+j:=⟨k - (q.length+1),by omega⟩;rw [rA,pL _ _ _ h,hr]
theorem FE {last t n:Int} {q u:List Nat} {m:Nat}(h:∀ x∈q,x≠32)(hr:kT q last=some(t,n))(hm:uX t u m):uX last(q++32::u)(q.length+1+m):=by
 have hl:=hm.le;refine⟨by simp;omega, ?_, ?_⟩
 ·rw [rA,pL _ _ _ h,hr];exact hm.yes
 ·intro k h1 h2;obtain⟨j,rfl⟩:∃ j,k=q.length+1+j:=⟨k - (q.length+1),by omega⟩;rw [rA,pL _ _ _ h,hr];exact hm.no j(by omega)(by simp at h2;omega)
theorem EU(f:Nat)(ab out:List Int)(last aa:Int)(at_:Nat)(l:List Nat)(hf:l.length<f)(ht:aa=out.length)(hs:aa<501->ab=out)(h501:aa<=501):
  match jg(iY l)last out with
  | some(o,_)=>mA f ab last aa at_ l=if 500<o.length then⟨[],0,false⟩else⟨o,0,true⟩
  | none=>∃ m,uX last l m/\mA f ab last aa at_ l=⟨[],at_+m,false⟩:=by
 induction f generalizing ab out last aa at_ l with
 | zero=>omega
 | succ f ih=>
  have next:∀ (q:List Nat)(t n:Int),kT q last=some(t,n)->min(aa+(jE last q).count)501=((lN out t n).length:Int)/\
    (min(aa+(jE last q).count)501<501->mx ab(min(aa+(jE last q).count)501)(jE last q).count(jE last q).thread=lN out t n):=by
   intro q t n h;obtain⟨h1,h2,h3,h4,h5⟩:=(BP last q).yes t n h;have e:((lN out t n).length:Int)=min(aa+(jE last q).count)501:=by
    unfold lN;simp;omega
   refine⟨e.symm,fun ad=> ?_⟩;unfold mx lN;rw [if_pos ad,h3,h4,hs(by omega)];have:(min n 501).toNat=min n.toNat(501 - out.length):=by omega
   rw [this]
  rcases xu l with hb | ⟨q,u,rfl,hb⟩
  ·rw [ro l hb];simp only [jg];have A:=BP last l;cases hr:kT l last with
   | none=>
    simp only;refine⟨(jE last l).len,Ft hb, ?_⟩;unfold mA;by_cases ac:(jE last l).ok=true
    ·have ag:=A.no hr ac;have ad:(jE last l).len<l.length:=by have:=A.len;omega
     rw [if_pos ac,List.drop_eq_getElem_cons ad];simp only;rw [if_neg(hb _(List.getElem_mem ad))]
    ·rw [if_neg ac]
   | some x=>
    obtain⟨t,n⟩:=x;simp only;obtain⟨h1,h2,h3,h4,h5⟩:=A.yes t n hr;obtain⟨n1,n2⟩:=next l t n hr;unfold mA;rw [if_pos h1,h2,List.drop_length];simp only;by_cases h6:min(aa+(jE last l).count)501=501
    ·rw [if_pos h6,if_pos(by omega)]
    ·rw [if_neg h6,if_neg(by omega),n2(by omega)]
  ·rw [rN q u hb];simp only [jg];have A:=BP last q;have hP:=yA last q u;cases hr:kT q last with
   | none=>
    simp only;refine⟨(jE last q).len,wN hb hr, ?_⟩;unfold mA;rw [hP];by_cases ac:(jE last q).ok=true
    ·have ag:=A.no hr ac;have ad:(jE last q).len<q.length:=by have:=A.len;omega
     have ae:(jE last q).len<(q++32::u).length:=by simp;omega
     rw [if_pos ac,List.drop_eq_getElem_cons ae];simp only;rw [if_neg];rw [List.getElem_append_left ad];exact hb _(List.getElem_mem ad)
    ·rw [if_neg ac]
   | some x=>
    obtain⟨t,n⟩:=x;simp only;obtain⟨h1,h2,h3,h4,h5⟩:=A.yes t n hr;obtain⟨n1,n2⟩:=next q t n hr;have e:mA(f+1)ab last aa at_(q++32::u)=mA f(mx ab(min(aa+(jE last q).count)501)(jE last q).count(jE last q).thread)t(min(aa+(jE last q).count)501)(at_+q.length+1)u:=by
     conv=>lhs;unfold mA
     rw [hP,if_pos h1,h2];have e2:(q++32::u).drop q.length=32::u:=by simp
     rw [e2];simp only [if_true,h3]
    rw [e];have:=ih(mx ab(min(aa+(jE last q).count)501)(jE last q).count(jE last q).thread)(lN out t n)t(min(aa+(jE last q).count)501)(at_+q.length+1)u(by simp at hf;omega)n1 n2(by omega);cases hw:jg(iY u)t(lN out t n)with
    | none=>
     rw [hw]at this;simp only at this ⊢;obtain⟨m,ah,af⟩:=this;exact⟨q.length+1+m,FE hb hr ah,by rw [af];congr 1;omega⟩
    | some y=>
     rw [hw]at this;exact this
theorem qF(l:List Nat):jJ l=lK l:=by
 unfold jJ lK;by_cases h0:l= []
 ·rw [if_pos h0,if_pos h0]
 ·rw [if_neg h0,if_neg h0];have:=EU(l.length+1) [] [](-1)0 0 l(by omega)rfl(fun _=>rfl)(by omega);cases hw:jg(iY l)(-1) []with
  | none=>
   rw [hw]at this;obtain⟨m,h1,h2⟩:=this;simp only;rw [h2,zg h1 l.length h1.le(Nat.le_refl _)];simp
  | some y=>rw [hw]at this;exact this
end
section
def i8(l:List Int):Bool:=decide(l.length<=500)&& l.all fun t=>decide(0<=t)&& decide(t<=63)
def grp:List Int->List(Int × Int)
 | []=> []
 | t::r=>match grp r with
  | []=> [(t,1)]
  | x::q=>if t=x.1 then(t,x.2+1)::q else(t,1)::x::q
def nX:List(Int × Int)->List(Int × Int)
 | []=> []
 | [x]=> [(x.1,x.2+1)]
 | x::y::q=>x::nX(y::q)
theorem tW(t:Int)(r:List Int):∃ n q,grp(t::r)=(t,n)::q:=by
 unfold grp;cases grp r with
 | nil=>exact⟨_,_,rfl⟩
 | cons x q=>simp only;split<;>exact⟨_,_,rfl⟩
theorem Gb {l:List Int}(h:l≠ []):grp l≠ []:=by
 cases l with
 | nil=>exact absurd rfl h
 | cons t r=>obtain⟨n,q,e⟩:=tW t r;rw [e];simp
theorem wG(l:List Int)(t:Int):grp(l++ [t])=if l.getLast?=some t then nX(grp l)else grp l++ [(t,1)]:=by
 induction l with
 | nil=>simp [grp]
 | cons a r ih=>
  cases r with
  | nil=>
   by_cases h:a=t
   ·simp [grp,nX,h]
   ·simp [grp,h]
  | cons b s=>
   have e1:(a::b::s).getLast?=(b::s).getLast?:=by simp [List.getLast?_cons_cons]
   rw [e1];obtain⟨n,q,e⟩:=tW b s;have e2:a::b::s++ [t]=a::(b::s++ [t]):=rfl;have e3:grp(a::b::s)=if a=b then(a,n+1)::q else(a,1)::(b,n)::q:=by
    conv=>lhs;rw [grp,e]
   rw [e2,grp,ih,e3,e];by_cases hl:(b::s).getLast?=some t
   ·rw [if_pos hl,if_pos hl];by_cases aa:a=b
    ·rw [if_pos aa];cases q with
     | nil=>simp [nX,aa]
     | cons x q=>simp [nX,aa]
    ·rw [if_neg aa];cases q with
     | nil=>simp [nX,aa]
     | cons x q=>simp [nX,aa]
   ·rw [if_neg hl,if_neg hl];by_cases aa:a=b
    ·rw [if_pos aa];simp [aa]
    ·rw [if_neg aa];simp [aa]
theorem CY(l:List Int):(grp l).getLast?.map(·.1)=l.getLast?:=by
 induction l with
 | nil=>rfl
 | cons a r ih=>
  cases r with
  | nil=>rfl
  | cons b s=>
   obtain⟨n,q,e⟩:=tW b s;rw [grp,e];rw [e]at ih;rw [List.getLast?_cons_cons];simp only;split
   ·rename_i h
    rw [<-ih];cases q with
    | nil=>simp [h]
    | cons x q=>simp [List.getLast?_cons_cons]
   ·rw [<-ih];simp [List.getLast?_cons_cons]
theorem pq(l:List Int):(grp l).length<=l.length:=by
 induction l with
 | nil=>simp [grp]
 | cons a r ih=>
  unfold grp;cases h:grp r with
  | nil=>simp
  | cons x q=>
   rw [h]at ih;simp only;split
   ·simp at ih ⊢;omega
   ·simpa using ih
theorem qf(l:List Int):∀ x∈grp l,x.1∈l/\1<=x.2/\x.2<=l.length:=by
 induction l with
 | nil=>simp [grp]
 | cons a r ih=>
  unfold grp;cases h:grp r with
  | nil=>simp;omega
  | cons x q=>
   rw [h]at ih;have hx:=ih x(by simp);simp only;split
   ·rename_i e
    intro y hy;rcases List.mem_cons.1 hy with rfl | hy
    ·simp;omega
    ·have:=ih y(by simp [hy]);simp;exact⟨Or.inr this.1,this.2.1,by omega⟩
   ·intro y hy;rcases List.mem_cons.1 hy with rfl | hy
    ·simp;omega
    ·have:=ih y hy;simp;exact⟨Or.inr this.1,this.2.1,by omega⟩
def kY(t n:Int):List UInt8:=if n=1 then Lib.itoa t else Lib.itoa t++ [42]++Lib.itoa n
def lU(l:List Int):List UInt8:=Lib.join((grp l).map fun x=>kY x.1 x.2) [32]
end
section
def shN(c:Nat):Nat:=if c % 2=1 then(c / 2) ^^^ 3988292384 else c / 2
theorem Cs(c d:Nat):(c ^^^ d)/ 2=c / 2 ^^^ d / 2:=by
 apply Nat.eq_of_testBit_eq;intro i;simp [Nat.testBit_div_two,Nat.testBit_xor]
theorem Eq(c d:Nat):(c ^^^ d) % 2=(c+d) % 2:=by
 have h:=Nat.testBit_xor c d 0;simp only [Nat.testBit_zero]at h;have h1:(c ^^^ d) % 2<2:=Nat.mod_lt _(by decide);have h2:c % 2<2:=Nat.mod_lt _(by decide);have h3:d % 2<2:=Nat.mod_lt _(by decide);have e1:c % 2=0\/c % 2=1:=by omega
 have e2:d % 2=0\/d % 2=1:=by omega
 have e3:(c ^^^ d) % 2=0\/(c ^^^ d) % 2=1:=by omega
 rcases e1 with e1 | e1<;>rcases e2 with e2 | e2<;>rcases e3 with e3 | e3<;>simp [e1,e2,e3]at h<;>omega
theorem Ct {c:Nat}(h:c<4294967296):shN c<4294967296:=by
 unfold shN;split
 ·exact Nat.xor_lt_two_pow(n:=32)(by omega)(by decide)
 ·omega
def shK:Nat->Nat->Nat
 | 0,c=>c
 | k+1,c=>shK k(shN c)
theorem FT(k:Nat) {c:Nat}(h:c<4294967296):shK k c<4294967296:=by
 induction k generalizing c with
 | zero=>exact h
 | succ k ih=>exact ih(Ct h)
theorem zR(j k c:Nat):shK(j+k)c=shK k(shK j c):=by
 induction j generalizing c with
 | zero=>rw [Nat.zero_add];rfl
 | succ j ih=>rw [Nat.succ_add,shK,ih];rfl
def sw(c:Nat)(l:List Nat):Nat:=l.foldl(fun c b=>shK 8(c ^^^ b))c
def lF(l:List Nat):Nat:=4294967295 ^^^ sw 4294967295 l
theorem Ai(c:Nat)(l:List Nat)(hc:c<4294967296)(hl:∀ b∈l,b<256):sw c l<4294967296:=by
 induction l generalizing c with
 | nil=>exact hc
 | cons b r ih=>
  have hb:=hl b(by simp);exact ih _(FT 8(Nat.xor_lt_two_pow(n:=32)(by omega)(by omega)))(fun x hx=>hl x(by simp [hx]))
theorem sh(c:Nat)(l m:List Nat):sw c(l++m)=sw(sw c l)m:=by simp [sw]
def leB:Nat->Nat->List Nat
 | 0,_=> []
 | k+1,x=>x % 256::leB k(x / 256)
theorem pw(k x:Nat):(leB k x).length=k:=by
 induction k generalizing x with
 | zero=>rfl
 | succ k ih=>simp [leB,ih]
theorem FZ(k x:Nat):∀ b∈leB k x,b<256:=by
 induction k generalizing x with
 | zero=>simp [leB]
 | succ k ih=>
  intro b hb;rcases List.mem_cons.1 hb with rfl | hb
  ·exact Nat.mod_lt _(by decide)
  ·exact ih _ b hb
theorem Ap(l:List Nat)(hl:∀ b∈l,b<256):lF l<4294967296:=Nat.xor_lt_two_pow(n:=32)(by decide)(Ai _ l(by decide)hl)
end
section
def qI:Nat->Nat->List Nat
 | 0,n=> [n]
 | k+1,n=>if n<128 then [n]else(n % 128+128)::qI k(n / 128)
theorem wU:∀ (j k n:Nat),n<=j->n<=k->qI j n=qI k n
 | 0,0,_,_,_=>rfl
 | 0,k+1,n,h,_=>by simp only [qI];rw [if_pos(by omega)]
 | j+1,0,n,_,h=>by simp only [qI];rw [if_pos(by omega)]
 | j+1,k+1,n,h1,h2=>by
  simp only [qI];by_cases h:n<128
  ·rw [if_pos h,if_pos h]
  ·rw [if_neg h,if_neg h,wU j k(n / 128)(by omega)(by omega)]
def jT(n:Nat):List Nat:=qI n n
theorem lY {n:Nat}(h:n<128):jT n= [n]:=by
 unfold jT;cases n with
 | zero=>rfl
 | succ k=>simp only [qI];rw [if_pos h]
theorem nA {n:Nat}(h:¬n<128):jT n=(n % 128+128)::jT(n / 128):=by
 unfold jT;cases n with
 | zero=>omega
 | succ k=>
  simp only [qI];rw [if_neg h,wU k((k+1)/ 128)((k+1)/ 128)(by omega)(Nat.le_refl _)]
theorem lm(n:Nat):∀ b∈jT n,b<256:=by
 induction n using Nat.strongRecOn with
 | ind n ih=>
  by_cases h:n<128
  ·rw [lY h];simp;omega
  ·rw [nA h];intro b hb;rcases List.mem_cons.1 hb with rfl | hb
   ·omega
   ·exact ih(n / 128)(by omega)b hb
def rdN(place n:Nat):List Nat->Option(Nat × List Nat)
 | []=>none
 | b::r=>if place<64/\(b % 128)*2 ^ place<18446744073709551616 then
   (if b<128 then(if 0<b\/place=0 then some(n+(b % 128)*2 ^ place,r)else none)else rdN(place+7)(n+(b % 128)*2 ^ place)r)
  else none
theorem zV(n:Nat):∀ (aa ab:Nat)(r:List Nat),n*2 ^ aa<18446744073709551616->(0<n\/aa=0)->aa<64->rdN aa ab(jT n++r)=some(ab+n*2 ^ aa,r):=by
 induction n using Nat.strongRecOn with
 | ind n ih=>
  intro aa ab r h1 h2 h3;by_cases h:n<128
  ·rw [lY h];have e:n % 128=n:=Nat.mod_eq_of_lt h;simp only [List.cons_append,List.nil_append,rdN,e];rw [if_pos⟨h3,h1⟩,if_pos h,if_pos h2]
  ·rw [nA h];have e:(n % 128+128) % 128=n % 128:=by omega
   have hp:0<2 ^ aa:=Nat.two_pow_pos _;have hle:n % 128*2 ^ aa<=n*2 ^ aa:=Nat.mul_le_mul_right _(Nat.mod_le _ _);have hsum:n % 128*2 ^ aa+n / 128*2 ^ (aa+7)=n*2 ^ aa:=by
    have:(2:Nat) ^ (aa+7)=128*2 ^ aa:=by rw [Nat.pow_add,Nat.mul_comm]
    rw [this,<-Nat.mul_assoc,<-Nat.add_mul];congr 1
    omega
   have hq:0<n / 128:=by omega
   have h4:aa+7<64:=by
    by_cases hc:aa+7<64
    ·exact hc
    ·have:2 ^ 64<=2 ^ (aa+7):=Nat.pow_le_pow_right(by decide)(by omega);have h5:2 ^ (aa+7)<=n / 128*2 ^ (aa+7):=Nat.le_mul_of_pos_left _ hq;have h6:(2:Nat) ^ 64=18446744073709551616:=by decide
     omega
   simp only [List.cons_append,rdN,e];rw [if_pos⟨h3,by omega⟩,if_neg(by omega),ih(n / 128)(by omega)(aa+7)_ r(by omega)(Or.inl hq)h4];congr 2
   omega
def jn(l:List Nat):Option(Int × List Nat):=match rdN 0 0 l with
 | some(n,r)=>if n<=9223372036854775807 then some((n:Int),r)else none
 | none=>none
def zig(n:Int):Nat:=if n<0 then(-2*n - 1).toNat else(2*n).toNat
def zag(n:Nat):Int:=if n % 2=1 then -((n / 2:Nat):Int) - 1 else((n / 2:Nat):Int)
theorem zP(n:Int):zag(zig n)=n:=by
 unfold zag zig;split<;>split<;>omega
def kX(l:List Nat):Option(Int × List Nat):=match rdN 0 0 l with
 | some(n,r)=>some(zag n,r)
 | none=>none
def kO(b:Int)(l:List Nat):Option(Int × List Nat):=match jn l with
 | some(n,r)=>if n<=b then some(n,r)else none
 | none=>none
def mm(l:List Nat):Option(Ins × List Nat):=match jn l with
 | none=>none
 | some(o,l1)=>match jn l1 with
  | none=>none
  | some(a,l2)=>match jn l2 with
   | none=>none
   | some(b,l3)=>match kX l3 with
    | none=>none
    | some(n,l4)=>some(⟨o,a,b,n⟩,l4)
def jV {α:Type}(P:List Nat->Option(α × List Nat)):Nat->List Nat->Option(List α × List Nat)
 | 0,l=>some([],l)
 | k+1,l=>match P l with
  | none=>none
  | some(x,r)=>match jV P k r with
   | none=>none
   | some(xs,r')=>some(x::xs,r')
def jC(l:List Nat):Option(List Ins × List Nat):=match kO 16 l with
 | none=>none
 | some(k,r)=>jV mm k.toNat r
def kQ(l:List Nat):Option(List(List Ins)× List Nat):=match kO 4 l with
 | none=>none
 | some(k,r)=>jV jC k.toNat r
def lp:Nat->List Int->List Nat->Option(List Int × List Nat)
 | 0,sch,l=>some(sch,l)
 | k+1,sch,l=>match jn l with
  | none=>none
  | some(t,r)=>match kO(500 - sch.length)r with
   | none=>none
   | some(c,r')=>if 0<c/\sch.getLast?≠some t then lp k(sch++List.replicate c.toNat t)r' else none
def jP(l:List Nat):Option(List Int × List Nat):=match kO 500 l with
 | none=>none
 | some(k,r)=>lp k.toNat []r
def m8(l:List Nat):Option((Int × Int × Int)× List Nat):=match jn l with
 | none=>none
 | some(a,l1)=>match jn l1 with
  | none=>none
  | some(b,l2)=>match jn l2 with
   | none=>none
   | some(c,l3)=>some((a,b,c),l3)
structure Art where
 prog:List(List Ins)
 sch:List Int
 ver:Int × Int × Int
def kL(v:Int × Int × Int):Bool:=(decide(1<=v.1)&& decide(v.1<=5))&&(decide(0<=v.2.1)&& decide(v.2.1<=3))&&(decide(0<=v.2.2)&& decide(v.2.2<=500))
def jF(a:Art):Int:=if iR a.prog=true then(if i8 a.sch=true/\kL a.ver=true then 0 else 2)else 1
def oM(l:List Nat):Option(Art × List Nat):=match l with
 | 82::82::1::r0=>match kQ r0 with
  | none=>none
  | some(p,r1)=>match jP r1 with
   | none=>none
   | some(s,r2)=>match m8 r2 with
    | none=>none
    | some(v,r3)=>some(⟨p,s,v⟩,r3)
 | _=>none
def km(l:List Nat):Option Art:=match oM l with
 | none=>none
 | some(a,r)=>if r=leB 4(lF(l.take(l.length - r.length)))/\jF a=0 then some a else none
def js(n:Int):List Nat:=jT n.toNat
def mz(i:Ins):List Nat:=js i.op++(js i.a++(js i.b++jT(zig i.n)))
def jQ(c:List Ins):List Nat:=js c.length++c.flatMap mz
def mf(p:List(List Ins)):List Nat:=js p.length++p.flatMap jQ
def lV(x:Int × Int):List Nat:=js x.1++js x.2
def mH(s:List Int):List Nat:=js(grp s).length++(grp s).flatMap lV
def mP(v:Int × Int × Int):List Nat:=js v.1++(js v.2.1++js v.2.2)
def mO(a:Art):List Nat:= [82,82,1]++(mf a.prog++(mH a.sch++mP a.ver))
def mV(a:Art):List Nat:=mO a++leB 4(lF(mO a))
theorem me(n:Int)(r:List Nat)(h0:0<=n)(h1:n<=9223372036854775807):jn(js n++r)=some(n,r):=by
 unfold jn js;rw [zV n.toNat 0 0 r(by simp;omega)(Or.inr rfl)(by omega)];simp only [Nat.pow_zero,Nat.mul_one,Nat.zero_add];rw [if_pos(by omega)];congr 2
 omega
theorem zh(n:Int)(r:List Nat)(h0: -9223372036854775808<=n)(h1:n<=9223372036854775807):kX(jT(zig n)++r)=some(n,r):=by
 unfold kX;rw [zV(zig n)0 0 r(by unfold zig;split<;>simp<;>omega)(Or.inr rfl)(by omega)];simp [zP]
theorem qQ(b n:Int)(r:List Nat)(h0:0<=n)(h1:n<=9223372036854775807)(hb:n<=b):kO b(js n++r)=some(n,r):=by
 unfold kO;rw [me n r h0 h1];simp only;rw [if_pos hb]
def kP(i:Ins):Prop:=(0<=i.op/\i.op<=9223372036854775807)/\(0<=i.a/\i.a<=9223372036854775807)/\(0<=i.b/\i.b<=9223372036854775807)/\(-9223372036854775808<=i.n/\i.n<=9223372036854775807)
theorem Fc(i:Ins)(r:List Nat)(h:kP i):mm(mz i++r)=some(i,r):=by
 obtain⟨⟨a1,a2⟩,⟨b1,b2⟩,⟨c1,c2⟩,⟨d1,d2⟩⟩:=h;unfold mm mz;simp only [List.append_assoc];rw [me _ _ a1 a2];simp only;rw [me _ _ b1 b2];simp only;rw [me _ _ c1 c2];simp only;rw [zh _ _ d1 d2]
theorem xj {α:Type}(P:List Nat->Option(α × List Nat))(W:α->List Nat)(q:List α)(r:List Nat)(h:∀ x∈q,∀ r,P(W x++r)=some(x,r)):jV P q.length(q.flatMap W++r)=some(q,r):=by
 induction q with
 | nil=>rfl
 | cons x q ih=>
  rw [List.flatMap_cons,List.append_assoc,List.length_cons,jV,h x(by simp)];simp only;rw [ih(fun y hy=>h y(by simp [hy]))]
theorem zu(c:List Ins)(r:List Nat)(hl:c.length<=16)(h:∀ i∈c,kP i):jC(jQ c++r)=some(c,r):=by
 unfold jC jQ;rw [List.append_assoc,qQ _ _ _(by omega)(by omega)(by omega)];simp only [Int.toNat_natCast];exact xj _ _ _ _(fun i hi r=>Fc i r(h i hi))
theorem DI(p:List(List Ins))(r:List Nat)(hl:p.length<=4)(h:∀ c∈p,c.length<=16/\∀ i∈c,kP i):kQ(mf p++r)=some(p,r):=by
 unfold kQ mf;rw [List.append_assoc,qQ _ _ _(by omega)(by omega)(by omega)];simp only [Int.toNat_natCast];exact xj _ _ _ _(fun c hc r=>zu c r(h c hc).1(h c hc).2)
theorem EV(v:Int × Int × Int)(r:List Nat)(h:kL v=true):m8(mP v++r)=some(v,r):=by
 simp only [kL,Bool.and_eq_true,decide_eq_true_eq]at h;unfold m8 mP;simp only [List.append_assoc];rw [me _ _(by omega)(by omega)];simp only;rw [me _ _(by omega)(by omega)];simp only;rw [me _ _(by omega)(by omega)]
end
section
def Sep:Option Int->List(Int × Int)->Prop
 | _, []=>True
 | p,x::q=>p≠some x.1/\Sep(some x.1)q
def jY(q:List(Int × Int)):List Int:=q.flatMap fun x=>List.replicate x.2.toNat x.1
theorem EI(s:List Int):Sep none(grp s)/\∀ x q,grp s=x::q->Sep(some x.1)q:=by
 induction s with
 | nil=>exact⟨trivial,fun x q h=>by cases h⟩
 | cons t r ih=>
  unfold grp;cases h:grp r with
  | nil=>exact⟨⟨by simp,trivial⟩,fun x q e=>by simp at e;rw [e.2];trivial⟩
  | cons x q=>
   have h1:=ih.2 x q h;simp only;split
   ·rename_i e
    rw [<-e]at h1;exact⟨⟨by simp,h1⟩,fun y q' e'=>by simp only [List.cons.injEq]at e';rw [<-e'.1,<-e'.2];exact h1⟩
   ·rename_i e
    have h2:Sep(some t)(x::q):=⟨fun e'=>e(Option.some.inj e'),h1⟩;exact⟨⟨by simp,h2⟩,fun y q' e'=>by simp only [List.cons.injEq]at e';rw [<-e'.1,<-e'.2];exact h2⟩
theorem oD(s:List Int):jY(grp s)=s:=by
 induction s with
 | nil=>rfl
 | cons t r ih=>
  have hm:=qf r;unfold grp;cases h:grp r with
  | nil=>rw [h]at ih;rw [<-ih];simp [jY]
  | cons x q=>
   rw [h]at ih hm;have hx:=(hm x(by simp)).2.1;simp only;split
   ·rename_i e
    have e1:(x.2+1).toNat=x.2.toNat+1:=by omega
    simp only [jY,List.flatMap_cons]at ih ⊢;rw [e1,List.replicate_succ,List.cons_append,e,ih]
   ·simp only [jY,List.flatMap_cons]at ih ⊢;simp [ih]
theorem rR(aa:List Int)(t:Int)(c:Nat)(hc:0<c):(aa++List.replicate c t).getLast?=some t:=by
 obtain⟨k,rfl⟩:∃ k,c=k+1:=⟨c - 1,by omega⟩;rw [List.replicate_succ',<-List.append_assoc];simp
theorem Dm(q:List(Int × Int))(aa:List Int)(r:List Nat)(hs:Sep aa.getLast? q)(hq:∀ x∈q,0<=x.1/\x.1<=63/\1<=x.2/\x.2<=500)(hl:aa.length+(jY q).length<=500):
  lp q.length aa(q.flatMap lV++r)=some(aa++jY q,r):=by
 induction q generalizing aa with
 | nil=>simp [lp,jY]
 | cons x q ih=>
  obtain⟨h1,h2,h3,h4⟩:=hq x(by simp);have ab:(jY(x::q)).length=x.2.toNat+(jY q).length:=by simp [jY]
  rw [ab]at hl;rw [List.flatMap_cons,List.length_cons,lp];unfold lV;simp only [List.append_assoc];rw [me _ _ h1(by omega)];simp only;rw [qQ _ _ _(by omega)(by omega)(by omega)];simp only;rw [if_pos⟨by omega,hs.1⟩];have:=ih(aa++List.replicate x.2.toNat x.1)(by rw [rR _ _ _(by omega)];exact hs.2)(fun y hy=>hq y(by simp [hy]))(by simp;omega);unfold lV at this;rw [this];simp [jY]
theorem AV(s:List Int)(r:List Nat)(h:i8 s=true):jP(mH s++r)=some(s,r):=by
 have h':=h;simp only [i8,Bool.and_eq_true,decide_eq_true_eq,List.all_eq_true]at h';have hg:=pq s;unfold jP mH;rw [List.append_assoc,qQ _ _ _(by omega)(by omega)(by omega)];simp only [Int.toNat_natCast];rw [Dm(grp s) []r(EI s).1(fun x hx=>by
  have h1:=qf s x hx;have h2:=h'.2 x.1 h1.1;exact⟨h2.1,h2.2,h1.2.1,by omega⟩)(by rw [oD];simpa using h'.1),oD]
 rfl
theorem pT {l r:List Nat} {a:Art}(h:oM l=some(a,r)):∃ r0,l=82::82::1::r0:=by
 unfold oM at h;split at h
 ·exact⟨_,rfl⟩
 ·cases h
theorem At {l:List Nat} {a:Art}(h:km l=some a):∃ r,oM l=some(a,r)/\r.length=4/\r=leB 4(lF(l.take(l.length - r.length))):=by
 unfold km at h;cases h1:oM l with
 | none=>rw [h1]at h;cases h
 | some y=>
  obtain⟨b,r⟩:=y;rw [h1]at h;simp only at h;split at h
  ·rename_i h2
   obtain rfl:=Option.some.inj h;exact⟨r,rfl,by rw [h2.1,pw],h2.1⟩
  ·cases h
theorem EQ(a:Art)(h:jF a=0)(hi:∀ c∈a.prog,∀ i∈c,kP i):km(mV a)=some a:=by
 have hv:iR a.prog=true/\i8 a.sch=true/\kL a.ver=true:=by
  unfold jF at h;split at h
  ·split at h
   ·rename_i h1 h2;exact⟨h1,h2⟩
   ·omega
  ·omega
 have hl:=ju hv.1;have hp:∀ c∈a.prog,c.length<=16/\∀ i∈c,kP i:=by
  intro c hc;refine⟨?_,hi c hc⟩;have h1:=hv.1;simp only [iR,Bool.and_eq_true,List.all_eq_true]at h1;exact lh(h1.2.2 c hc)
 have hr:oM(mV a)=some(a,leB 4(lF(mO a))):=by
  unfold mV mO;simp only [List.cons_append,List.nil_append,List.append_assoc,oM];rw [DI a.prog _ hl.2 hp];simp only;rw [AV a.sch _ hv.2.1];simp only;rw [EV a.ver _ hv.2.2]
 unfold km;rw [hr];simp only;have:(mV a).take((mV a).length - (leB 4(lF(mO a))).length)=mO a:=by unfold mV;simp
 rw [this,if_pos⟨rfl,h⟩]
end
section
theorem uL(l:List Nat):∀ (aa ab x:Nat)(r:List Nat),(∀ b∈l,b<256)->rdN aa ab l=some(x,r)->∃ n,l=jT n++r/\x=ab+n*2 ^ aa/\(0<n\/aa=0):=by
 induction l with
 | nil=>intro aa ab x r _ h;cases h
 | cons b l ih=>
  intro aa ab x r hl h;unfold rdN at h;split at h
  ·rename_i h1
   split at h
   ·rename_i h2
    split at h
    ·rename_i h3
     simp only [Option.some.injEq,Prod.mk.injEq]at h;obtain⟨rfl,rfl⟩:=h;have e:b % 128=b:=Nat.mod_eq_of_lt h2;exact⟨b,by rw [lY h2];rfl,by rw [e],h3⟩
    ·cases h
   ·rename_i h2
    obtain⟨n,e1,e2,e3⟩:=ih _ _ _ _(fun c hc=>hl c(by simp [hc]))h;have hb:=hl b(by simp);have hn:0<n:=by rcases e3 with e3 | e3<;>omega
    refine⟨b % 128+128*n, ?_, ?_,Or.inl(by omega)⟩
    ·rw [nA(by omega)];have q1:(b % 128+128*n) % 128+128=b:=by omega
     have q2:(b % 128+128*n)/ 128=n:=by omega
     rw [q1,q2,e1];rfl
    ·rw [e2,Nat.pow_add,Nat.add_mul,Nat.add_assoc];congr 2
     rw [Nat.mul_comm 128 n,Nat.mul_assoc,Nat.mul_comm 128]
  ·cases h
theorem ke {l r:List Nat} {x:Int}(hl:∀ b∈l,b<256)(h:jn l=some(x,r)):l=js x++r:=by
 unfold jn at h;split at h
 ·rename_i n r' e
  split at h
  ·simp only [Option.some.injEq,Prod.mk.injEq]at h;obtain⟨rfl,rfl⟩:=h;obtain⟨m,e1,e2,_⟩:=uL l _ _ _ _ hl e;simp at e2;subst e2;unfold js;simpa using e1
  ·cases h
 ·cases h
theorem Eu(n:Nat):zig(zag n)=n:=by
 unfold zig zag;split<;>split<;>omega
theorem tP {l r:List Nat} {x:Int}(hl:∀ b∈l,b<256)(h:kX l=some(x,r)):l=jT(zig x)++r:=by
 unfold kX at h;split at h
 ·rename_i n r' e
  simp only [Option.some.injEq,Prod.mk.injEq]at h;obtain⟨rfl,rfl⟩:=h;obtain⟨m,e1,e2,_⟩:=uL l _ _ _ _ hl e;simp at e2;subst e2;rw [Eu];exact e1
 ·cases h
theorem nc {b:Int} {l r:List Nat} {x:Int}(hl:∀ b∈l,b<256)(h:kO b l=some(x,r)):l=js x++r/\x<=b/\0<=x:=by
 unfold kO at h;split at h
 ·rename_i n r' e
  split at h
  ·rename_i hb
   simp only [Option.some.injEq,Prod.mk.injEq]at h;obtain⟨rfl,rfl⟩:=h;refine⟨ke hl e,hb, ?_⟩;unfold jn at e;split at e
   ·split at e
    ·simp only [Option.some.injEq,Prod.mk.injEq]at e;omega
    ·cases e
   ·cases e
  ·cases h
 ·cases h
theorem xE {l r:List Nat} {x:Ins}(hl:∀ b∈l,b<256)(h:mm l=some(x,r)):l=mz x++r:=by
 unfold mm at h;split at h
 ·cases h
 ·rename_i o l1 e1
  have q1:=ke hl e1;split at h
  ·cases h
  ·rename_i a l2 e2
   have h1:∀ b∈l1,b<256:=fun b hb=>hl b(by rw [q1];simp [hb])
   have q2:=ke h1 e2;split at h
   ·cases h
   ·rename_i c l3 e3
    have h2:∀ b∈l2,b<256:=fun b hb=>h1 b(by rw [q2];simp [hb])
    have q3:=ke h2 e3;split at h
    ·cases h
    ·rename_i n l4 e4
     have h3:∀ b∈l3,b<256:=fun b hb=>h2 b(by rw [q3];simp [hb])
     have q4:=tP h3 e4;simp only [Option.some.injEq,Prod.mk.injEq]at h;obtain⟨rfl,rfl⟩:=h;unfold mz;rw [q1,q2,q3,q4];simp
theorem qS {α:Type} {P:List Nat->Option(α × List Nat)} {W:α->List Nat}(hP:∀ {l r:List Nat} {x:α},(∀ b∈l,b<256)->P l=some(x,r)->l=W x++r)(k:Nat):
  ∀ {l r:List Nat} {xs:List α},(∀ b∈l,b<256)->jV P k l=some(xs,r)->l=xs.flatMap W++r/\xs.length=k:=by
 induction k with
 | zero=>
  intro l r xs hl h;simp only [jV,Option.some.injEq,Prod.mk.injEq]at h;obtain⟨rfl,rfl⟩:=h;exact⟨rfl,rfl⟩
 | succ k ih=>
  intro l r xs hl h;unfold jV at h;split at h
  ·cases h
  ·rename_i x r1 e1
   have q1:=hP hl e1;split at h
   ·cases h
   ·rename_i ys r2 e2
    obtain⟨q2,q3⟩:=ih(fun b hb=>hl b(by rw [q1];simp [hb]))e2;simp only [Option.some.injEq,Prod.mk.injEq]at h;obtain⟨rfl,rfl⟩:=h;exact⟨by rw [q1,q2];simp,by simp [q3]⟩
theorem tf {l r:List Nat} {x:List Ins}(hl:∀ b∈l,b<256)(h:jC l=some(x,r)):l=jQ x++r:=by
 unfold jC at h;split at h
 ·cases h
 ·rename_i k r1 e1
  obtain⟨q1,_,q0⟩:=nc hl e1;obtain⟨q2,q3⟩:=qS(W:=mz)(fun hl h=>xE hl h)_(fun b hb=>hl b(by rw [q1];simp [hb]))h;unfold jQ;have:(x.length:Int)=k:=by omega
  rw [q1,q2,this];simp
theorem vP {l r:List Nat} {x:List(List Ins)}(hl:∀ b∈l,b<256)(h:kQ l=some(x,r)):l=mf x++r:=by
 unfold kQ at h;split at h
 ·cases h
 ·rename_i k r1 e1
  obtain⟨q1,_,q0⟩:=nc hl e1;obtain⟨q2,q3⟩:=qS(W:=jQ)(fun hl h=>tf hl h)_(fun b hb=>hl b(by rw [q1];simp [hb]))h;unfold mf;have:(x.length:Int)=k:=by omega
  rw [q1,q2,this];simp
theorem vd(k:Nat):∀ {aa:List Int} {l r:List Nat} {s:List Int},(∀ b∈l,b<256)->lp k aa l=some(s,r)->∃ q,l=q.flatMap lV++r/\q.length=k/\s=aa++jY q/\Sep aa.getLast? q/\∀ x∈q,0<x.2:=by
 induction k with
 | zero=>
  intro aa l r s hl h;simp only [lp,Option.some.injEq,Prod.mk.injEq]at h;obtain⟨rfl,rfl⟩:=h;exact⟨[],rfl,rfl,by simp [jY],trivial,fun x hx=>by cases hx⟩
 | succ k ih=>
  intro aa l r s hl h;unfold lp at h;split at h
  ·cases h
  ·rename_i t r1 e1
   have q1:=ke hl e1;split at h
   ·cases h
   ·rename_i c r2 e2
    have h1:∀ b∈r1,b<256:=fun b hb=>hl b(by rw [q1];simp [hb])
    obtain⟨q2,_,_⟩:=nc h1 e2;split at h
    ·rename_i h3
     obtain⟨q,p1,p2,p3,p4,p5⟩:=ih(fun b hb=>h1 b(by rw [q2];simp [hb]))h;rw [rR _ _ _(by omega)]at p4;refine⟨(t,c)::q,by rw [q1,q2,p1];simp [lV],by simp [p2],by rw [p3];simp [jY],⟨h3.2,p4⟩,fun x hx=> ?_⟩;rcases List.mem_cons.1 hx with rfl | hx
     ·exact h3.1
     ·exact p5 x hx
    ·cases h
theorem Ff(t:Int)(n:Nat)(s:List Int)(q:List(Int × Int))(hq:grp s=q)(hs:Sep(some t)q):grp(List.replicate(n+1)t++s)=(t,((n+1:Nat):Int))::q:=by
 induction n with
 | zero=>
  simp only [Nat.zero_add,List.replicate_one,List.singleton_append,grp,hq];cases q with
  | nil=>rfl
  | cons x q=>
   simp only;rw [if_neg(fun e=>hs.1(by rw [e]))];rfl
 | succ n ih=>
  rw [List.replicate_succ,List.cons_append,grp,ih];simp
theorem uu(q:List(Int × Int)):∀ p,Sep p q->(∀ x∈q,0<x.2)->grp(jY q)=q:=by
 induction q with
 | nil=>intro p _ _;rfl
 | cons x q ih=>
  intro p hs hp;have h0:=hp x(by simp);obtain⟨n,hn⟩:∃ n:Nat,x.2.toNat=n+1:=⟨x.2.toNat - 1,by omega⟩;have e:jY(x::q)=List.replicate(n+1)x.1++jY q:=by simp [jY,hn]
  rw [e,Ff x.1 n _ q(ih _ hs.2(fun y hy=>hp y(by simp [hy])))hs.2];congr 1
  have:((n+1:Nat):Int)=x.2:=by omega
  rw [this]
theorem t7 {l r:List Nat} {s:List Int}(hl:∀ b∈l,b<256)(h:jP l=some(s,r)):l=mH s++r:=by
 unfold jP at h;split at h
 ·cases h
 ·rename_i k r1 e1
  obtain⟨q1,_,q0⟩:=nc hl e1;obtain⟨q,p1,p2,p3,p4,p5⟩:=vd _(fun b hb=>hl b(by rw [q1];simp [hb]))h;simp only [List.nil_append]at p3;unfold mH;rw [p3,uu q _ p4 p5];have:(q.length:Int)=k:=by omega
  rw [q1,p1,this];simp
theorem wO {l r:List Nat} {v:Int × Int × Int}(hl:∀ b∈l,b<256)(h:m8 l=some(v,r)):l=mP v++r:=by
 unfold m8 at h;split at h
 ·cases h
 ·rename_i a l1 e1
  have q1:=ke hl e1;split at h
  ·cases h
  ·rename_i b l2 e2
   have h1:∀ b∈l1,b<256:=fun b hb=>hl b(by rw [q1];simp [hb])
   have q2:=ke h1 e2;split at h
   ·cases h
   ·rename_i c l3 e3
    have h2:∀ b∈l2,b<256:=fun b hb=>h1 b(by rw [q2];simp [hb])
    have q3:=ke h2 e3;simp only [Option.some.injEq,Prod.mk.injEq]at h;obtain⟨rfl,rfl⟩:=h;unfold mP;rw [q1,q2,q3];simp
theorem xw {l r:List Nat} {a:Art}(hl:∀ b∈l,b<256)(h:oM l=some(a,r)):l=mO a++r:=by
 obtain⟨r0,rfl⟩:=pT h;simp only [oM]at h;have h0:∀ b∈r0,b<256:=fun b hb=>hl b(by simp [hb])
 split at h
 ·cases h
 ·rename_i p r1 e1
  have q1:=vP h0 e1;have h1:∀ b∈r1,b<256:=fun b hb=>h0 b(by rw [q1];simp [hb])
  split at h
  ·cases h
  ·rename_i s r2 e2
   have q2:=t7 h1 e2;have h2:∀ b∈r2,b<256:=fun b hb=>h1 b(by rw [q2];simp [hb])
   split at h
   ·cases h
   ·rename_i v r3 e3
    have q3:=wO h2 e3;simp only [Option.some.injEq,Prod.mk.injEq]at h;obtain⟨rfl,rfl⟩:=h;unfold mO;rw [q1,q2,q3];simp
theorem uV {l:List Nat} {a:Art}(hl:∀ b∈l,b<256)(h:km l=some a):l=mV a/\jF a=0:=by
 unfold km at h;split at h
 ·cases h
 ·rename_i a' r e
  split at h
  ·rename_i h1
   simp only [Option.some.injEq]at h;subst h;have q:=xw hl e;refine⟨?_,h1.2⟩;have h2:=h1.1;have:l.take(l.length - r.length)=mO a':=by rw [q];simp
   rw [this]at h2;unfold mV;rw [<-h2];exact q
  ·cases h
end
section
def mu:Nat->Nat->Nat->List Nat->Nat × List Nat × Bool
 | 0,_,_,l=>(0,l,true)
 | _+1,_,_, []=>(0, [],true)
 | k+1,unit,v,c::r=>if c<128 then((v+unit*(c % 128)) % 18446744073709551616,r,false)else mu k(unit*128 % 18446744073709551616)((v+unit*(c % 128)) % 18446744073709551616)r
def iM(most:Nat)(l:List Nat):Nat × List Nat × Bool:=if most<(mu 10 1 0 l).1 then(0,(mu 10 1 0 l).2.1,true)else mu 10 1 0 l
def qB(l:List Nat):Ins × List Nat × Bool:=
 let o:=iM 11 l
 let a:=iM 3 o.2.1
 let b:=iM 3 a.2.1
 let n:=mu 10 1 0 b.2.1
 (⟨o.1,a.1,b.1,zag n.1⟩,n.2.1,o.2.2 || a.2.2 || b.2.2 || n.2.2)
def lu:Nat->List Ins->List Nat->Bool->List Ins × List Nat × Bool
 | 0,c,l,b=>(c,l,b)
 | _+1,c,l,true=>(c,l,true)
 | k+1,c,l,false=>lu k(c++ [(qB l).1])(qB l).2.1(qB l).2.2
def ls:Nat->List(List Ins)->List Nat->Bool->List(List Ins)× List Nat × Bool
 | 0,p,l,b=>(p,l,b)
 | _+1,p,l,true=>(p,l,true)
 | k+1,p,l,false=>
  let n:=iM 16 l
  let c:=lu n.1 []n.2.1 n.2.2
  ls k(p++ [c.1])c.2.1 c.2.2
def nK:Nat->Int->List Int->List Int
 | 0,_,s=>s
 | n+1,t,s=>if s.length<=500 then nK n t(s++ [t])else s
def nT:Nat->List Int->List Nat->Bool->List Int × List Nat × Bool
 | 0,s,l,b=>(s,l,b)
 | _+1,s,l,true=>(s,l,true)
 | k+1,s,l,false=>
  let t:=iM 63 l
  let n:=iM 500 t.2.1
  nT k(nK n.1 t.1 s)n.2.1(t.2.2 || n.2.2)
def jX(l:List Nat):Art × Bool:=
 let t:=iM 4(l.drop 3)
 let p:=ls t.1 []t.2.1 t.2.2
 let k:=iM 500 p.2.1
 let s:=nT k.1 []k.2.1(p.2.2 || k.2.2)
 let a:=iM 5 s.2.1
 let b:=iM 3 a.2.1
 let c:=iM 500 b.2.1
 (⟨p.1,s.1,(a.1,b.1,c.1)⟩, !(s.2.2 || a.2.2 || b.2.2 || c.2.2))
theorem DF(n:Nat):∀ (k aa ab:Nat)(r:List Nat),aa+7*k=70->1<=k->ab+n*2 ^ aa<18446744073709551616->mu k(2 ^ aa)ab(jT n++r)=(ab+n*2 ^ aa,r,false):=by
 induction n using Nat.strongRecOn with
 | ind n ih=>
  intro k aa ab r hk h1 h;obtain⟨j,rfl⟩:∃ j,k=j+1:=⟨k - 1,by omega⟩;by_cases hn:n<128
  ·rw [lY hn];have e:n % 128=n:=Nat.mod_eq_of_lt hn;simp only [List.cons_append,List.nil_append,mu,e];rw [if_pos hn,Nat.mul_comm(2 ^ aa)n,Nat.mod_eq_of_lt h]
  ·rw [nA hn];have e:(n % 128+128) % 128=n % 128:=by omega
   simp only [List.cons_append,mu,e];rw [if_neg(by omega)];have hp:2 ^ (aa+7)=2 ^ aa*128:=by rw [Nat.pow_add]
   have hs:n*2 ^ aa=2 ^ aa*(n % 128)+(n / 128)*2 ^ (aa+7):=by
    have:n=n % 128+128*(n / 128):=by omega
    rw [hp];conv=>lhs;rw [this]
    rw [Nat.add_mul,Nat.mul_comm(n % 128),Nat.mul_comm 128,Nat.mul_assoc,Nat.mul_comm 128]
   have hd:1<=n / 128:=by omega
   have hge:2 ^ (aa+7)<=(n / 128)*2 ^ (aa+7):=Nat.le_mul_of_pos_left _ hd;have ac:2 ^ (aa+7)<18446744073709551616:=by omega
   have hpl:aa+7<64:=by
    apply Nat.lt_of_not_le;intro hc;have:(2:Nat) ^ 64<=2 ^ (aa+7):=Nat.pow_le_pow_right(by omega)hc;omega
   rw [Nat.mod_eq_of_lt(by omega:ab+2 ^ aa*(n % 128)<18446744073709551616),<-hp,Nat.mod_eq_of_lt ac,ih(n / 128)(by omega)j(aa+7)_ r(by omega)(by omega)(by omega),Nat.add_assoc,<-hs]
theorem FI(n:Nat)(r:List Nat)(h:n<18446744073709551616):mu 10 1 0(jT n++r)=(n,r,false):=by
 have:=DF n 10 0 0 r(by omega)(by omega)(by simpa using h);simpa using this
theorem oS(aa:Nat)(n:Int)(r:List Nat)(_h0:0<=n)(h1:n<=aa)(hm:aa<=1000):iM aa(js n++r)=(n.toNat,r,false):=by
 unfold iM js;rw [FI _ _(by omega),if_neg(by simp only;omega)]
theorem Gq(i:Ins)(r:List Nat)(h1:0<=i.op/\i.op<=11)(h2:0<=i.a/\i.a<=3)(h3:0<=i.b/\i.b<=3)(h4: -9223372036854775808<=i.n/\i.n<=9223372036854775807):qB(mz i++r)=(i,r,false):=by
 unfold qB mz;simp only [List.append_assoc];rw [oS 11 _ _ h1.1(by omega)(by omega)];simp only;rw [oS 3 _ _ h2.1(by omega)(by omega)];simp only;rw [oS 3 _ _ h3.1(by omega)(by omega)];simp only;have hz:zig i.n<18446744073709551616:=by unfold zig;split<;>omega
 rw [FI _ _ hz];simp only [zP,Bool.or_self];have e1:((i.op.toNat:Nat):Int)=i.op:=by omega
 have e2:((i.a.toNat:Nat):Int)=i.a:=by omega
 have e3:((i.b.toNat:Nat):Int)=i.b:=by omega
 rw [e1,e2,e3]
def kI(i:Ins):Prop:=(0<=i.op/\i.op<=11)/\(0<=i.a/\i.a<=3)/\(0<=i.b/\i.b<=3)/\(-9223372036854775808<=i.n/\i.n<=9223372036854775807)
theorem Fu(c:List Ins):∀ (d:List Ins)(r:List Nat),(∀ i∈c,kI i)->lu c.length d(c.flatMap mz++r)false=(d++c,r,false):=by
 induction c with
 | nil=>intro d r _;simp [lu]
 | cons i c ih=>
  intro d r h;obtain⟨h1,h2,h3,h4⟩:=h i(by simp);rw [List.length_cons,List.flatMap_cons,List.append_assoc,lu,Gq i _ h1 h2 h3 h4];simp only;rw [ih _ _(fun j hj=>h j(by simp [hj]))];simp
theorem DX(p:List(List Ins)):∀ (d:List(List Ins))(r:List Nat),(∀ c∈p,c.length<=16/\∀ i∈c,kI i)->ls p.length d(p.flatMap jQ++r)false=(d++p,r,false):=by
 induction p with
 | nil=>intro d r _;simp [ls]
 | cons c p ih=>
  intro d r h;obtain⟨h1,h2⟩:=h c(by simp);rw [List.length_cons,List.flatMap_cons,ls];unfold jQ;simp only [List.append_assoc];rw [oS 16 _ _(by omega)(by omega)(by omega)];simp only [Int.toNat_natCast];rw [Fu c []_ h2];have:=ih(d++ [c])r(fun x hx=>h x(by simp [hx]));unfold jQ at this;simp only [List.nil_append];rw [this];simp
theorem DB(n:Nat)(t:Int):∀ s:List Int,s.length+n<=501->nK n t s=s++List.replicate n t:=by
 induction n with
 | zero=>intro s _;simp [nK]
 | succ n ih=>
  intro s h;rw [nK,if_pos(by omega),ih _(by simp;omega),List.append_assoc];rfl
theorem Ee(q:List(Int × Int)):∀ (s:List Int)(r:List Nat),(∀ x∈q,0<=x.1/\x.1<=63/\1<=x.2/\x.2<=500)->s.length+(jY q).length<=500->nT q.length s(q.flatMap lV++r)false=(s++jY q,r,false):=by
 induction q with
 | nil=>intro s r _ _;simp [nT,jY]
 | cons x q ih=>
  intro s r h hl;obtain⟨h1,h2,h3,h4⟩:=h x(by simp);have aa:jY(x::q)=List.replicate x.2.toNat x.1++jY q:=by simp [jY]
  rw [aa]at hl ⊢;simp only [List.length_append,List.length_replicate]at hl;rw [List.flatMap_cons,List.length_cons,nT];unfold lV;simp only [List.append_assoc];rw [oS 63 _ _ h1(by omega)(by omega)];simp only;rw [oS 500 _ _(by omega)(by omega)(by omega)];simp only [Bool.or_self];have e1:((x.1.toNat:Nat):Int)=x.1:=by omega
  rw [e1,DB _ _ _(by omega)];have:=ih(s++List.replicate x.2.toNat x.1)r(fun y hy=>h y(by simp [hy]))(by simp;omega);unfold lV at this;rw [this];simp
theorem pO {i:Ins} {len:Int}(h:lL i len=true):(0<=i.op/\i.op<=11)/\(0<=i.a/\i.a<=3)/\(0<=i.b/\i.b<=3):=by
 simp only [lL,Bool.and_eq_true,decide_eq_true_eq]at h;obtain⟨h1,h2,h3,h4,_⟩:=h;refine⟨⟨by omega,h2⟩, ?_, ?_⟩
 ·obtain⟨o,ho⟩:∃ o:Nat,i.op.toNat=o:=⟨_,rfl⟩;rw [ho]at h3;have:o=1\/o=2\/o=3\/o=4\/o=5\/o=6\/o=7\/o=8\/o=9\/o=10\/o=11:=by omega
  rcases this with rfl | rfl | rfl | rfl | rfl | rfl | rfl | rfl | rfl | rfl | rfl<;>simp [shp,mw,jA]at h3<;>omega
 ·obtain⟨o,ho⟩:∃ o:Nat,i.op.toNat=o:=⟨_,rfl⟩;rw [ho]at h4;have:o=1\/o=2\/o=3\/o=4\/o=5\/o=6\/o=7\/o=8\/o=9\/o=10\/o=11:=by omega
  rcases this with rfl | rfl | rfl | rfl | rfl | rfl | rfl | rfl | rfl | rfl | rfl<;>simp [shp,mw,jA]at h4<;>omega
theorem rB {a:Art}(h:jF a=0):iR a.prog=true/\i8 a.sch=true/\kL a.ver=true:=by
 unfold jF at h;split at h
 ·split at h
  ·rename_i h1 h2;exact⟨h1,h2⟩
  ·omega
 ·omega
theorem A0(a:Art)(h:jF a=0)(hi:∀ c∈a.prog,∀ i∈c,kP i):jX(mV a)=(a,true):=by
 obtain⟨hp,hs,hv⟩:=rB h;have hl:=ju hp;have hc:∀ c∈a.prog,c.length<=16/\∀ i∈c,kI i:=by
  intro c hc;simp only [iR,Bool.and_eq_true,List.all_eq_true]at hp;have h1:=hp.2.2 c hc;have h2:=h1;simp only [kW,Bool.and_eq_true,List.all_eq_true,decide_eq_true_eq]at h2;refine⟨h2.1,fun i hi'=> ?_⟩;obtain⟨q1,q2,q3⟩:=pO(h2.2 i hi');exact⟨q1,q2,q3,(hi c hc i hi').2.2.2⟩
 have aa:=hs;simp only [i8,Bool.and_eq_true,decide_eq_true_eq,List.all_eq_true]at aa;have hg:=pq a.sch;have hq:∀ x∈grp a.sch,0<=x.1/\x.1<=63/\1<=x.2/\x.2<=500:=fun x hx=>by
  have h1:=qf a.sch x hx;have h2:=aa.2 x.1 h1.1;exact⟨h2.1,h2.2,h1.2.1,by omega⟩
 simp only [kL,Bool.and_eq_true,decide_eq_true_eq]at hv;obtain⟨p,s,v0,v1,v2⟩:=a;simp only at hp hs hl hc aa hg hq hv ⊢;unfold jX mV mO mf mH mP;simp only [List.cons_append,List.nil_append,List.drop_succ_cons,List.drop_zero,List.append_assoc];rw [oS 4 _ _(by omega)(by omega)(by omega)];simp only [Int.toNat_natCast];rw [DX p []_ hc];simp only [List.nil_append];rw [oS 500 _ _(by omega)(by omega)(by omega)];simp only [Int.toNat_natCast,Bool.or_self];rw [Ee(grp s) []_ hq(by rw [oD];simpa using aa.1)];simp only [List.nil_append,oD];rw [oS 5 _ _(by omega)(by omega)(by omega)];simp only;rw [oS 3 _ _(by omega)(by omega)(by omega)];simp only;rw [oS 500 _ _(by omega)(by omega)(by omega)];simp only [Bool.or_self,Bool.not_false];have e0:((v0.toNat:Nat):Int)=v0:=by omega
 have e1:((v1.toNat:Nat):Int)=v1:=by omega
 have e2:((v2.toNat:Nat):Int)=v2:=by omega
 rw [e0,e1,e2]
def tL(l:List Nat):Option Art:=if(jX l).2=true/\jF(jX l).1=0/\mV(jX l).1=l then some(jX l).1 else none
theorem AI {l:List Nat}(hl:∀ b∈l,b<256)(hi:∀ a,km l=some a->∀ c∈a.prog,∀ i∈c,kP i)(hj:∀ c∈(jX l).1.prog,∀ i∈c,kP i):tL l=km l:=by
 unfold tL;cases hd:km l with
 | none=>
  rw [if_neg];rintro⟨_,h2,h3⟩;have:=EQ _ h2 hj;rw [h3,hd]at this;cases this
 | some a=>
  obtain⟨e1,e2⟩:=uV hl hd;have hg:=A0 a e2(hi a hd);rw [<-e1]at hg;rw [hg];simp only [true_and];rw [if_pos⟨e2,e1.symm⟩]
end
section
theorem sC:∀ (k u v:Nat)(l:List Nat),(mu k u v l).1<18446744073709551616
 | 0,_,_,_=>by simp [mu]
 | _+1,_,_, []=>by simp [mu]
 | k+1,u,v,c::r=>by
  rw [mu];split
  ·exact Nat.mod_lt _(by omega)
  ·exact sC k _ _ r
theorem kD(m:Nat)(l:List Nat):(iM m l).1<=m:=by
 unfold iM;split
 ·simp
 ·omega
theorem zM(n:Nat)(h:n<18446744073709551616): -9223372036854775808<=zag n/\zag n<=9223372036854775807:=by
 unfold zag;split<;>omega
theorem zI(l:List Nat):kI(qB l).1:=by
 unfold qB;have h1:=kD 11 l;have h2:=kD 3(iM 11 l).2.1;have h3:=kD 3(iM 3(iM 11 l).2.1).2.1;refine⟨⟨?_, ?_⟩,⟨?_, ?_⟩,⟨?_, ?_⟩,zM _(sC _ _ _ _)⟩<;>simp only<;>omega
theorem rT:∀ (k:Nat)(c:List Ins)(l:List Nat)(b:Bool),(∀ i∈c,kI i)->(∀ i∈(lu k c l b).1,kI i)/\(lu k c l b).1.length<=c.length+k
 | 0,c,l,b,h=>⟨h,by simp [lu]⟩
 | k+1,c,l,true,h=>⟨h,by simp [lu]⟩
 | k+1,c,l,false,h=>by
  rw [lu];obtain⟨h1,h2⟩:=rT k(c++ [(qB l).1])(qB l).2.1(qB l).2.2(fun i hi=>by
   rcases List.mem_append.1 hi with hi | hi
   ·exact h i hi
   ·simp at hi;subst hi;exact zI l)
  exact⟨h1,by simp at h2;omega⟩
theorem sm:∀ (k:Nat)(p:List(List Ins))(l:List Nat)(b:Bool),(∀ c∈p,c.length<=16/\∀ i∈c,kI i)->(∀ c∈(ls k p l b).1,c.length<=16/\∀ i∈c,kI i)/\(ls k p l b).1.length<=p.length+k
 | 0,p,l,b,h=>⟨h,by simp [ls]⟩
 | k+1,p,l,true,h=>⟨h,by simp [ls]⟩
 | k+1,p,l,false,h=>by
  rw [ls];have hc:=rT(iM 16 l).1 [](iM 16 l).2.1(iM 16 l).2.2(fun i hi=>by cases hi);have hn:=kD 16 l;obtain⟨h1,h2⟩:=sm k(p++ [(lu(iM 16 l).1 [](iM 16 l).2.1(iM 16 l).2.2).1])(lu(iM 16 l).1 [](iM 16 l).2.1(iM 16 l).2.2).2.1(lu(iM 16 l).1 [](iM 16 l).2.1(iM 16 l).2.2).2.2(fun c hi=>by
   rcases List.mem_append.1 hi with hi | hi
   ·exact h c hi
   ·simp at hi;subst hi;exact⟨by have:=hc.2;simp at this;omega,hc.1⟩)
  exact⟨h1,by simp at h2;omega⟩
theorem rZ(l:List Nat):(∀ c∈(jX l).1.prog,c.length<=16/\∀ i∈c,kI i)/\(jX l).1.prog.length<=4:=by
 unfold jX;have h:=sm(iM 4(l.drop 3)).1 [](iM 4(l.drop 3)).2.1(iM 4(l.drop 3)).2.2(fun c hc=>by cases hc);have hn:=kD 4(l.drop 3);exact⟨h.1,by have:=h.2;simp at this;simp only;omega⟩
theorem uG {i:Ins}(h:kI i):kP i:=by
 obtain⟨h1,h2,h3,h4⟩:=h;exact⟨⟨h1.1,by omega⟩,⟨h2.1,by omega⟩,⟨h3.1,by omega⟩,h4⟩
theorem E3(n x aa:Nat)(hn:n<2 ^ aa)(h:x % 128*2 ^ aa<18446744073709551616)(hp:aa<64):n+x % 128*2 ^ aa<18446744073709551616/\n+x % 128*2 ^ aa<2 ^ (aa+7):=by
 constructor
 ·have e:18446744073709551616=2 ^ (64 - aa)*2 ^ aa:=by rw [<-Nat.pow_add,show 64 - aa+aa=64 by omega]
  rw [e]at h ⊢;have h1:x % 128<2 ^ (64 - aa):=Nat.lt_of_mul_lt_mul_right h;have h2:(x % 128+1)*2 ^ aa<=2 ^ (64 - aa)*2 ^ aa:=Nat.mul_le_mul_right _ h1;rw [Nat.add_mul,Nat.one_mul]at h2;omega
 ·have h1:2 ^ (aa+7)=128*2 ^ aa:=by rw [Nat.pow_add,Nat.mul_comm]
  have h2:x % 128*2 ^ aa<=127*2 ^ aa:=Nat.mul_le_mul_right _(by omega);omega
theorem Es(l:List Nat):∀ (aa ab x:Nat)(r:List Nat),ab<2 ^ aa->rdN aa ab l=some(x,r)->x<18446744073709551616:=by
 induction l with
 | nil=>intro aa ab x r _ h;cases h
 | cons b l ih=>
  intro aa ab x r ha h;rw [rdN]at h;split at h
  ·rename_i h1
   have hf:=E3 ab b aa ha h1.2 h1.1;split at h
   ·split at h
    ·simp only [Option.some.injEq,Prod.mk.injEq]at h;rw [<-h.1];exact hf.1
    ·cases h
   ·exact ih _ _ _ _ hf.2 h
  ·cases h
theorem oN {l r:List Nat} {x:Int}(h:jn l=some(x,r)):0<=x/\x<=9223372036854775807:=by
 unfold jn at h;split at h
 ·split at h
  ·simp only [Option.some.injEq,Prod.mk.injEq]at h;omega
  ·cases h
 ·cases h
theorem vn {l r:List Nat} {x:Int}(h:kX l=some(x,r)): -9223372036854775808<=x/\x<=9223372036854775807:=by
 unfold kX at h;split at h
 ·rename_i n r' e
  simp only [Option.some.injEq,Prod.mk.injEq]at h;rw [<-h.1];exact zM n(Es l 0 0 n r'(by simp)e)
 ·cases h
theorem Bc {l r:List Nat} {x:Ins}(h:mm l=some(x,r)):kP x:=by
 unfold mm at h;split at h
 ·cases h
 ·rename_i o l1 e1
  split at h
  ·cases h
  ·rename_i a l2 e2
   split at h
   ·cases h
   ·rename_i c l3 e3
    split at h
    ·cases h
    ·rename_i n l4 e4
     simp only [Option.some.injEq,Prod.mk.injEq]at h;rw [<-h.1];exact⟨oN e1,oN e2,oN e3,vn e4⟩
theorem sN {α:Type} {P:List Nat->Option(α × List Nat)} {Q:α->Prop}(hP:∀ {l r:List Nat} {x:α},P l=some(x,r)->Q x)(k:Nat):
  ∀ {l r:List Nat} {xs:List α},jV P k l=some(xs,r)->∀ x∈xs,Q x:=by
 induction k with
 | zero=>
  intro l r xs h;simp only [jV,Option.some.injEq,Prod.mk.injEq]at h;rw [<-h.1];intro x hx;cases hx
 | succ k ih=>
  intro l r xs h;unfold jV at h;split at h
  ·cases h
  ·rename_i x r1 e1
   split at h
   ·cases h
   ·rename_i ys r2 e2
    simp only [Option.some.injEq,Prod.mk.injEq]at h;rw [<-h.1];intro y hy;rcases List.mem_cons.1 hy with rfl | hy
    ·exact hP e1
    ·exact ih e2 y hy
theorem ww {l r:List Nat} {x:List Ins}(h:jC l=some(x,r)):∀ i∈x,kP i:=by
 unfold jC at h;split at h
 ·cases h
 ·exact sN(fun h=>Bc h)_ h
theorem yW {l r:List Nat} {x:List(List Ins)}(h:kQ l=some(x,r)):∀ c∈x,∀ i∈c,kP i:=by
 unfold kQ at h;split at h
 ·cases h
 ·exact sN(fun h=>ww h)_ h
theorem Fg {l:List Nat} {a:Art}(h:km l=some a):∀ c∈a.prog,∀ i∈c,kP i:=by
 unfold km at h;split at h
 ·cases h
 ·rename_i a' r e
  split at h
  ·simp only [Option.some.injEq]at h;subst h;obtain⟨r0,rfl⟩:=pT e;simp only [oM]at e;split at e
   ·cases e
   ·rename_i p r1 e1
    split at e
    ·cases e
    ·split at e
     ·cases e
     ·simp only [Option.some.injEq,Prod.mk.injEq]at e;rw [<-e.1];exact yW e1
  ·cases h
theorem yJ {l:List Nat}(hl:∀ b∈l,b<256):tL l=km l:=
 AI hl(fun _ h=>Fg h)(fun c hc i hi=>uG(((rZ l).1 c hc).2 i hi))
def ud(x:Nat × Nat):Nat × Nat:=(if(x.1+x.2) % 2=1 then(x.1 / 2) ^^^ 3988292384 else x.1 / 2,x.2 / 2)
def ma:Nat->Nat × Nat->Nat × Nat
 | 0,x=>x
 | k+1,x=>ud(ma k x)
theorem D2(x:Nat × Nat):(ud x).1 ^^^ (ud x).2=shN(x.1 ^^^ x.2):=by
 unfold ud shN;simp only;rw [Eq,Cs];split
 ·rw [Nat.xor_assoc,Nat.xor_comm 3988292384,<-Nat.xor_assoc]
 ·rfl
theorem B3(k:Nat)(x:Nat × Nat):(ma k x).1 ^^^ (ma k x).2=shK k(x.1 ^^^ x.2):=by
 induction k with
 | zero=>rfl
 | succ k ih=>rw [ma,D2,ih,zR k 1];rfl
theorem BL(k:Nat)(x:Nat × Nat):(ma k x).2=x.2 / 2 ^ k:=by
 induction k with
 | zero=>simp [ma]
 | succ k ih=>rw [ma];show(ma k x).2 / 2=_;rw [ih,Nat.div_div_eq_div_mul,Nat.pow_succ]
theorem yf(v c:Nat)(hc:c<256):(ma 8(v,c)).1=shK 8(v ^^^ c):=by
 have h1:=B3 8(v,c);have h2:=BL 8(v,c);have h3:c / 2 ^ 8=0:=Nat.div_eq_of_lt hc;simp only at h1 h2;rw [h2,h3,Nat.xor_zero]at h1;exact h1
theorem xV(k:Nat)(v c:Nat)(hv:v<4294967296)(hc:c<256):(ma k(v,c)).1<4294967296/\(ma k(v,c)).2<256:=by
 induction k with
 | zero=>exact⟨hv,hc⟩
 | succ k ih=>
  rw [ma];refine⟨?_, ?_⟩
  ·unfold ud;simp only;split
   ·exact Nat.xor_lt_two_pow(n:=32)(by omega)(by omega)
   ·omega
  ·show(ma k(v,c)).2 / 2<256
   omega
theorem CJ(v:Nat)(h:v<4294967296):4294967295 ^^^ v=4294967295 - v:=by
 apply Nat.eq_of_testBit_eq;intro i;have e:4294967295 - v=2 ^ 32 - (v+1):=by omega
 rw [e,Nat.testBit_two_pow_sub_succ(by omega),Nat.testBit_xor,show(4294967295:Nat)=2 ^ 32 - 1 from rfl,Nat.testBit_two_pow_sub_one];by_cases hi:i<32
 ·simp [hi]
 ·have:v.testBit i=false:=Nat.testBit_lt_two_pow(Nat.lt_of_lt_of_le(by omega:v<2 ^ 32)(Nat.pow_le_pow_right(by omega)(by omega)));simp [hi,this]
end
section
open Go.RowKit
attribute [local go_sem] Go.World.cell?_alloc_some
def byt(s:ByteArray):List Nat:=s.data.toList.map UInt8.toNat
def ScAt(w:World)(b:Nat)(s:ByteArray)(a:Nat):Prop:=w.heap[b]?=some(.cells #[.string s, .int .i64 a]184(0,0))
theorem uQ(m:Int)(w:World)(h0: -1000<=m)(h1:m<=1000):Calls Tryz.prog 188 #[.int .i64 m]w fun e w'=>e= .returned(.bool(kE m))/\w'=w:=by
 by_cases h2:0<m
 ·by_cases h3:10*m<63
  ·have HB:Hid(kE m=true):=by unfold Hid;simp [kE,h2,h3]
   go_enter Tryz.func188,Tryz.ntmps188
   go_wp2
   go_ret;exact⟨by rw [HB.out];rfl,rfl⟩
  ·have HB:Hid(kE m=false):=by unfold Hid;simp [kE,h2,h3]
   go_enter Tryz.func188,Tryz.ntmps188
   go_wp2
   go_ret;exact⟨by rw [HB.out];rfl,rfl⟩
 ·have HB:Hid(kE m=false):=by unfold Hid;simp [kE,h2]
  go_enter Tryz.func188,Tryz.ntmps188
  go_wp2
  go_ret;exact⟨by rw [HB.out];rfl,rfl⟩
theorem wC(n d last:Int)(w:World)(h0: -1<=n)(h1:n<=63)(h2:0<=d)(h3:d<=9):Calls Tryz.prog 177 #[.int .i64 n, .int .i64 d, .int .i64 last]w fun e w'=>e= .returned(.bool(lI n d last))/\w'=w:=by
 by_cases hn:n<0
 ·have hm:max n 0=0:=by omega
  have HG:Hid(lI n d last=(!(n==0)&&((decide(d<=63)&& !(d==last)) || kE d))):=by
   unfold Hid lI;rw [hm];simp
  go_enter Tryz.func177,Tryz.ntmps177
  go_wp2_with(go_at_call 188;refine(uQ _ _(by omega)(by omega)).mono ?_;rintro e w'⟨rfl,rfl⟩)
  all_goals(go_ret;refine⟨?_,rfl⟩;rw [HG.out];simp [*]<;>omega)
 ·have hm:max n 0=n:=by omega
  have HG:Hid(lI n d last=(!(n==0)&&((decide(n*10+d<=63)&& !(n*10+d==last)) || kE(n*10+d)))):=by
   unfold Hid lI;rw [hm]
  go_enter Tryz.func177,Tryz.ntmps177
  go_wp2_with(go_at_call 188;refine(uQ _ _(by omega)(by omega)).mono ?_;rintro e w'⟨rfl,rfl⟩)
  all_goals(go_ret;refine⟨?_,rfl⟩;rw [HG.out];simp [*]<;>omega)
theorem iP(s:ByteArray):(byt s).length=s.size:=by simp [byt]
theorem mr(s:ByteArray)(a:Nat)(h:a<s.size):(byt s)[a]?=some s[a].toNat:=by
 have:a<s.data.toList.length:=by simpa using h
 rw [byt,List.getElem?_map,List.getElem?_eq_getElem this];rfl
theorem Aj(s:ByteArray)(a:Nat)(h:s.size<=a):(byt s)[a]?=none:=by
 rw [List.getElem?_eq_none_iff,iP];exact h
theorem vM(s:ByteArray)(c:Nat)(h:c∈byt s):c<256:=by
 simp only [byt,List.mem_map]at h;obtain⟨x,_,rfl⟩:=h;exact x.toNat_lt
def sO(c:Option Nat):Value:=match c with
 | some c=>if isD c=true then .tuple #[.int .i64((c:Int) - 48), .bool true]else .tuple #[.int .i64 0, .bool false]
 | none=> .tuple #[.int .i64 0, .bool false]
theorem Am(s:ByteArray)(b a:Nat)(w:World)(h:ScAt w b s a)(ha:a<=s.size):
  Calls Tryz.prog 176 #[pt b]w fun e w'=>jr w' w/\e= .returned(sO(byt s)[a]?):=by
 have c0:w.cell?⟨b,0,none⟩=some(.string s):=by unfold ScAt at h;simp [World.cell?,h]
 have c1:w.cell?⟨b,1,none⟩=some(.int .i64 a):=by unfold ScAt at h;simp [World.cell?,h]
 clear h;unfold pt;by_cases aa:a<s.size
 ·have h1:(a:Int)<s.size:=by omega
  have h2:((a:Int)==(s.size:Int))=false:=by simp;omega
  have hb:=s[a].toNat_lt;have HE:=hZ(mr s a aa);by_cases h48:s[a].toNat<48
  ·have g1:((s[a].toNat:Nat):Int)<48:=by omega
   have HD:Hid(isD s[a].toNat=false):=by unfold Hid;simp [isD];omega
   go_enter Tryz.func176,Tryz.ntmps176
   go_wp2
   go_quiet(fail)
   go_wp2
   refine bodyPost_ret(v:= .tuple #[.int .i64 0, .bool false])(by simp [results,Tryz.results176,go_sem])rfl ?_;refine⟨jR(jp _)_, ?_⟩;rw [HE.out];simp [sO,HD.out]
  ·have g1:¬((s[a].toNat:Nat):Int)<48:=by omega
   by_cases h57:s[a].toNat<=57
   ·have g2:((s[a].toNat:Nat):Int)<=57:=by omega
    have HD:Hid(isD s[a].toNat=true):=by unfold Hid;simp [isD];omega
    go_enter Tryz.func176,Tryz.ntmps176
    go_wp2
    go_quiet(fail)
    go_wp2
    go_quiet(fail)
    go_wp2
    refine bodyPost_ret(v:= .tuple #[.int .i64(((s[a].toNat:Nat):Int) - 48), .bool true])(by simp [results,Tryz.results176,go_sem])rfl ?_;refine⟨jR(jR(jp _)_)_, ?_⟩;rw [HE.out];simp [sO,HD.out]
   ·have g2:57<((s[a].toNat:Nat):Int):=by omega
    have HD:Hid(isD s[a].toNat=false):=by unfold Hid;simp [isD];omega
    go_enter Tryz.func176,Tryz.ntmps176
    go_wp2
    go_quiet(fail)
    go_wp2
    refine bodyPost_ret(v:= .tuple #[.int .i64 0, .bool false])(by simp [results,Tryz.results176,go_sem])rfl ?_;refine⟨jR(jp _)_, ?_⟩;rw [HE.out];simp [sO,HD.out]
 ·have h2:((a:Int)==(s.size:Int))=true:=by simp;omega
  have HE:=hZ(Aj s a(by omega));go_enter Tryz.func176,Tryz.ntmps176
  go_wp2
  go_quiet(fail)
  go_wp2
  refine bodyPost_ret(v:= .tuple #[.int .i64 0, .bool false])(by simp [results,Tryz.results176,go_sem])rfl ?_;refine⟨jR(jp _)_, ?_⟩;rw [HE.out];simp [sO]
end
section
open Go.RowKit
attribute [local go_sem] Go.World.cell?_alloc_some
theorem ScAt.c0 {w:World} {b:Nat} {s:ByteArray} {a:Nat}(h:ScAt w b s a):w.cell?⟨b,0,none⟩=some(.string s):=by unfold ScAt at h;simp [World.cell?,h]
theorem ScAt.c1 {w:World} {b:Nat} {s:ByteArray} {a:Nat}(h:ScAt w b s a):w.cell?⟨b,1,none⟩=some(.int .i64 a):=by unfold ScAt at h;simp [World.cell?,h]
theorem ScAt.f1 {w:World} {b:Nat} {s:ByteArray} {a:Nat}(h:ScAt w b s a):w.frozen?⟨b,1,none⟩=false:=by unfold ScAt at h;simp [World.frozen?,h]
theorem ScAt.set {w:World} {b:Nat} {s:ByteArray} {a:Nat}(h:ScAt w b s a)(x:Nat):ScAt(w.setCell⟨b,1,none⟩(.int .i64 x))b s x:=by
 unfold ScAt at*;rw [heap_setCell_same w b 1 _ _ _ h];rfl
theorem ScAt.like {w w':World} {b:Nat} {s:ByteArray} {a:Nat}(h:ScAt w b s a)(hl:jr w' w):ScAt w' b s a:=by
 unfold ScAt at*;rw [hl.1];exact h
theorem ScAt.lt {w:World} {b:Nat} {s:ByteArray} {a:Nat}(h:ScAt w b s a):b<w.heap.size:=(Array.getElem?_eq_some_iff.1 h).1
def nf(s:ByteArray)(a c:Nat):Bool:=(byt s)[a]?==some c
def xY(s:ByteArray)(a c:Nat):Nat:=if nf s a c=true then a+1 else a
theorem wh(s:ByteArray)(b a c:Nat)(w:World)(h:ScAt w b s a)(ha:a<=s.size)(hs:s.size<=9223372036854775806):
  Calls Tryz.prog 100 #[pt b, .int .u8 c]w fun e w'=>w.grownBy w'(some b)/\e= .returned(.bool(nf s a c))/\ScAt w' b s(xY s a c):=by
 have c0:=h.c0;have c1:=h.c1;have f1:=h.f1;have HH:=hZ h;clear h;unfold pt;by_cases aa:a<s.size
 ·have h1:(a:Int)<s.size:=by omega
  have h2:((a:Int)==(s.size:Int))=false:=by simp;omega
  by_cases hc:s[a].toNat=c
  ·have HB:Hid(nf s a c=true):=by unfold Hid nf;rw [mr s a aa,hc];simp
   have g1:((s[a].toNat:Nat):Int)=(c:Int):=by omega
   have hsz:(a:Int)+1<=9223372036854775807:=by omega
   go_enter Tryz.func100,Tryz.ntmps100
   go_wp2
   go_quiet(fail)
   go_wp2
   go_ret;refine⟨?_,by rw [HB.out];rfl, ?_⟩
   ·exact iU _ iS
   ·rw [xY,HB.out,if_pos rfl];have:=(HH.out.like(jR(jp _)nq)).set(a+1);simpa using this
  ·have HB:Hid(nf s a c=false):=by unfold Hid nf;rw [mr s a aa];simpa using hc
   have g1:((s[a].toNat:Nat):Int)≠(c:Int):=by omega
   go_enter Tryz.func100,Tryz.ntmps100
   go_wp2
   go_quiet(fail)
   go_wp2
   go_ret;refine⟨iU _(il _ _),by rw [HB.out];rfl, ?_⟩;rw [xY,HB.out,if_neg(by simp)];exact HH.out.like(jR(jp _)_)
 ·have h2:((a:Int)==(s.size:Int))=true:=by simp;omega
  have HB:Hid(nf s a c=false):=by unfold Hid nf;rw [Aj s a(by omega)];simp
  go_enter Tryz.func100,Tryz.ntmps100
  go_wp2
  go_quiet(fail)
  go_wp2
  go_ret;refine⟨iU _(il _ _),by rw [HB.out];rfl, ?_⟩;rw [xY,HB.out,if_neg(by simp)];exact HH.out.like(jR(jp _)_)
def vG(w:World)(b:Nat):Nat:=match w.cell?⟨b,1,none⟩with
 | some(.int _ x)=>x.toNat
 | _=>0
theorem lT {w:World} {b:Nat} {s:ByteArray} {a:Nat}(h:ScAt w b s a):vG w b=a:=by simp [vG,h.c1]
theorem nx {l:List Nat} {a c:Nat}(h:l[a]?=some c):l.drop a=c::l.drop(a+1):=by
 obtain⟨hl,rfl⟩:=List.getElem?_eq_some_iff.1 h;exact List.drop_eq_getElem_cons hl
theorem kS {l:List Nat} {a c:Nat}(h:l[a]?=some c):a<l.length:=(List.getElem?_eq_some_iff.1 h).1
structure zL(w:World)(b:Nat)(s:ByteArray)(last:Int)(a:Nat)(n':Int)(a':Nat)(w':World):Prop where
 grown:w.grownBy w'(some b)
 sc:ScAt w' b s a'
 le:a'<=s.size
 lo: -1<=n'
 hi:n'<=63
 num:(thr last n'((byt s).drop a')).1=(thr last(-1)((byt s).drop a)).1
 len:a'+(thr last n'((byt s).drop a')).2=a+(thr last(-1)((byt s).drop a)).2
theorem BO {n d last:Int}(h:lI n d last=true):max n 0*10+d<=63:=by
 simp only [lI,kE,Bool.and_eq_true,Bool.or_eq_true,decide_eq_true_eq]at h;omega
theorem C4 {last n:Int} {c:Nat} {l:List Nat}(hd:isD c=true)(hg:lI n((c:Int) - 48)last=true):thr last n(c::l)=((thr last(nxt n c)l).1,(thr last(nxt n c)l).2+1):=by
 rw [thr,if_pos(by rw [hd,hg];rfl)]
theorem wS {last n:Int} {c:Nat} {l:List Nat}(h:(isD c && lI n((c:Int) - 48)last)=false):thr last n(c::l)=(n,0):=by
 rw [thr,if_neg(by rw [h];simp)]
theorem Da(s:ByteArray)(b a:Nat)(last:Int)(w:World)(h:ScAt w b s a)(ha:a<=s.size)(hs:s.size<=9223372036854775806):
  Calls Tryz.prog 142 #[pt b, .int .i64 last]w fun e w'=>w.grownBy w'(some b)/\
   e= .returned(.tuple #[.int .i64(thr last(-1)((byt s).drop a)).1, .bool(lH last(thr last(-1)((byt s).drop a)).1)])/\ScAt w' b s(a+(thr last(-1)((byt s).drop a)).2)/\ -1<=(thr last(-1)((byt s).drop a)).1/\(thr last(-1)((byt s).drop a)).1<=63:=by
 have H0:Hid(zL w b s last a(-1)a w):=⟨il _ _,h,ha,by omega,by omega,rfl,rfl⟩;clear h;unfold pt;go_enter Tryz.func142,Tryz.ntmps142
 go_wp2_with fail
 go_loopw [6](fun i w'=>∃ (n':Int)(a':Nat),i= .int .i64 n'/\Hid(zL w b s last a n' a' w'))(fun _ w'=>s.size - vG w' b)
 case atStart=>exact⟨-1,a,rfl,H0.out⟩
 case round=>
  obtain⟨n',a',rfl,HI⟩:=hrel;have ac:=HI.out.lo;have ab:=HI.out.hi;have aj:Hid(vG wr b=a'):=lT HI.out.sc;go_wp2_with fail
  refine(Am s b a' _ HI.out.sc HI.out.le).mono ?_;rintro e w1⟨hl,rfl⟩;have aa:Hid(zL w b s last a n' a' w1):=⟨jd HI.out.grown hl,HI.out.sc.like hl,HI.out.le,ac,ab,HI.out.num,HI.out.len⟩;have fin:∀ w2,jr w2 w1->(thr last n'((byt s).drop a'))=(n',0)->w.grownBy w2(some b)/\(thr last(-1)((byt s).drop a)).1=n'/\ScAt w2 b s(a+(thr last(-1)((byt s).drop a)).2):=by
   intro w2 ai he;have e1:=aa.out.num;have e2:=aa.out.len;rw [he]at e1 e2;refine⟨jd aa.out.grown ai,e1.symm, ?_⟩;rw [<-e2];exact aa.out.sc.like ai
  have af:=hZ fin;clear fin hl HI;cases hc:(byt s)[a']? with
  | none=>
   have HT:Hid(thr last n'((byt s).drop a')=(n',0)):=by
    unfold Hid;rw [List.drop_eq_nil_of_le(List.getElem?_eq_none_iff.1 hc)];rfl
   simp only [sO];go_wp2_with fail
   all_goals
    refine bodyPost_ret(v:= .tuple #[.int .i64 n', .bool(n' != -1 && n' !=last)])(by simp [results,Tryz.results142,go_sem,*])rfl ?_;obtain⟨q1,q2,q3⟩:=af.out w1(jp _)HT.out;exact⟨q1,by rw [q2];rfl,q3,by rw [q2];exact ac,by rw [q2];exact ab⟩
  | some c=>
   have ad:=nx hc;cases hd:isD c with
   | false=>
    have HT:Hid(thr last n'((byt s).drop a')=(n',0)):=by
     unfold Hid;rw [ad];exact wS(by rw [hd];rfl)
    simp only [sO,hd,Bool.false_eq_true,if_false];clear ad;go_wp2_with fail
    all_goals
     refine bodyPost_ret(v:= .tuple #[.int .i64 n', .bool(n' != -1 && n' !=last)])(by simp [results,Tryz.results142,go_sem,*])rfl ?_;obtain⟨q1,q2,q3⟩:=af.out w1(jp _)HT.out;exact⟨q1,by rw [q2];rfl,q3,by rw [q2];exact ac,by rw [q2];exact ab⟩
   | true=>
    have hcr:48<=c/\c<=57:=by simpa [isD]using hd
    simp only [sO,hd,if_true];have ag:=kS hc;cases hg:lI n'((c:Int) - 48)last with
    | false=>
     have HT:Hid(thr last n'((byt s).drop a')=(n',0)):=by
      unfold Hid;rw [ad];exact wS(by rw [hg];simp)
     clear ad;go_wp2_with(go_at_call 177;refine(wC _ _ _ _ ac ab(by omega)(by omega)).mono ?_;rintro e w'⟨rfl,rfl⟩;rw [hg])
     all_goals
      refine bodyPost_ret(v:= .tuple #[.int .i64 n', .bool(n' != -1 && n' !=last)])(by simp [results,Tryz.results142,go_sem,*])rfl ?_;obtain⟨q1,q2,q3⟩:=af.out _(jp _)HT.out;exact⟨q1,by rw [q2];rfl,q3,by rw [q2];exact ac,by rw [q2];exact ab⟩
    | true=>
     have ah:=C4(l:=(byt s).drop(a'+1))hd hg;have ak:=BO hg;have HN:Hid(zL w b s last a(nxt n' c)(a'+1)(w1.setCell⟨b,1,none⟩(.int .i64(a'+1:Nat)))):=by
      have e1:=aa.out.num;have e2:=aa.out.len;rw [ad,ah]at e1 e2;exact⟨ic aa.out.grown iS,aa.out.sc.set(a'+1),by rw [iP]at ag;omega,by unfold nxt;omega,ak,e1,by simp only at e2;omega⟩
     have c1:=aa.out.sc.c1;have f1:=aa.out.sc.f1;rw [iP]at ag;have hsz:(a':Int)+1<=9223372036854775807:=by omega
     have HA:Hid(vG wr b=a'):=aj.out;clear ad ah;by_cases hneg:n'<0
     ·have ae:Hid(nxt n' c=(c:Int) - 48):=by unfold Hid nxt;omega
      go_wp2_with(go_at_call 177;refine(wC _ _ _ _ ac ab(by omega)(by omega)).mono ?_;rintro e w'⟨rfl,rfl⟩;rw [hg])
      go_roundw
      case rel=>exact⟨nxt n' c,a'+1,by rw [ae.out],hZ(by simpa using HN.out)⟩
      case measure=>
       have:=lT HN.out.sc;have h2:=HA.out;simp only [Int.natCast_add,Int.natCast_one]at this;omega
     ·have ae:Hid(nxt n' c=n'*10+((c:Int) - 48)):=by unfold Hid nxt;omega
      go_wp2_with(go_at_call 177;refine(wC _ _ _ _ ac ab(by omega)(by omega)).mono ?_;rintro e w'⟨rfl,rfl⟩;rw [hg])
      go_roundw
      case rel=>exact⟨nxt n' c,a'+1,by rw [ae.out],hZ(by simpa using HN.out)⟩
      case measure=>
       have:=lT HN.out.sc;have h2:=HA.out;simp only [Int.natCast_add,Int.natCast_one]at this;omega
structure zX(w:World)(b:Nat)(s:ByteArray)(a:Nat)(n':Int)(a':Nat)(w':World):Prop where
 grown:w.grownBy w'(some b)
 sc:ScAt w' b s a'
 le:a'<=s.size
 lo:0<=n'
 hi:n'<=501
 num:(cnt n'((byt s).drop a')).1=(cnt 0((byt s).drop a)).1
 len:a'+(cnt n'((byt s).drop a')).2=a+(cnt 0((byt s).drop a)).2
theorem Cq {n:Int} {c:Nat} {l:List Nat}(hd:(isD c && !(n==0 && c==48))=true):cnt n(c::l)=((cnt(min(10*n+((c:Int) - 48))501)l).1,(cnt(min(10*n+((c:Int) - 48))501)l).2+1):=by
 rw [cnt,if_pos hd]
theorem xA {n:Int} {c:Nat} {l:List Nat}(h:(isD c && !(n==0 && c==48))=false):cnt n(c::l)=(n,0):=by
 rw [cnt,if_neg(by rw [h];simp)]
theorem Fe(s:ByteArray)(b a:Nat)(w:World)(h:ScAt w b s a)(ha:a<=s.size)(hs:s.size<=9223372036854775806):
  Calls Tryz.prog 143 #[pt b]w fun e w'=>w.grownBy w'(some b)/\
   e= .returned(.int .i64(cnt 0((byt s).drop a)).1)/\ScAt w' b s(a+(cnt 0((byt s).drop a)).2)/\0<=(cnt 0((byt s).drop a)).1/\(cnt 0((byt s).drop a)).1<=501:=by
 have H0:Hid(zX w b s a 0 a w):=⟨il _ _,h,ha,by omega,by omega,rfl,rfl⟩;clear h;unfold pt;go_enter Tryz.func143,Tryz.ntmps143
 go_wp2_with fail
 go_loopw [3](fun i w'=>∃ (n':Int)(a':Nat),i= .int .i64 n'/\Hid(zX w b s a n' a' w'))(fun _ w'=>s.size - vG w' b)
 case atStart=>exact⟨0,a,rfl,H0.out⟩
 case round=>
  obtain⟨n',a',rfl,HI⟩:=hrel;have ae:=HI.out.lo;have ad:=HI.out.hi;have af:Hid(vG wr b=a'):=lT HI.out.sc;go_wp2_with fail
  refine(Am s b a' _ HI.out.sc HI.out.le).mono ?_;rintro e w1⟨hl,rfl⟩;have aa:Hid(zX w b s a n' a' w1):=⟨jd HI.out.grown hl,HI.out.sc.like hl,HI.out.le,ae,ad,HI.out.num,HI.out.len⟩;have fin:(cnt n'((byt s).drop a'))=(n',0)->w.grownBy w1(some b)/\(cnt 0((byt s).drop a)).1=n'/\ScAt w1 b s(a+(cnt 0((byt s).drop a)).2):=by
   intro he;have e1:=aa.out.num;have e2:=aa.out.len;rw [he]at e1 e2;refine⟨aa.out.grown,e1.symm, ?_⟩;rw [<-e2];exact aa.out.sc
  have ah:=hZ fin;clear fin hl HI;cases hc:(byt s)[a']? with
  | none=>
   have HT:Hid(cnt n'((byt s).drop a')=(n',0)):=by
    unfold Hid;rw [List.drop_eq_nil_of_le(List.getElem?_eq_none_iff.1 hc)];rfl
   simp only [sO];go_wp2_with fail
   go_ret;obtain⟨q1,q2,q3⟩:=ah.out HT.out;exact⟨q1,by rw [q2];rfl,q3,by rw [q2];exact ae,by rw [q2];exact ad⟩
  | some c=>
   have ac:=nx hc;have aj:=kS hc;rw [iP]at aj;cases hd:isD c with
   | false=>
    have HT:Hid(cnt n'((byt s).drop a')=(n',0)):=by
     unfold Hid;rw [ac];exact xA(by rw [hd];rfl)
    simp only [sO,hd,Bool.false_eq_true,if_false];clear ac;go_wp2_with fail
    go_ret;obtain⟨q1,q2,q3⟩:=ah.out HT.out;exact⟨q1,by rw [q2];rfl,q3,by rw [q2];exact ae,by rw [q2];exact ad⟩
   | true=>
    have hcr:48<=c/\c<=57:=by simpa [isD]using hd
    simp only [sO,hd,if_true];by_cases hz:n'=0/\c=48
    ·obtain⟨rfl,rfl⟩:=hz;have HT:Hid(cnt 0((byt s).drop a')=(0,0)):=by
      unfold Hid;rw [ac];exact xA rfl
     clear ac;go_wp2_with fail
     go_ret;obtain⟨q1,q2,q3⟩:=ah.out HT.out;exact⟨q1,by rw [q2];rfl,q3,by rw [q2];exact ae,by rw [q2];exact ad⟩
    ·have ai:=Cq(n:=n')(l:=(byt s).drop(a'+1))(show(isD c && !(n'==0 && c==48))=true by
      rw [hd];simp;omega)
     have HN:Hid(zX w b s a(min(10*n'+((c:Int) - 48))501)(a'+1)(w1.setCell⟨b,1,none⟩(.int .i64(a'+1:Nat)))):=by
      have e1:=aa.out.num;have e2:=aa.out.len;rw [ac,ai]at e1 e2;exact⟨ic aa.out.grown iS,aa.out.sc.set(a'+1),by omega,by omega,by omega,e1,by simp only at e2;omega⟩
     have c1:=aa.out.sc.c1;have f1:=aa.out.sc.f1;have hsz:(a':Int)+1<=9223372036854775807:=by omega
     clear ac ai;have ag:n'=0->((c:Int) - 48==0)=false:=fun h=>by simp;omega
     clear hz;cases hq:(n'==0)with
     | true=>
      have hq3:=ag(by simpa using hq);clear ag;by_cases hm:501<10*n'+((c:Int) - 48)
      ·have ab:Hid(min(10*n'+((c:Int) - 48))501=501):=by unfold Hid;omega
       go_wp2_with fail
       all_goals
        go_roundw
        case rel=>exact⟨_,a'+1,rfl,hZ(by rw [ab.out]at HN;simpa using HN.out)⟩
        case measure=>
         have:=lT HN.out.sc;have h2:=af.out;simp only [Int.natCast_add,Int.natCast_one]at this;omega
      ·have ab:Hid(min(10*n'+((c:Int) - 48))501=10*n'+((c:Int) - 48)):=by unfold Hid;omega
       go_wp2_with fail
       all_goals
        go_roundw
        case rel=>exact⟨_,a'+1,rfl,hZ(by rw [ab.out]at HN;simpa using HN.out)⟩
        case measure=>
         have:=lT HN.out.sc;have h2:=af.out;simp only [Int.natCast_add,Int.natCast_one]at this;omega
     | false=>
      clear ag;by_cases hm:501<10*n'+((c:Int) - 48)
      ·have ab:Hid(min(10*n'+((c:Int) - 48))501=501):=by unfold Hid;omega
       go_wp2_with fail
       all_goals
        go_roundw
        case rel=>exact⟨_,a'+1,rfl,hZ(by rw [ab.out]at HN;simpa using HN.out)⟩
        case measure=>
         have:=lT HN.out.sc;have h2:=af.out;simp only [Int.natCast_add,Int.natCast_one]at this;omega
      ·have ab:Hid(min(10*n'+((c:Int) - 48))501=10*n'+((c:Int) - 48)):=by unfold Hid;omega
       go_wp2_with fail
       all_goals
        go_roundw
        case rel=>exact⟨_,a'+1,rfl,hZ(by rw [ab.out]at HN;simpa using HN.out)⟩
        case measure=>
         have:=lT HN.out.sc;have h2:=af.out;simp only [Int.natCast_add,Int.natCast_one]at this;omega
end
section
open Go.RowKit
attribute [local go_sem] Go.World.cell?_alloc_some
def iV(s:ByteArray)(a:Nat)(last:Int):Gy:=jE last((byt s).drop a)
theorem FC {s:ByteArray} {a:Nat} {last:Int}(h:(lH last(thr last(-1)((byt s).drop a)).1 && nf s(a+(thr last(-1)((byt s).drop a)).2)42)=false):
  iV s a last=⟨(thr last(-1)((byt s).drop a)).1,1,lH last(thr last(-1)((byt s).drop a)).1,(thr last(-1)((byt s).drop a)).2⟩:=by
 unfold iV jE;rw [if_neg];unfold nf at h;rw [List.getElem?_drop,h];simp
theorem CQ {s:ByteArray} {a:Nat} {last:Int}(h1:lH last(thr last(-1)((byt s).drop a)).1=true)(h2:nf s(a+(thr last(-1)((byt s).drop a)).2)42=true):
  iV s a last=⟨(thr last(-1)((byt s).drop a)).1,(cnt 0((byt s).drop(a+(thr last(-1)((byt s).drop a)).2+1))).1,decide(1<(cnt 0((byt s).drop(a+(thr last(-1)((byt s).drop a)).2+1))).1),
   (thr last(-1)((byt s).drop a)).2+1+(cnt 0((byt s).drop(a+(thr last(-1)((byt s).drop a)).2+1))).2⟩:=by
 unfold iV jE;unfold nf at h2;rw [if_pos(by rw [List.getElem?_drop,h1,h2];rfl),List.drop_drop];simp only [Nat.add_assoc]
def Cz(s:ByteArray)(b a:Nat)(last:Int)(w:World)(e:Ending)(w':World):Prop:=
 w.grownBy w'(some b)/\e= .returned(.tuple #[.agg #[.int .i64(iV s a last).thread, .int .i64(iV s a last).count], .bool(iV s a last).ok])/\ScAt w' b s(a+(iV s a last).len)/\
  0<=(iV s a last).count/\(iV s a last).count<=501/\ -1<=(iV s a last).thread/\(iV s a last).thread<=63
theorem ScAt.grown {w w':World} {b:Nat} {s:ByteArray} {a:Nat}(h:ScAt w b s a)(hg:w.grownBy w' none):ScAt w' b s a:=by
 have hl:=h.lt;unfold ScAt at*;rw [hg.block b hl(by simp)];exact h
theorem ScAt.setOther {w:World} {b g o:Nat} {v:Value} {s:ByteArray} {a:Nat}(h:ScAt w b s a)(hg:b≠g):ScAt(w.setCell⟨g,o,none⟩v)b s a:=by
 unfold ScAt at*;rw [Below.heap_setCell _ _ _ _(by simpa using hg)];exact h
theorem FR(s:ByteArray)(b a:Nat)(last:Int)(w:World)(h:ScAt w b s a)(ha:a<=s.size)(hs:s.size<=9223372036854775806):
  Calls Tryz.prog 101 #[pt b, .int .i64 last]w(Cz s b a last w):=by
 have hb:=h.lt;have HH:=hZ h;clear h;have aG:pt b= .pointer(some⟨b,0,none⟩):=rfl;rw [aG];go_enter Tryz.func101,Tryz.ntmps101
 go_wp2_with fail
 refine(Da s b a last _(HH.out.grown(ij(il _ _)))ha hs).mono ?_;rintro e w1⟨ae,rfl,aq,an,am⟩;have av:w.grownBy w1(some b):=ic(ij(il _ _))ae;have ak:w.heap.size<w1.heap.size:=by have:=ae.size;simp at this;omega
 have ax:w1.heap[w.heap.size]?=some(.cells #[.int .i64 0, .int .i64 0]187(0,0)):=by
  rw [ae.block w.heap.size(by simp)(by simp;omega)];exact heap_alloc_new w _
 have au:=hZ av;have ap:=hZ aq;have ad:=hZ ax;have ah:a+(thr last(-1)((byt s).drop a)).2<=s.size:=by
  have:=zQ last(-1)((byt s).drop a);rw [List.length_drop,iP]at this;omega
 have NO:= @FC s a last;have ay:= @CQ s a last;clear ae av aq ax;generalize thr last(-1)((byt s).drop a)=T at*;obtain⟨n,k⟩:=T;simp only at*;have fin:∀ (w2:World)(x y:Int)(z:Bool)(l:Nat),iV s a last=⟨x,y,z,l⟩->w.grownBy w2(some b)->ScAt w2 b s(a+l)->w2.heap[w.heap.size]?=some(.cells #[.int .i64 0, .int .i64 0]187(0,0))->0<=y->y<=501-> -1<=x->x<=63->
   Cz s b a last w(.returned(.tuple #[.agg #[.int .i64 x, .int .i64 y], .bool z]))((w2.setCell⟨w.heap.size,0,none⟩(.int .i64 x)).setCell⟨w.heap.size,1,none⟩(.int .i64 y))/\
   ((w2.setCell⟨w.heap.size,0,none⟩(.int .i64 x)).setCell⟨w.heap.size,1,none⟩(.int .i64 y)).heap[w.heap.size]?=some(.cells #[.int .i64 x, .int .i64 y]187(0,0)):=by
  intro w2 x y z l hr hg az aC h1 h2 h3 h4;refine⟨?_, ?_⟩
  ·unfold Cz;rw [hr];exact⟨iC(iC hg(Nat.le_refl _))(Nat.le_refl _),rfl,(az.setOther(by omega)).setOther(by omega),h1,h2,h3,h4⟩
  ·rw [heap_setCell_same _ _ 1 _ _ _(heap_setCell_same _ _ 0 _ _ _ aC)];rfl
 have al:=hZ fin;have hne:w.heap.size≠b:=by omega
 have z1:w1.cell?⟨w.heap.size,0,none⟩=some(.int .i64 0):=by have:=ad.out;simp [World.cell?,this]
 have z2:w1.cell?⟨w.heap.size,1,none⟩=some(.int .i64 0):=by have:=ad.out;simp [World.cell?,this]
 have z3:w1.frozen?⟨w.heap.size,0,none⟩=false:=by have:=ad.out;simp [World.frozen?,this]
 have z4:w1.frozen?⟨w.heap.size,1,none⟩=false:=by have:=ad.out;simp [World.frozen?,this]
 clear fin;cases hok:lH last n with
 | false=>
  have hR:=NO(by rw [hok];rfl);rw [hok]at hR;go_wp2_with fail
  obtain⟨f1,f2⟩:=al.out w1 n 1 false k hR au.out ap.out ad.out(by omega)(by omega)an am;refine bodyPost_ret(v:= .tuple #[.agg #[.int .i64 n, .int .i64 1], .bool false]) ?_ rfl f1;have y1:=cell_of_row _ _ 0 _ _ _ f2;have y2:=cell_of_row _ _ 1 _ _ _ f2;simp at y1 y2;simp [results,Tryz.results101,go_sem,y1,y2]
 | true=>
  go_wp2_with(go_at_call 100;refine(wh s b _ 42 _ ap.out ah hs).mono ?_)
  rintro e w2⟨af,rfl,aa⟩;have aw:Hid(w.grownBy w2(some b)):=ic au.out af;have ac:w2.heap[w.heap.size]?=some(.cells #[.int .i64 0, .int .i64 0]187(0,0)):=by
   rw [af.block w.heap.size ak(by simp;omega)];exact ad.out
  have aj:w.heap.size<w2.heap.size:=by have:=af.size;omega
  have y1:w2.cell?⟨w.heap.size,0,none⟩=some(.int .i64 0):=by simp [World.cell?,ac]
  have y2:w2.cell?⟨w.heap.size,1,none⟩=some(.int .i64 0):=by simp [World.cell?,ac]
  have y3:w2.frozen?⟨w.heap.size,0,none⟩=false:=by simp [World.frozen?,ac]
  have y4:w2.frozen?⟨w.heap.size,1,none⟩=false:=by simp [World.frozen?,ac]
  have ar:=hZ ac;clear af ac z1 z2 z3 z4;unfold xY at aa;cases hit:nf s(a+k)42 with
  | false=>
   have hR:=NO(by rw [hit];simp);rw [hok]at hR;rw [hit,if_neg(by simp)]at aa;have ai:=hZ aa;clear aa;go_wp2_with fail
   obtain⟨f1,f2⟩:=al.out w2 n 1 true k hR aw.out ai.out ar.out(by omega)(by omega)an am;refine bodyPost_ret(v:= .tuple #[.agg #[.int .i64 n, .int .i64 1], .bool true]) ?_ rfl f1;have x1:=cell_of_row _ _ 0 _ _ _ f2;have x2:=cell_of_row _ _ 1 _ _ _ f2;simp at x1 x2;simp [results,Tryz.results101,go_sem,x1,x2]
  | true=>
   have hR:=ay hok hit;rw [hit,if_pos rfl]at aa;have ai:=hZ aa;have hlt:a+k<s.size:=by
    unfold nf at hit;have:(byt s)[a+k]?=some 42:=by simpa using hit
    have:=kS this;rwa [iP]at this
   clear aa NO ay;have e1:a+k+1=a+(k+1):=by omega
   have hC:=Fe s b(a+k+1)w2 ai.out(by omega)hs;generalize cnt 0((byt s).drop(a+k+1))=C at*;obtain⟨c,l⟩:=C;simp only at hC hR;have HC:=hZ hC;clear hC;go_wp2_with(go_at_call 143;refine HC.out.mono ?_)
   rintro e w3⟨ag,rfl,ao,aB,aF⟩;have aE:Hid(w.grownBy w3(some b)):=ic aw.out ag;have ab:w3.heap[w.heap.size]?=some(.cells #[.int .i64 0, .int .i64 0]187(0,0)):=by
    rw [ag.block w.heap.size aj(by simp;omega)];exact ar.out
   have x1:w3.cell?⟨w.heap.size,0,none⟩=some(.int .i64 0):=by simp [World.cell?,ab]
   have x2:w3.cell?⟨w.heap.size,1,none⟩=some(.int .i64 0):=by simp [World.cell?,ab]
   have x3:w3.frozen?⟨w.heap.size,0,none⟩=false:=by simp [World.frozen?,ab]
   have x4:w3.frozen?⟨w.heap.size,1,none⟩=false:=by simp [World.frozen?,ab]
   have aA:=hZ ab;have aD:=hZ ao;clear ag ab ao y1 y2 y3 y4;go_wp2_with fail
   all_goals
    obtain⟨f1,f2⟩:=al.out w3 n c(decide(1<c))(k+1+l)(by rw [hR])aE.out(by have:=aD.out;rwa [show a+k+1+l=a+(k+1+l)by omega]at this)aA.out aB aF an am;refine bodyPost_ret(v:= .tuple #[.agg #[.int .i64 n, .int .i64 c], .bool(decide(1<c))]) ?_ rfl f1;have x1:=cell_of_row _ _ 0 _ _ _ f2;have x2:=cell_of_row _ _ 1 _ _ _ f2;simp at x1 x2;simp [results,Tryz.results101,go_sem,x1,x2]
end
end Go.Proofs.YtklenjmfalljgabGreatDoor
