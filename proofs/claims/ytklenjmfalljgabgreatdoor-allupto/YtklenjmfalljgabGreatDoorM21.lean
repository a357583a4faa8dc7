/- The texts TxtW BytP BytQ Wqa Wqb Wqc. -/
import Derived.Test.YtklenjmfalljgabGreatDoorM00
import Derived.Lib.ItoaNum
import Derived.Lib.Join
namespace Go.Proofs.YtklenjmfalljgabGreatDoor
set_option maxRecDepth 100000
set_option maxHeartbeats 8000000
section
def validS(l:List Int):Bool:=decide (l.length<=500) && l.all fun t=>decide (0<=t) && decide (t<=63)
def grp:List Int->List (Int × Int)
 | []=>[]
 | t::r=>match grp r with
  | []=>[(t,1)]
  | x::q=>if t=x.1 then (t,x.2+1)::q else (t,1)::x::q
def bump:List (Int × Int)->List (Int × Int)
 | []=>[]
 | [x]=>[(x.1,x.2+1)]
 | x::y::q=>x::bump (y::q)
theorem oK(t:Int)(r:List Int):∃ n q,grp (t::r)=(t,n)::q:=by
 unfold grp;cases grp r with
 | nil=>exact⟨_,_,rfl⟩
 | cons x q=>simp only;split<;>exact⟨_,_,rfl⟩
theorem BF{l:List Int}(h:l≠[]):grp l≠[]:=by
 cases l with
 | nil=>exact absurd rfl h
 | cons t r=>obtain⟨n,q,e⟩:=oK t r;rw [e];simp
theorem sm(l:List Int)(t:Int):grp (l++[t])=if l.getLast?=some t then bump (grp l) else grp l++[(t,1)]:=by
 induction l with
 | nil=>simp [grp]
 | cons a r ih=>
  cases r with
  | nil=>
   by_cases h:a=t
   ·simp [grp,bump,h]
   ·simp [grp,h]
  | cons b s=>
   have f:(a::b::s).getLast?=(b::s).getLast?:=by simp [List.getLast?_cons_cons]
   rw [f];obtain⟨n,q,e⟩:=oK b s;have i:a::b::s++[t]=a::(b::s++[t]):=rfl;have j:grp (a::b::s)=if a=b then (a,n+1)::q else (a,1)::(b,n)::q:=by
    conv=>lhs;rw [grp,e]
   rw [i,grp,ih,j,e];by_cases d:(b::s).getLast?=some t
   ·rw [if_pos d,if_pos d];by_cases c:a=b
    ·rw [if_pos c];cases q with
     | nil=>simp [bump,c]
     | cons x q=>simp [bump,c]
    ·rw [if_neg c];cases q with
     | nil=>simp [bump,c]
     | cons x q=>simp [bump,c]
   ·rw [if_neg d,if_neg d];by_cases c:a=b
    ·rw [if_pos c];simp [c]
    ·rw [if_neg c];simp [c]
theorem x9(l:List Int):(grp l).getLast?.map (·.1)=l.getLast?:=by
 induction l with
 | nil=>rfl
 | cons a r ih=>
  cases r with
  | nil=>rfl
  | cons b s=>
   obtain⟨n,q,e⟩:=oK b s;rw [grp,e];rw [e]at ih;rw [List.getLast?_cons_cons];simp only;split
   ·rename_i h
    rw [<-ih];cases q with
    | nil=>simp [h]
    | cons x q=>simp [List.getLast?_cons_cons]
   ·rw [<-ih];simp [List.getLast?_cons_cons]
theorem lN(l:List Int):(grp l).length<=l.length:=by
 induction l with
 | nil=>simp [grp]
 | cons a r ih=>
  unfold grp;cases h:grp r with
  | nil=>simp
  | cons x q=>
   rw [h]at ih;simp only;split
   ·simp at ih ⊢;omega
   ·simpa using ih
theorem mI(l:List Int):∀ x∈grp l,x.1∈l/\1<=x.2/\x.2<=l.length:=by
 induction l with
 | nil=>simp [grp]
 | cons a r ih=>
  unfold grp;cases h:grp r with
  | nil=>simp;omega
  | cons x q=>
   rw [h]at ih;have hx:=ih x (by simp);simp only;split
   ·rename_i e
    intro y b;rcases List.mem_cons.1 b with rfl | b
    ·simp;omega
    ·have:=ih y (by simp [b]);simp;exact⟨Or.inr this.1,this.2.1,by omega⟩
   ·intro y b;rcases List.mem_cons.1 b with rfl | b
    ·simp;omega
    ·have:=ih y b;simp;exact⟨Or.inr this.1,this.2.1,by omega⟩
def wordS(t n:Int):List UInt8:=if n=1 then Lib.itoa t else Lib.itoa t++[42]++Lib.itoa n
def printS(l:List Int):List UInt8:=Lib.join ((grp l).map fun x=>wordS x.1 x.2) [32]
def numBF:Nat->Nat->List Nat
 | 0,n=>[n]
 | k+1,n=>if n<128 then [n] else (n % 128+128)::numBF k (n / 128)
theorem sF:∀ (j k n:Nat),n<=j->n<=k->numBF j n=numBF k n
 | 0,0,_,_,_=>rfl
 | 0,k+1,n,h,_=>by simp only [numBF];rw [if_pos (by omega)]
 | j+1,0,n,_,h=>by simp only [numBF];rw [if_pos (by omega)]
 | j+1,k+1,n,h1,h2=>by
  simp only [numBF];by_cases h:n<128
  ·rw [if_pos h,if_pos h]
  ·rw [if_neg h,if_neg h,sF j k (n / 128) (by omega) (by omega)]
def numB(n:Nat):List Nat:=numBF n n
theorem jO{n:Nat}(h:n<128):numB n=[n]:=by
 unfold numB;cases n with
 | zero=>rfl
 | succ k=>simp only [numBF];rw [if_pos h]
theorem kG{n:Nat}(h:¬n<128):numB n=(n % 128+128)::numB (n / 128):=by
 unfold numB;cases n with
 | zero=>omega
 | succ k=>
  simp only [numBF];rw [if_neg h,sF k ((k+1) / 128) ((k+1) / 128) (by omega) (Nat.le_refl _)]
theorem jz(n:Nat):∀ b∈numB n,b<256:=by
 induction n using Nat.strongRecOn with
 | ind n ih=>
  by_cases h:n<128
  ·rw [jO h];simp;omega
  ·rw [kG h];intro b a;rcases List.mem_cons.1 a with rfl | a
   ·omega
   ·exact ih (n / 128) (by omega) b a
def rdN(place n:Nat):List Nat->Option (Nat × List Nat)
 | []=>none
 | b::r=>if place<64/\(b % 128)*2 ^ place<18446744073709551616 then
   (if b<128 then (if 0<b\/place=0 then some (n+(b % 128)*2 ^ place,r) else none) else rdN (place+7) (n+(b % 128)*2 ^ place) r)
  else none
theorem uX(n:Nat):∀ (a b:Nat) (r:List Nat),n*2 ^ a<18446744073709551616->(0<n\/a=0)->a<64->rdN a b (numB n++r)=some (b+n*2 ^ a,r):=by
 induction n using Nat.strongRecOn with
 | ind n ih=>
  intro a b r f i c;by_cases h:n<128
  ·rw [jO h];have e:n % 128=n:=Nat.mod_eq_of_lt h;simp only [List.cons_append,List.nil_append,rdN,e];rw [if_pos ⟨c,f⟩,if_pos h,if_pos i]
  ·rw [kG h];have e:(n % 128+128) % 128=n % 128:=by omega
   have hp:0<2 ^ a:=Nat.two_pow_pos _;have hle:n % 128*2 ^ a<=n*2 ^ a:=Nat.mul_le_mul_right _ (Nat.mod_le _ _);have hsum:n % 128*2 ^ a+n / 128*2 ^ (a+7)=n*2 ^ a:=by
    have:(2:Nat) ^ (a+7)=128*2 ^ a:=by rw [Nat.pow_add,Nat.mul_comm]
    rw [this,<-Nat.mul_assoc,<-Nat.add_mul];congr 1
    omega
   have d:0<n / 128:=by omega
   have j:a+7<64:=by
    by_cases hc:a+7<64
    ·exact hc
    ·have:2 ^ 64<=2 ^ (a+7):=Nat.pow_le_pow_right (by decide) (by omega);have h5:2 ^ (a+7)<=n / 128*2 ^ (a+7):=Nat.le_mul_of_pos_left _ d;have h6:(2:Nat) ^ 64=18446744073709551616:=by decide
     omega
   simp only [List.cons_append,rdN,e];rw [if_pos ⟨c,by omega⟩,if_neg (by omega),ih (n / 128) (by omega) (a+7) _ r (by omega) (Or.inl d) j];congr 2
   omega
def rdWhole(l:List Nat):Option (Int × List Nat):=match rdN 0 0 l with
 | some (n,r)=>if n<=9223372036854775807 then some ((n:Int),r) else none
 | none=>none
def zig(n:Int):Nat:=if n<0 then (-2*n - 1).toNat else (2*n).toNat
def zag(n:Nat):Int:=if n % 2=1 then -((n / 2:Nat):Int) - 1 else ((n / 2:Nat):Int)
theorem vm(n:Int):zag (zig n)=n:=by
 unfold zag zig;split<;>split<;>omega
def rdSigned(l:List Nat):Option (Int × List Nat):=match rdN 0 0 l with
 | some (n,r)=>some (zag n,r)
 | none=>none
def rdMost(b:Int)(l:List Nat):Option (Int × List Nat):=match rdWhole l with
 | some (n,r)=>if n<=b then some (n,r) else none
 | none=>none
def rdIns(l:List Nat):Option (Ins × List Nat):=match rdWhole l with
 | none=>none
 | some (o,l1)=>match rdWhole l1 with
  | none=>none
  | some (a,l2)=>match rdWhole l2 with
   | none=>none
   | some (b,l3)=>match rdSigned l3 with
    | none=>none
    | some (n,l4)=>some (⟨o,a,b,n⟩,l4)
def rdMany{α:Type}(P:List Nat->Option (α × List Nat)):Nat->List Nat->Option (List α × List Nat)
 | 0,l=>some ([],l)
 | k+1,l=>match P l with
  | none=>none
  | some (x,r)=>match rdMany P k r with
   | none=>none
   | some (xs,r')=>some (x::xs,r')
def rdThread(l:List Nat):Option (List Ins × List Nat):=match rdMost 16 l with
 | none=>none
 | some (k,r)=>rdMany rdIns k.toNat r
def rdProg(l:List Nat):Option (List (List Ins) × List Nat):=match rdMost 4 l with
 | none=>none
 | some (k,r)=>rdMany rdThread k.toNat r
def rdRuns:Nat->List Int->List Nat->Option (List Int × List Nat)
 | 0,sch,l=>some (sch,l)
 | k+1,sch,l=>match rdWhole l with
  | none=>none
  | some (t,r)=>match rdMost (500 - sch.length) r with
   | none=>none
   | some (c,r')=>if 0<c/\sch.getLast?≠some t then rdRuns k (sch++List.replicate c.toNat t) r' else none
def rdSched(l:List Nat):Option (List Int × List Nat):=match rdMost 500 l with
 | none=>none
 | some (k,r)=>rdRuns k.toNat [] r
def rdVer(l:List Nat):Option ((Int × Int × Int) × List Nat):=match rdWhole l with
 | none=>none
 | some (a,l1)=>match rdWhole l1 with
  | none=>none
  | some (b,l2)=>match rdWhole l2 with
   | none=>none
   | some (c,l3)=>some ((a,b,c),l3)
structure Art where
 prog:List (List Ins)
 sch:List Int
 ver:Int × Int × Int
def verOk(v:Int × Int × Int):Bool:=(decide (1<=v.1) && decide (v.1<=5)) && (decide (0<=v.2.1) && decide (v.2.1<=3)) && (decide (0<=v.2.2) && decide (v.2.2<=500))
def artE(a:Art):Int:=if vProg a.prog=true then (if validS a.sch=true/\verOk a.ver=true then 0 else 2) else 1
def rdArt(l:List Nat):Option (Art × List Nat):=match l with
 | 82::82::1::r0=>match rdProg r0 with
  | none=>none
  | some (p,r1)=>match rdSched r1 with
   | none=>none
   | some (s,r2)=>match rdVer r2 with
    | none=>none
    | some (v,r3)=>some (⟨p,s,v⟩,r3)
 | _=>none
def decB(l:List Nat):Option Art:=match rdArt l with
 | none=>none
 | some (a,r)=>if r=leB 4 (crcN (l.take (l.length - r.length)))/\artE a=0 then some a else none
def wInt(n:Int):List Nat:=numB n.toNat
def insB(i:Ins):List Nat:=wInt i.op++(wInt i.a++(wInt i.b++numB (zig i.n)))
def codeB(c:List Ins):List Nat:=wInt c.length++c.flatMap insB
def progB(p:List (List Ins)):List Nat:=wInt p.length++p.flatMap codeB
def runB(x:Int × Int):List Nat:=wInt x.1++wInt x.2
def schB(s:List Int):List Nat:=wInt (grp s).length++(grp s).flatMap runB
def verB(v:Int × Int × Int):List Nat:=wInt v.1++(wInt v.2.1++wInt v.2.2)
def bodyB(a:Art):List Nat:=[82,82,1]++(progB a.prog++(schB a.sch++verB a.ver))
def encB(a:Art):List Nat:=bodyB a++leB 4 (crcN (bodyB a))
theorem jR(n:Int)(r:List Nat)(h0:0<=n)(h1:n<=9223372036854775807):rdWhole (wInt n++r)=some (n,r):=by
 unfold rdWhole wInt;rw [uX n.toNat 0 0 r (by simp;omega) (Or.inr rfl) (by omega)];simp only [Nat.pow_zero,Nat.mul_one,Nat.zero_add];rw [if_pos (by omega)];congr 2
 omega
theorem ul(n:Int)(r:List Nat)(h0: -9223372036854775808<=n)(h1:n<=9223372036854775807):rdSigned (numB (zig n)++r)=some (n,r):=by
 unfold rdSigned;rw [uX (zig n) 0 0 r (by unfold zig;split<;>simp<;>omega) (Or.inr rfl) (by omega)];simp [vm]
theorem mQ(b n:Int)(r:List Nat)(a:0<=n)(c:n<=9223372036854775807)(d:n<=b):rdMost b (wInt n++r)=some (n,r):=by
 unfold rdMost;rw [jR n r a c];simp only;rw [if_pos d]
def insInt(i:Ins):Prop:=(0<=i.op/\i.op<=9223372036854775807)/\(0<=i.a/\i.a<=9223372036854775807)/\(0<=i.b/\i.b<=9223372036854775807)/\(-9223372036854775808<=i.n/\i.n<=9223372036854775807)
theorem AL(i:Ins)(r:List Nat)(h:insInt i):rdIns (insB i++r)=some (i,r):=by
 obtain⟨⟨a,b⟩,⟨c,d⟩,⟨c1,e⟩,⟨f,j⟩⟩:=h;unfold rdIns insB;simp only [List.append_assoc];rw [jR _ _ a b];simp only;rw [jR _ _ c d];simp only;rw [jR _ _ c1 e];simp only;rw [ul _ _ f j]
theorem sO{α:Type}(P:List Nat->Option (α × List Nat))(W:α->List Nat)(q:List α)(r:List Nat)(h:∀ x∈q,∀ r,P (W x++r)=some (x,r)):rdMany P q.length (q.flatMap W++r)=some (q,r):=by
 induction q with
 | nil=>rfl
 | cons x q ih=>
  rw [List.flatMap_cons,List.append_assoc,List.length_cons,rdMany,h x (by simp)];simp only;rw [ih (fun y hy=>h y (by simp [hy]))]
theorem um(c:List Ins)(r:List Nat)(hl:c.length<=16)(h:∀ i∈c,insInt i):rdThread (codeB c++r)=some (c,r):=by
 unfold rdThread codeB;rw [List.append_assoc,mQ _ _ _ (by omega) (by omega) (by omega)];simp only [Int.toNat_natCast];exact sO _ _ _ _ (fun i hi r=>AL i r (h i hi))
theorem yO(p:List (List Ins))(r:List Nat)(hl:p.length<=4)(h:∀ c∈p,c.length<=16/\∀ i∈c,insInt i):rdProg (progB p++r)=some (p,r):=by
 unfold rdProg progB;rw [List.append_assoc,mQ _ _ _ (by omega) (by omega) (by omega)];simp only [Int.toNat_natCast];exact sO _ _ _ _ (fun c hc r=>um c r (h c hc).1 (h c hc).2)
theorem AN(v:Int × Int × Int)(r:List Nat)(h:verOk v=true):rdVer (verB v++r)=some (v,r):=by
 simp only [verOk,Bool.and_eq_true,decide_eq_true_eq]at h;unfold rdVer verB;simp only [List.append_assoc];rw [jR _ _ (by omega) (by omega)];simp only;rw [jR _ _ (by omega) (by omega)];simp only;rw [jR _ _ (by omega) (by omega)]
def Sep:Option Int->List (Int × Int)->Prop
 | _,[]=>True
 | p,x::q=>p≠some x.1/\Sep (some x.1) q
def expand(q:List (Int × Int)):List Int:=q.flatMap fun x=>List.replicate x.2.toNat x.1
theorem Af(s:List Int):Sep none (grp s)/\∀ x q,grp s=x::q->Sep (some x.1) q:=by
 induction s with
 | nil=>exact⟨trivial,fun x q h=>by cases h⟩
 | cons t r ih=>
  unfold grp;cases h:grp r with
  | nil=>exact⟨⟨by simp,trivial⟩,fun x q e=>by simp at e;rw [e.2];trivial⟩
  | cons x q=>
   have a:=ih.2 x q h;simp only;split
   ·rename_i e
    rw [<-e]at a;exact⟨⟨by simp,a⟩,fun y q' e'=>by simp only [List.cons.injEq]at e';rw [<-e'.1,<-e'.2];exact a⟩
   ·rename_i e
    have b:Sep (some t) (x::q):=⟨fun e'=>e (Option.some.inj e'),a⟩;exact⟨⟨by simp,b⟩,fun y q' e'=>by simp only [List.cons.injEq]at e';rw [<-e'.1,<-e'.2];exact b⟩
theorem lh(s:List Int):expand (grp s)=s:=by
 induction s with
 | nil=>rfl
 | cons t r ih=>
  have a:=mI r;unfold grp;cases h:grp r with
  | nil=>rw [h]at ih;rw [<-ih];simp [expand]
  | cons x q=>
   rw [h]at ih a;have hx:=(a x (by simp)).2.1;simp only;split
   ·rename_i e
    have b:(x.2+1).toNat=x.2.toNat+1:=by omega
    simp only [expand,List.flatMap_cons]at ih ⊢;rw [b,List.replicate_succ,List.cons_append,e,ih]
   ·simp only [expand,List.flatMap_cons]at ih ⊢;simp [ih]
theorem nK(a:List Int)(t:Int)(c:Nat)(hc:0<c):(a++List.replicate c t).getLast?=some t:=by
 obtain⟨k,rfl⟩:∃ k,c=k+1:=⟨c - 1,by omega⟩;rw [List.replicate_succ',<-List.append_assoc];simp
theorem yP(q:List (Int × Int))(a:List Int)(r:List Nat)(c:Sep a.getLast? q)(b:∀ x∈q,0<=x.1/\x.1<=63/\1<=x.2/\x.2<=500)(f:a.length+(expand q).length<=500):
  rdRuns q.length a (q.flatMap runB++r)=some (a++expand q,r):=by
 induction q generalizing a with
 | nil=>simp [rdRuns,expand]
 | cons x q ih=>
  obtain⟨d,h2,h3,h4⟩:=b x (by simp);have e:(expand (x::q)).length=x.2.toNat+(expand q).length:=by simp [expand]
  rw [e]at f;rw [List.flatMap_cons,List.length_cons,rdRuns];unfold runB;simp only [List.append_assoc];rw [jR _ _ d (by omega)];simp only;rw [mQ _ _ _ (by omega) (by omega) (by omega)];simp only;rw [if_pos ⟨by omega,c.1⟩];have:=ih (a++List.replicate x.2.toNat x.1) (by rw [nK _ _ _ (by omega)];exact c.2) (fun y hy=>b y (by simp [hy])) (by simp;omega);unfold runB at this;rw [this];simp [expand]
theorem wO(s:List Int)(r:List Nat)(h:validS s=true):rdSched (schB s++r)=some (s,r):=by
 have a:=h;simp only [validS,Bool.and_eq_true,decide_eq_true_eq,List.all_eq_true]at a;have hg:=lN s;unfold rdSched schB;rw [List.append_assoc,mQ _ _ _ (by omega) (by omega) (by omega)];simp only [Int.toNat_natCast];rw [yP (grp s) [] r (Af s).1 (fun x hx=>by
  have b:=mI s x hx;have c:=a.2 x.1 b.1;exact⟨c.1,c.2,b.2.1,by omega⟩) (by rw [lh];simpa using a.1),lh]
 rfl
theorem mt{l r:List Nat}{a:Art}(h:rdArt l=some (a,r)):∃ r0,l=82::82::1::r0:=by
 unfold rdArt at h;split at h
 ·exact⟨_,rfl⟩
 ·cases h
theorem vI{l:List Nat}{a:Art}(h:decB l=some a):∃ r,rdArt l=some (a,r)/\r.length=4/\r=leB 4 (crcN (l.take (l.length - r.length))):=by
 unfold decB at h;cases h1:rdArt l with
 | none=>rw [h1]at h;cases h
 | some y=>
  obtain⟨b,r⟩:=y;rw [h1]at h;simp only at h;split at h
  ·rename_i h2
   obtain rfl:=Option.some.inj h;exact⟨r,rfl,by rw [h2.1,lS],h2.1⟩
  ·cases h
theorem zU(a:Art)(h:artE a=0)(e:∀ c∈a.prog,∀ i∈c,insInt i):decB (encB a)=some a:=by
 have d:vProg a.prog=true/\validS a.sch=true/\verOk a.ver=true:=by
  unfold artE at h;split at h
  ·split at h
   ·rename_i b h2;exact⟨b,h2⟩
   ·omega
  ·omega
 have f:=iW d.1;have j:∀ c∈a.prog,c.length<=16/\∀ i∈c,insInt i:=by
  intro c hc;refine⟨?_,e c hc⟩;have b:=d.1;simp only [vProg,Bool.and_eq_true,List.all_eq_true]at b;exact jx (b.2.2 c hc)
 have k:rdArt (encB a)=some (a,leB 4 (crcN (bodyB a))):=by
  unfold encB bodyB;simp only [List.cons_append,List.nil_append,List.append_assoc,rdArt];rw [yO a.prog _ f.2 j];simp only;rw [wO a.sch _ d.2.1];simp only;rw [AN a.ver _ d.2.2]
 unfold decB;rw [k];simp only;have:(encB a).take ((encB a).length - (leB 4 (crcN (bodyB a))).length)=bodyB a:=by unfold encB;simp
 rw [this,if_pos ⟨rfl,h⟩]
theorem ql(l:List Nat):∀ (a d x:Nat) (r:List Nat),(∀ b∈l,b<256)->rdN a d l=some (x,r)->∃ n,l=numB n++r/\x=d+n*2 ^ a/\(0<n\/a=0):=by
 induction l with
 | nil=>intro a d x r _ h;cases h
 | cons b l ih=>
  intro a d x r i h;unfold rdN at h;split at h
  ·rename_i h1
   split at h
   ·rename_i h2
    split at h
    ·rename_i h3
     simp only [Option.some.injEq,Prod.mk.injEq]at h;obtain⟨rfl,rfl⟩:=h;have e:b % 128=b:=Nat.mod_eq_of_lt h2;exact⟨b,by rw [jO h2];rfl,by rw [e],h3⟩
    ·cases h
   ·rename_i h2
    obtain⟨n,j,k,f⟩:=ih _ _ _ _ (fun c hc=>i c (by simp [hc])) h;have hb:=i b (by simp);have hn:0<n:=by rcases f with f | f<;>omega
    refine⟨b % 128+128*n,?_,?_,Or.inl (by omega)⟩
    ·rw [kG (by omega)];have m:(b % 128+128*n) % 128+128=b:=by omega
     have o:(b % 128+128*n) / 128=n:=by omega
     rw [m,o,j];rfl
    ·rw [k,Nat.pow_add,Nat.add_mul,Nat.add_assoc];congr 2
     rw [Nat.mul_comm 128 n,Nat.mul_assoc,Nat.mul_comm 128]
  ·cases h
theorem je{l r:List Nat}{x:Int}(d:∀ b∈l,b<256)(h:rdWhole l=some (x,r)):l=wInt x++r:=by
 unfold rdWhole at h;split at h
 ·rename_i n r' e
  split at h
  ·simp only [Option.some.injEq,Prod.mk.injEq]at h;obtain⟨rfl,rfl⟩:=h;obtain⟨m,c,a,_⟩:=ql l _ _ _ _ d e;simp at a;subst a;unfold wInt;simpa using c
  ·cases h
 ·cases h
theorem Bp(n:Nat):zig (zag n)=n:=by
 unfold zig zag;split<;>split<;>omega
theorem oX{l r:List Nat}{x:Int}(d:∀ b∈l,b<256)(h:rdSigned l=some (x,r)):l=numB (zig x)++r:=by
 unfold rdSigned at h;split at h
 ·rename_i n r' e
  simp only [Option.some.injEq,Prod.mk.injEq]at h;obtain⟨rfl,rfl⟩:=h;obtain⟨m,c,a,_⟩:=ql l _ _ _ _ d e;simp at a;subst a;rw [Bp];exact c
 ·cases h
theorem ku{b:Int}{l r:List Nat}{x:Int}(a:∀ b∈l,b<256)(h:rdMost b l=some (x,r)):l=wInt x++r/\x<=b/\0<=x:=by
 unfold rdMost at h;split at h
 ·rename_i n r' e
  split at h
  ·rename_i hb
   simp only [Option.some.injEq,Prod.mk.injEq]at h;obtain⟨rfl,rfl⟩:=h;refine⟨je a e,hb,?_⟩;unfold rdWhole at e;split at e
   ·split at e
    ·simp only [Option.some.injEq,Prod.mk.injEq]at e;omega
    ·cases e
   ·cases e
  ·cases h
 ·cases h
theorem sN{l r:List Nat}{x:Ins}(f:∀ b∈l,b<256)(h:rdIns l=some (x,r)):l=insB x++r:=by
 unfold rdIns at h;split at h
 ·cases h
 ·rename_i o l1 e1
  have i:=je f e1;split at h
  ·cases h
  ·rename_i a l2 e2
   have d:∀ b∈l1,b<256:=fun b hb=>f b (by rw [i];simp [hb])
   have j:=je d e2;split at h
   ·cases h
   ·rename_i c l3 e3
    have e:∀ b∈l2,b<256:=fun b hb=>d b (by rw [j];simp [hb])
    have k:=je e e3;split at h
    ·cases h
    ·rename_i n l4 e4
     have m:∀ b∈l3,b<256:=fun b hb=>e b (by rw [k];simp [hb])
     have p:=oX m e4;simp only [Option.some.injEq,Prod.mk.injEq]at h;obtain⟨rfl,rfl⟩:=h;unfold insB;rw [i,j,k,p];simp
theorem mP{α:Type}{P:List Nat->Option (α × List Nat)}{W:α->List Nat}(d:∀ {l r:List Nat} {x:α},(∀ b∈l,b<256)->P l=some (x,r)->l=W x++r)(k:Nat):
  ∀ {l r:List Nat} {xs:List α},(∀ b∈l,b<256)->rdMany P k l=some (xs,r)->l=xs.flatMap W++r/\xs.length=k:=by
 induction k with
 | zero=>
  intro l r xs a h;simp only [rdMany,Option.some.injEq,Prod.mk.injEq]at h;obtain⟨rfl,rfl⟩:=h;exact⟨rfl,rfl⟩
 | succ k ih=>
  intro l r xs a h;unfold rdMany at h;split at h
  ·cases h
  ·rename_i x r1 e1
   have c:=d a e1;split at h
   ·cases h
   ·rename_i ys r2 e2
    obtain⟨e,f⟩:=ih (fun b hb=>a b (by rw [c];simp [hb])) e2;simp only [Option.some.injEq,Prod.mk.injEq]at h;obtain⟨rfl,rfl⟩:=h;exact⟨by rw [c,e];simp,by simp [f]⟩
theorem oY{l r:List Nat}{x:List Ins}(a:∀ b∈l,b<256)(h:rdThread l=some (x,r)):l=codeB x++r:=by
 unfold rdThread at h;split at h
 ·cases h
 ·rename_i k r1 e1
  obtain⟨c,_,q0⟩:=ku a e1;obtain⟨d,q3⟩:=mP (W:=insB) (fun a h=>sN a h) _ (fun b hb=>a b (by rw [c];simp [hb])) h;unfold codeB;have:(x.length:Int)=k:=by omega
  rw [c,d,this];simp
theorem rA{l r:List Nat}{x:List (List Ins)}(a:∀ b∈l,b<256)(h:rdProg l=some (x,r)):l=progB x++r:=by
 unfold rdProg at h;split at h
 ·cases h
 ·rename_i k r1 e1
  obtain⟨c,_,q0⟩:=ku a e1;obtain⟨d,q3⟩:=mP (W:=codeB) (fun a h=>oY a h) _ (fun b hb=>a b (by rw [c];simp [hb])) h;unfold progB;have:(x.length:Int)=k:=by omega
  rw [c,d,this];simp
theorem rB(k:Nat):∀ {a:List Int} {l r:List Nat} {s:List Int},(∀ b∈l,b<256)->rdRuns k a l=some (s,r)->∃ q,l=q.flatMap runB++r/\q.length=k/\s=a++expand q/\Sep a.getLast? q/\∀ x∈q,0<x.2:=by
 induction k with
 | zero=>
  intro a l r s d h;simp only [rdRuns,Option.some.injEq,Prod.mk.injEq]at h;obtain⟨rfl,rfl⟩:=h;exact⟨[],rfl,rfl,by simp [expand],trivial,fun x hx=>by cases hx⟩
 | succ k ih=>
  intro a l r s d h;unfold rdRuns at h;split at h
  ·cases h
  ·rename_i t r1 e1
   have i:=je d e1;split at h
   ·cases h
   ·rename_i c r2 e2
    have e:∀ b∈r1,b<256:=fun b hb=>d b (by rw [i];simp [hb])
    obtain⟨j,_,_⟩:=ku e e2;split at h
    ·rename_i h3
     obtain⟨q,m,n,o,f,p⟩:=ih (fun b hb=>e b (by rw [j];simp [hb])) h;rw [nK _ _ _ (by omega)]at f;refine⟨(t,c)::q,by rw [i,j,m];simp [runB],by simp [n],by rw [o];simp [expand],⟨h3.2,f⟩,fun x hx=>?_⟩;rcases List.mem_cons.1 hx with rfl | hx
     ·exact h3.1
     ·exact p x hx
    ·cases h
theorem Ae(t:Int)(n:Nat)(s:List Int)(q:List (Int × Int))(a:grp s=q)(b:Sep (some t) q):grp (List.replicate (n+1) t++s)=(t,((n+1:Nat):Int))::q:=by
 induction n with
 | zero=>
  simp only [Nat.zero_add,List.replicate_one,List.singleton_append,grp,a];cases q with
  | nil=>rfl
  | cons x q=>
   simp only;rw [if_neg (fun e=>b.1 (by rw [e]))];rfl
 | succ n ih=>
  rw [List.replicate_succ,List.cons_append,grp,ih];simp
theorem px(q:List (Int × Int)):∀ p,Sep p q->(∀ x∈q,0<x.2)->grp (expand q)=q:=by
 induction q with
 | nil=>intro p _ _;rfl
 | cons x q ih=>
  intro p b a;have h0:=a x (by simp);obtain⟨n,c⟩:∃ n:Nat,x.2.toNat=n+1:=⟨x.2.toNat - 1,by omega⟩;have e:expand (x::q)=List.replicate (n+1) x.1++expand q:=by simp [expand,c]
  rw [e,Ae x.1 n _ q (ih _ b.2 (fun y hy=>a y (by simp [hy]))) b.2];congr 1
  have:((n+1:Nat):Int)=x.2:=by omega
  rw [this]
theorem pF{l r:List Nat}{s:List Int}(a:∀ b∈l,b<256)(h:rdSched l=some (s,r)):l=schB s++r:=by
 unfold rdSched at h;split at h
 ·cases h
 ·rename_i k r1 e1
  obtain⟨d,_,q0⟩:=ku a e1;obtain⟨q,e,p2,c,f,i⟩:=rB _ (fun b hb=>a b (by rw [d];simp [hb])) h;simp only [List.nil_append]at c;unfold schB;rw [c,px q _ f i];have:(q.length:Int)=k:=by omega
  rw [d,e,this];simp
theorem sQ{l r:List Nat}{v:Int × Int × Int}(e:∀ b∈l,b<256)(h:rdVer l=some (v,r)):l=verB v++r:=by
 unfold rdVer at h;split at h
 ·cases h
 ·rename_i a l1 e1
  have f:=je e e1;split at h
  ·cases h
  ·rename_i b l2 e2
   have d:∀ b∈l1,b<256:=fun b hb=>e b (by rw [f];simp [hb])
   have i:=je d e2;split at h
   ·cases h
   ·rename_i c l3 e3
    have j:∀ b∈l2,b<256:=fun b hb=>d b (by rw [i];simp [hb])
    have k:=je j e3;simp only [Option.some.injEq,Prod.mk.injEq]at h;obtain⟨rfl,rfl⟩:=h;unfold verB;rw [f,i,k];simp
theorem sM{l r:List Nat}{a:Art}(j:∀ b∈l,b<256)(h:rdArt l=some (a,r)):l=bodyB a++r:=by
 obtain⟨m,rfl⟩:=mt h;simp only [rdArt]at h;have c:∀ b∈m,b<256:=fun b hb=>j b (by simp [hb])
 split at h
 ·cases h
 ·rename_i p r1 e1
  have e:=rA c e1;have d:∀ b∈r1,b<256:=fun b hb=>c b (by rw [e];simp [hb])
  split at h
  ·cases h
  ·rename_i s r2 e2
   have f:=pF d e2;have i:∀ b∈r2,b<256:=fun b hb=>d b (by rw [f];simp [hb])
   split at h
   ·cases h
   ·rename_i v r3 e3
    have k:=sQ i e3;simp only [Option.some.injEq,Prod.mk.injEq]at h;obtain⟨rfl,rfl⟩:=h;unfold bodyB;rw [e,f,k];simp
theorem pU{l:List Nat}{a:Art}(d:∀ b∈l,b<256)(h:decB l=some a):l=encB a/\artE a=0:=by
 unfold decB at h;split at h
 ·cases h
 ·rename_i a' r e
  split at h
  ·rename_i h1
   simp only [Option.some.injEq]at h;subst h;have q:=sM d e;refine⟨?_,h1.2⟩;have c:=h1.1;have:l.take (l.length - r.length)=bodyB a':=by rw [q];simp
   rw [this]at c;unfold encB;rw [<-c];exact q
  ·cases h
def bigG:Nat->Nat->Nat->List Nat->Nat × List Nat × Bool
 | 0,_,_,l=>(0,l,true)
 | _+1,_,_,[]=>(0,[],true)
 | k+1,unit,v,c::r=>if c<128 then ((v+unit*(c % 128)) % 18446744073709551616,r,false) else bigG k (unit*128 % 18446744073709551616) ((v+unit*(c % 128)) % 18446744073709551616) r
def numG(most:Nat)(l:List Nat):Nat × List Nat × Bool:=if most<(bigG 10 1 0 l).1 then (0,(bigG 10 1 0 l).2.1,true) else bigG 10 1 0 l
def insG(l:List Nat):Ins × List Nat × Bool:=
 let o:=numG 11 l
 let a:=numG 3 o.2.1
 let b:=numG 3 a.2.1
 let n:=bigG 10 1 0 b.2.1
 (⟨o.1,a.1,b.1,zag n.1⟩,n.2.1,o.2.2 || a.2.2 || b.2.2 || n.2.2)
def codeG:Nat->List Ins->List Nat->Bool->List Ins × List Nat × Bool
 | 0,c,l,b=>(c,l,b)
 | _+1,c,l,true=>(c,l,true)
 | k+1,c,l,false=>codeG k (c++[(insG l).1]) (insG l).2.1 (insG l).2.2
def progG:Nat->List (List Ins)->List Nat->Bool->List (List Ins) × List Nat × Bool
 | 0,p,l,b=>(p,l,b)
 | _+1,p,l,true=>(p,l,true)
 | k+1,p,l,false=>
  let n:=numG 16 l
  let c:=codeG n.1 [] n.2.1 n.2.2
  progG k (p++[c.1]) c.2.1 c.2.2
def fillG:Nat->Int->List Int->List Int
 | 0,_,s=>s
 | n+1,t,s=>if s.length<=500 then fillG n t (s++[t]) else s
def runsG:Nat->List Int->List Nat->Bool->List Int × List Nat × Bool
 | 0,s,l,b=>(s,l,b)
 | _+1,s,l,true=>(s,l,true)
 | k+1,s,l,false=>
  let t:=numG 63 l
  let n:=numG 500 t.2.1
  runsG k (fillG n.1 t.1 s) n.2.1 (t.2.2 || n.2.2)
def guessG(l:List Nat):Art × Bool:=
 let t:=numG 4 (l.drop 3)
 let p:=progG t.1 [] t.2.1 t.2.2
 let k:=numG 500 p.2.1
 let s:=runsG k.1 [] k.2.1 (p.2.2 || k.2.2)
 let a:=numG 5 s.2.1
 let b:=numG 3 a.2.1
 let c:=numG 500 b.2.1
 (⟨p.1,s.1,(a.1,b.1,c.1)⟩,!(s.2.2 || a.2.2 || b.2.2 || c.2.2))
theorem xw(n:Nat):∀ (k a b:Nat) (r:List Nat),a+7*k=70->1<=k->b+n*2 ^ a<18446744073709551616->bigG k (2 ^ a) b (numB n++r)=(b+n*2 ^ a,r,false):=by
 induction n using Nat.strongRecOn with
 | ind n ih=>
  intro k a b r hk h1 h;obtain⟨j,rfl⟩:∃ j,k=j+1:=⟨k - 1,by omega⟩;by_cases c:n<128
  ·rw [jO c];have e:n % 128=n:=Nat.mod_eq_of_lt c;simp only [List.cons_append,List.nil_append,bigG,e];rw [if_pos c,Nat.mul_comm (2 ^ a) n,Nat.mod_eq_of_lt h]
  ·rw [kG c];have e:(n % 128+128) % 128=n % 128:=by omega
   simp only [List.cons_append,bigG,e];rw [if_neg (by omega)];have d:2 ^ (a+7)=2 ^ a*128:=by rw [Nat.pow_add]
   have l:n*2 ^ a=2 ^ a*(n % 128)+(n / 128)*2 ^ (a+7):=by
    have:n=n % 128+128*(n / 128):=by omega
    rw [d];conv=>lhs;rw [this]
    rw [Nat.add_mul,Nat.mul_comm (n % 128),Nat.mul_comm 128,Nat.mul_assoc,Nat.mul_comm 128]
   have f:1<=n / 128:=by omega
   have hge:2 ^ (a+7)<=(n / 128)*2 ^ (a+7):=Nat.le_mul_of_pos_left _ f;have i:2 ^ (a+7)<18446744073709551616:=by omega
   have hpl:a+7<64:=by
    apply Nat.lt_of_not_le;intro hc;have:(2:Nat) ^ 64<=2 ^ (a+7):=Nat.pow_le_pow_right (by omega) hc;omega
   rw [Nat.mod_eq_of_lt (by omega:b+2 ^ a*(n % 128)<18446744073709551616),<-d,Nat.mod_eq_of_lt i,ih (n / 128) (by omega) j (a+7) _ r (by omega) (by omega) (by omega),Nat.add_assoc,<-l]
theorem Br(n:Nat)(r:List Nat)(h:n<18446744073709551616):bigG 10 1 0 (numB n++r)=(n,r,false):=by
 have:=xw n 10 0 0 r (by omega) (by omega) (by simpa using h);simpa using this
theorem lF(a:Nat)(n:Int)(r:List Nat)(_h0:0<=n)(h1:n<=a)(hm:a<=1000):numG a (wInt n++r)=(n.toNat,r,false):=by
 unfold numG wInt;rw [Br _ _ (by omega),if_neg (by simp only;omega)]
theorem BI(i:Ins)(r:List Nat)(f:0<=i.op/\i.op<=11)(h:0<=i.a/\i.a<=3)(j:0<=i.b/\i.b<=3)(h4: -9223372036854775808<=i.n/\i.n<=9223372036854775807):insG (insB i++r)=(i,r,false):=by
 unfold insG insB;simp only [List.append_assoc];rw [lF 11 _ _ f.1 (by omega) (by omega)];simp only;rw [lF 3 _ _ h.1 (by omega) (by omega)];simp only;rw [lF 3 _ _ j.1 (by omega) (by omega)];simp only;have k:zig i.n<18446744073709551616:=by unfold zig;split<;>omega
 rw [Br _ _ k];simp only [vm,Bool.or_self];have c:((i.op.toNat:Nat):Int)=i.op:=by omega
 have d:((i.a.toNat:Nat):Int)=i.a:=by omega
 have e:((i.b.toNat:Nat):Int)=i.b:=by omega
 rw [c,d,e]
def smallIns(i:Ins):Prop:=(0<=i.op/\i.op<=11)/\(0<=i.a/\i.a<=3)/\(0<=i.b/\i.b<=3)/\(-9223372036854775808<=i.n/\i.n<=9223372036854775807)
theorem zS(c:List Ins):∀ (d:List Ins) (r:List Nat),(∀ i∈c,smallIns i)->codeG c.length d (c.flatMap insB++r) false=(d++c,r,false):=by
 induction c with
 | nil=>intro d r _;simp [codeG]
 | cons i c ih=>
  intro d r h;obtain⟨a,b,e,f⟩:=h i (by simp);rw [List.length_cons,List.flatMap_cons,List.append_assoc,codeG,BI i _ a b e f];simp only;rw [ih _ _ (fun j hj=>h j (by simp [hj]))];simp
theorem AK(p:List (List Ins)):∀ (d:List (List Ins)) (r:List Nat),(∀ c∈p,c.length<=16/\∀ i∈c,smallIns i)->progG p.length d (p.flatMap codeB++r) false=(d++p,r,false):=by
 induction p with
 | nil=>intro d r _;simp [progG]
 | cons c p ih=>
  intro d r h;obtain⟨h1,a⟩:=h c (by simp);rw [List.length_cons,List.flatMap_cons,progG];unfold codeB;simp only [List.append_assoc];rw [lF 16 _ _ (by omega) (by omega) (by omega)];simp only [Int.toNat_natCast];rw [zS c [] _ a];have:=ih (d++[c]) r (fun x hx=>h x (by simp [hx]));unfold codeB at this;simp only [List.nil_append];rw [this];simp
theorem xU(n:Nat)(t:Int):∀ s:List Int,s.length+n<=501->fillG n t s=s++List.replicate n t:=by
 induction n with
 | zero=>intro s _;simp [fillG]
 | succ n ih=>
  intro s h;rw [fillG,if_pos (by omega),ih _ (by simp;omega),List.append_assoc];rfl
theorem AU(q:List (Int × Int)):∀ (s:List Int) (r:List Nat),(∀ x∈q,0<=x.1/\x.1<=63/\1<=x.2/\x.2<=500)->s.length+(expand q).length<=500->runsG q.length s (q.flatMap runB++r) false=(s++expand q,r,false):=by
 induction q with
 | nil=>intro s r _ _;simp [runsG,expand]
 | cons x q ih=>
  intro s r h a;obtain⟨c,h2,h3,h4⟩:=h x (by simp);have d:expand (x::q)=List.replicate x.2.toNat x.1++expand q:=by simp [expand]
  rw [d]at a ⊢;simp only [List.length_append,List.length_replicate]at a;rw [List.flatMap_cons,List.length_cons,runsG];unfold runB;simp only [List.append_assoc];rw [lF 63 _ _ c (by omega) (by omega)];simp only;rw [lF 500 _ _ (by omega) (by omega) (by omega)];simp only [Bool.or_self];have b:((x.1.toNat:Nat):Int)=x.1:=by omega
  rw [b,xU _ _ _ (by omega)];have:=ih (s++List.replicate x.2.toNat x.1) r (fun y hy=>h y (by simp [hy])) (by simp;omega);unfold runB at this;rw [this];simp
theorem mw{i:Ins}{len:Int}(h:vIns i len=true):(0<=i.op/\i.op<=11)/\(0<=i.a/\i.a<=3)/\(0<=i.b/\i.b<=3):=by
 simp only [vIns,Bool.and_eq_true,decide_eq_true_eq]at h;obtain⟨h1,f,d,e,_⟩:=h;refine⟨⟨by omega,f⟩,?_,?_⟩
 ·obtain⟨o,c⟩:∃ o:Nat,i.op.toNat=o:=⟨_,rfl⟩;rw [c]at d;have:o=1\/o=2\/o=3\/o=4\/o=5\/o=6\/o=7\/o=8\/o=9\/o=10\/o=11:=by omega
  rcases this with rfl | rfl | rfl | rfl | rfl | rfl | rfl | rfl | rfl | rfl | rfl<;>simp [shp,fitsB,belowB]at d<;>omega
 ·obtain⟨o,c⟩:∃ o:Nat,i.op.toNat=o:=⟨_,rfl⟩;rw [c]at e;have:o=1\/o=2\/o=3\/o=4\/o=5\/o=6\/o=7\/o=8\/o=9\/o=10\/o=11:=by omega
  rcases this with rfl | rfl | rfl | rfl | rfl | rfl | rfl | rfl | rfl | rfl | rfl<;>simp [shp,fitsB,belowB]at e<;>omega
theorem m8{a:Art}(h:artE a=0):vProg a.prog=true/\validS a.sch=true/\verOk a.ver=true:=by
 unfold artE at h;split at h
 ·split at h
  ·rename_i h1 h2;exact⟨h1,h2⟩
  ·omega
 ·omega
theorem vX(a:Art)(h:artE a=0)(v:∀ c∈a.prog,∀ i∈c,insInt i):guessG (encB a)=(a,true):=by
 obtain⟨e,k,l⟩:=m8 h;have w:=iW e;have hc:∀ c∈a.prog,c.length<=16/\∀ i∈c,smallIns i:=by
  intro c hc;simp only [vProg,Bool.and_eq_true,List.all_eq_true]at e;have d:=e.2.2 c hc;have b:=d;simp only [vCode,Bool.and_eq_true,List.all_eq_true,decide_eq_true_eq]at b;refine⟨b.1,fun i hi'=>?_⟩;obtain⟨y,z,A⟩:=mw (b.2 i hi');exact⟨y,z,A,(v c hc i hi').2.2.2⟩
 have f:=k;simp only [validS,Bool.and_eq_true,decide_eq_true_eq,List.all_eq_true]at f;have u:=lN a.sch;have j:∀ x∈grp a.sch,0<=x.1/\x.1<=63/\1<=x.2/\x.2<=500:=fun x hx=>by
  have d:=mI a.sch x hx;have b:=f.2 x.1 d.1;exact⟨b.1,b.2,d.2.1,by omega⟩
 simp only [verOk,Bool.and_eq_true,decide_eq_true_eq]at l;obtain⟨p,s,m,n,o⟩:=a;simp only at e k w hc f u j l ⊢;unfold guessG encB bodyB progB schB verB;simp only [List.cons_append,List.nil_append,List.drop_succ_cons,List.drop_zero,List.append_assoc];rw [lF 4 _ _ (by omega) (by omega) (by omega)];simp only [Int.toNat_natCast];rw [AK p [] _ hc];simp only [List.nil_append];rw [lF 500 _ _ (by omega) (by omega) (by omega)];simp only [Int.toNat_natCast,Bool.or_self];rw [AU (grp s) [] _ j (by rw [lh];simpa using f.1)];simp only [List.nil_append,lh];rw [lF 5 _ _ (by omega) (by omega) (by omega)];simp only;rw [lF 3 _ _ (by omega) (by omega) (by omega)];simp only;rw [lF 500 _ _ (by omega) (by omega) (by omega)];simp only [Bool.or_self,Bool.not_false];have q:((m.toNat:Nat):Int)=m:=by omega
 have r:((n.toNat:Nat):Int)=n:=by omega
 have t:((o.toNat:Nat):Int)=o:=by omega
 rw [q,r,t]
def refDec(l:List Nat):Option Art:=if (guessG l).2=true/\artE (guessG l).1=0/\encB (guessG l).1=l then some (guessG l).1 else none
theorem wP{l:List Nat}(n:∀ b∈l,b<256)(k:∀ a,decB l=some a->∀ c∈a.prog,∀ i∈c,insInt i)(m:∀ c∈(guessG l).1.prog,∀ i∈c,insInt i):refDec l=decB l:=by
 unfold refDec;cases hd:decB l with
 | none=>
  rw [if_neg];rintro⟨_,h,j⟩;have:=zU _ h m;rw [j,hd]at this;cases this
 | some a=>
  obtain⟨d,e⟩:=pU n hd;have f:=vX a e (k a hd);rw [<-d]at f;rw [f];simp only [true_and];rw [if_pos ⟨e,d.symm⟩]
theorem nW:∀ (k u v:Nat) (l:List Nat),(bigG k u v l).1<18446744073709551616
 | 0,_,_,_=>by simp [bigG]
 | _+1,_,_,[]=>by simp [bigG]
 | k+1,u,v,c::r=>by
  rw [bigG];split
  ·exact Nat.mod_lt _ (by omega)
  ·exact nW k _ _ r
theorem jm(m:Nat)(l:List Nat):(numG m l).1<=m:=by
 unfold numG;split
 ·simp
 ·omega
theorem vl(n:Nat)(h:n<18446744073709551616): -9223372036854775808<=zag n/\zag n<=9223372036854775807:=by
 unfold zag;split<;>omega
theorem tX(l:List Nat):smallIns (insG l).1:=by
 unfold insG;have h1:=jm 11 l;have h2:=jm 3 (numG 11 l).2.1;have h3:=jm 3 (numG 3 (numG 11 l).2.1).2.1;refine⟨⟨?_,?_⟩,⟨?_,?_⟩,⟨?_,?_⟩,vl _ (nW _ _ _ _)⟩<;>simp only<;>omega
theorem nG:∀ (k:Nat) (c:List Ins) (l:List Nat) (b:Bool),(∀ i∈c,smallIns i)->(∀ i∈(codeG k c l b).1,smallIns i)/\(codeG k c l b).1.length<=c.length+k
 | 0,c,l,b,h=>⟨h,by simp [codeG]⟩
 | k+1,c,l,true,h=>⟨h,by simp [codeG]⟩
 | k+1,c,l,false,h=>by
  rw [codeG];obtain⟨h1,h2⟩:=nG k (c++[(insG l).1]) (insG l).2.1 (insG l).2.2 (fun i hi=>by
   rcases List.mem_append.1 hi with hi | hi
   ·exact h i hi
   ·simp at hi;subst hi;exact tX l)
  exact⟨h1,by simp at h2;omega⟩
theorem nP:∀ (k:Nat) (p:List (List Ins)) (l:List Nat) (b:Bool),(∀ c∈p,c.length<=16/\∀ i∈c,smallIns i)->(∀ c∈(progG k p l b).1,c.length<=16/\∀ i∈c,smallIns i)/\(progG k p l b).1.length<=p.length+k
 | 0,p,l,b,h=>⟨h,by simp [progG]⟩
 | k+1,p,l,true,h=>⟨h,by simp [progG]⟩
 | k+1,p,l,false,h=>by
  rw [progG];have hc:=nG (numG 16 l).1 [] (numG 16 l).2.1 (numG 16 l).2.2 (fun i hi=>by cases hi);have hn:=jm 16 l;obtain⟨h1,h2⟩:=nP k (p++[(codeG (numG 16 l).1 [] (numG 16 l).2.1 (numG 16 l).2.2).1]) (codeG (numG 16 l).1 [] (numG 16 l).2.1 (numG 16 l).2.2).2.1 (codeG (numG 16 l).1 [] (numG 16 l).2.1 (numG 16 l).2.2).2.2 (fun c hi=>by
   rcases List.mem_append.1 hi with hi | hi
   ·exact h c hi
   ·simp at hi;subst hi;exact⟨by have:=hc.2;simp at this;omega,hc.1⟩)
  exact⟨h1,by simp at h2;omega⟩
theorem nL(l:List Nat):(∀ c∈(guessG l).1.prog,c.length<=16/\∀ i∈c,smallIns i)/\(guessG l).1.prog.length<=4:=by
 unfold guessG;have h:=nP (numG 4 (l.drop 3)).1 [] (numG 4 (l.drop 3)).2.1 (numG 4 (l.drop 3)).2.2 (fun c hc=>by cases hc);have hn:=jm 4 (l.drop 3);exact⟨h.1,by have:=h.2;simp at this;simp only;omega⟩
theorem qr{i:Ins}(h:smallIns i):insInt i:=by
 obtain⟨a,b,c,d⟩:=h;exact⟨⟨a.1,by omega⟩,⟨b.1,by omega⟩,⟨c.1,by omega⟩,d⟩
theorem Bc(n x a:Nat)(hn:n<2 ^ a)(h:x % 128*2 ^ a<18446744073709551616)(hp:a<64):n+x % 128*2 ^ a<18446744073709551616/\n+x % 128*2 ^ a<2 ^ (a+7):=by
 constructor
 ·have e:18446744073709551616=2 ^ (64 - a)*2 ^ a:=by rw [<-Nat.pow_add,show 64 - a+a=64 by omega]
  rw [e]at h ⊢;have b:x % 128<2 ^ (64 - a):=Nat.lt_of_mul_lt_mul_right h;have c:(x % 128+1)*2 ^ a<=2 ^ (64 - a)*2 ^ a:=Nat.mul_le_mul_right _ b;rw [Nat.add_mul,Nat.one_mul]at c;omega
 ·have b:2 ^ (a+7)=128*2 ^ a:=by rw [Nat.pow_add,Nat.mul_comm]
  have c:x % 128*2 ^ a<=127*2 ^ a:=Nat.mul_le_mul_right _ (by omega);omega
theorem AM(l:List Nat):∀ (c a x:Nat) (r:List Nat),a<2 ^ c->rdN c a l=some (x,r)->x<18446744073709551616:=by
 induction l with
 | nil=>intro c a x r _ h;cases h
 | cons b l ih=>
  intro c a x r e h;rw [rdN]at h;split at h
  ·rename_i h1
   have d:=Bc a b c e h1.2 h1.1;split at h
   ·split at h
    ·simp only [Option.some.injEq,Prod.mk.injEq]at h;rw [<-h.1];exact d.1
    ·cases h
   ·exact ih _ _ _ _ d.2 h
  ·cases h
theorem lG{l r:List Nat}{x:Int}(h:rdWhole l=some (x,r)):0<=x/\x<=9223372036854775807:=by
 unfold rdWhole at h;split at h
 ·split at h
  ·simp only [Option.some.injEq,Prod.mk.injEq]at h;omega
  ·cases h
 ·cases h
theorem rC{l r:List Nat}{x:Int}(h:rdSigned l=some (x,r)): -9223372036854775808<=x/\x<=9223372036854775807:=by
 unfold rdSigned at h;split at h
 ·rename_i n r' e
  simp only [Option.some.injEq,Prod.mk.injEq]at h;rw [<-h.1];exact vl n (AM l 0 0 n r' (by simp) e)
 ·cases h
theorem wN{l r:List Nat}{x:Ins}(h:rdIns l=some (x,r)):insInt x:=by
 unfold rdIns at h;split at h
 ·cases h
 ·rename_i o l1 e1
  split at h
  ·cases h
  ·rename_i a l2 e2
   split at h
   ·cases h
   ·rename_i c l3 e3
    split at h
    ·cases h
    ·rename_i n l4 e4
     simp only [Option.some.injEq,Prod.mk.injEq]at h;rw [<-h.1];exact⟨lG e1,lG e2,lG e3,rC e4⟩
theorem oV{α:Type}{P:List Nat->Option (α × List Nat)}{Q:α->Prop}(b:∀ {l r:List Nat} {x:α},P l=some (x,r)->Q x)(k:Nat):
  ∀ {l r:List Nat} {xs:List α},rdMany P k l=some (xs,r)->∀ x∈xs,Q x:=by
 induction k with
 | zero=>
  intro l r xs h;simp only [rdMany,Option.some.injEq,Prod.mk.injEq]at h;rw [<-h.1];intro x c;cases c
 | succ k ih=>
  intro l r xs h;unfold rdMany at h;split at h
  ·cases h
  ·rename_i x r1 e1
   split at h
   ·cases h
   ·rename_i ys r2 e2
    simp only [Option.some.injEq,Prod.mk.injEq]at h;rw [<-h.1];intro y a;rcases List.mem_cons.1 a with rfl | a
    ·exact b e1
    ·exact ih e2 y a
theorem rD{l r:List Nat}{x:List Ins}(h:rdThread l=some (x,r)):∀ i∈x,insInt i:=by
 unfold rdThread at h;split at h
 ·cases h
 ·exact oV (fun h=>wN h) _ h
theorem uk{l r:List Nat}{x:List (List Ins)}(h:rdProg l=some (x,r)):∀ c∈x,∀ i∈c,insInt i:=by
 unfold rdProg at h;split at h
 ·cases h
 ·exact oV (fun h=>rD h) _ h
theorem zV{l:List Nat}{a:Art}(h:decB l=some a):∀ c∈a.prog,∀ i∈c,insInt i:=by
 unfold decB at h;split at h
 ·cases h
 ·rename_i a' r e
  split at h
  ·simp only [Option.some.injEq]at h;subst h;obtain⟨r0,rfl⟩:=mt e;simp only [rdArt]at e;split at e
   ·cases e
   ·rename_i p r1 e1
    split at e
    ·cases e
    ·split at e
     ·cases e
     ·simp only [Option.some.injEq,Prod.mk.injEq]at e;rw [<-e.1];exact uk e1
  ·cases h
theorem un{l:List Nat}(hl:∀ b∈l,b<256):refDec l=decB l:=
 wP hl (fun _ h=>zV h) (fun c hc i hi=>qr (((nL l).1 c hc).2 i hi))
def bitR(x:Nat × Nat):Nat × Nat:=(if (x.1+x.2) % 2=1 then (x.1 / 2) ^^^ 3988292384 else x.1 / 2,x.2 / 2)
def bitsR:Nat->Nat × Nat->Nat × Nat
 | 0,x=>x
 | k+1,x=>bitR (bitsR k x)
theorem zN(x:Nat × Nat):(bitR x).1 ^^^ (bitR x).2=shN (x.1 ^^^ x.2):=by
 unfold bitR shN;simp only;rw [Bn,zE];split
 ·rw [Nat.xor_assoc,Nat.xor_comm 3988292384,<-Nat.xor_assoc]
 ·rfl
theorem xx(k:Nat)(x:Nat × Nat):(bitsR k x).1 ^^^ (bitsR k x).2=shK k (x.1 ^^^ x.2):=by
 induction k with
 | zero=>rfl
 | succ k ih=>rw [bitsR,zN,ih,ve k 1];rfl
theorem vu(k:Nat)(x:Nat × Nat):(bitsR k x).2=x.2 / 2 ^ k:=by
 induction k with
 | zero=>simp [bitsR]
 | succ k ih=>rw [bitsR];show (bitsR k x).2 / 2=_;rw [ih,Nat.div_div_eq_div_mul,Nat.pow_succ]
theorem rS(v c:Nat)(hc:c<256):(bitsR 8 (v,c)).1=shK 8 (v ^^^ c):=by
 have a:=xx 8 (v,c);have b:=vu 8 (v,c);have d:c / 2 ^ 8=0:=Nat.div_eq_of_lt hc;simp only at a b;rw [b,d,Nat.xor_zero]at a;exact a
theorem rT(k:Nat)(v c:Nat)(a:v<4294967296)(hc:c<256):(bitsR k (v,c)).1<4294967296/\(bitsR k (v,c)).2<256:=by
 induction k with
 | zero=>exact⟨a,hc⟩
 | succ k ih=>
  rw [bitsR];refine⟨?_,?_⟩
  ·unfold bitR;simp only;split
   ·exact Nat.xor_lt_two_pow (n:=32) (by omega) (by omega)
   ·omega
  ·show (bitsR k (v,c)).2 / 2<256
   omega
theorem xI(v:Nat)(h:v<4294967296):4294967295 ^^^ v=4294967295 - v:=by
 apply Nat.eq_of_testBit_eq;intro i;have e:4294967295 - v=2 ^ 32 - (v+1):=by omega
 rw [e,Nat.testBit_two_pow_sub_succ (by omega),Nat.testBit_xor,show (4294967295:Nat)=2 ^ 32 - 1 from rfl,Nat.testBit_two_pow_sub_one];by_cases a:i<32
 ·simp [a]
 ·have:v.testBit i=false:=Nat.testBit_lt_two_pow (Nat.lt_of_lt_of_le (by omega:v<2 ^ 32) (Nat.pow_le_pow_right (by omega) (by omega)));simp [a,this]
end
end Go.Proofs.YtklenjmfalljgabGreatDoor
