/- The texts Crc BytP BytQ Wrt Rda Rdb. -/
import Derived.Test.YtklenjmfalljgabGreatDoorM00
import Derived.Test.YtklenjmfalljgabGreatDoorM02
import Derived.Test.YtklenjmfalljgabGreatDoorM16
import Derived.Test.YtklenjmfalljgabGreatDoorM17
import Derived.RowKit
import Derived.Laws.BitsAllLaws
import Derived.Laws.Bits64
import Derived.Laws.BytesArg
import Derived.Defers
import Derived.Recover
namespace Go.Proofs.YtklenjmfalljgabGreatDoor
set_option maxRecDepth 100000
set_option maxHeartbeats 8000000
section
def shN(c:Nat):Nat:=if c % 2=1 then (c / 2) ^^^ 3988292384 else c / 2
theorem zE(c d:Nat):(c ^^^ d) / 2=c / 2 ^^^ d / 2:=by
 apply Nat.eq_of_testBit_eq;intro i;simp [Nat.testBit_div_two,Nat.testBit_xor]
theorem Bn(c d:Nat):(c ^^^ d) % 2=(c+d) % 2:=by
 have h:=Nat.testBit_xor c d 0;simp only [Nat.testBit_zero]at h;have h1:(c ^^^ d) % 2<2:=Nat.mod_lt _ (by decide);have h2:c % 2<2:=Nat.mod_lt _ (by decide);have h3:d % 2<2:=Nat.mod_lt _ (by decide);have a:c % 2=0\/c % 2=1:=by omega
 have b:d % 2=0\/d % 2=1:=by omega
 have e:(c ^^^ d) % 2=0\/(c ^^^ d) % 2=1:=by omega
 rcases a with a | a<;>rcases b with b | b<;>rcases e with e | e<;>simp [a,b,e]at h<;>omega
theorem zi{c:Nat}(h:c<4294967296):shN c<4294967296:=by
 unfold shN;split
 ·exact Nat.xor_lt_two_pow (n:=32) (by omega) (by decide)
 ·omega
def shK:Nat->Nat->Nat
 | 0,c=>c
 | k+1,c=>shK k (shN c)
theorem BX(k:Nat){c:Nat}(h:c<4294967296):shK k c<4294967296:=by
 induction k generalizing c with
 | zero=>exact h
 | succ k ih=>exact ih (zi h)
theorem ve(j k c:Nat):shK (j+k) c=shK k (shK j c):=by
 induction j generalizing c with
 | zero=>rw [Nat.zero_add];rfl
 | succ j ih=>rw [Nat.succ_add,shK,ih];rfl
def crcF(c:Nat)(l:List Nat):Nat:=l.foldl (fun c b=>shK 8 (c ^^^ b)) c
def crcN(l:List Nat):Nat:=4294967295 ^^^ crcF 4294967295 l
theorem uL(c:Nat)(l:List Nat)(hc:c<4294967296)(a:∀ b∈l,b<256):crcF c l<4294967296:=by
 induction l generalizing c with
 | nil=>exact hc
 | cons b r ih=>
  have hb:=a b (by simp);exact ih _ (BX 8 (Nat.xor_lt_two_pow (n:=32) (by omega) (by omega))) (fun x hx=>a x (by simp [hx]))
theorem nH(c:Nat)(l m:List Nat):crcF c (l++m)=crcF (crcF c l) m:=by simp [crcF]
def leB:Nat->Nat->List Nat
 | 0,_=>[]
 | k+1,x=>x % 256::leB k (x / 256)
theorem lS(k x:Nat):(leB k x).length=k:=by
 induction k generalizing x with
 | zero=>rfl
 | succ k ih=>simp [leB,ih]
theorem BL(k x:Nat):∀ b∈leB k x,b<256:=by
 induction k generalizing x with
 | zero=>simp [leB]
 | succ k ih=>
  intro b a;rcases List.mem_cons.1 a with rfl | a
  ·exact Nat.mod_lt _ (by decide)
  ·exact ih _ b a
theorem uM(l:List Nat)(hl:∀ b∈l,b<256):crcN l<4294967296:=Nat.xor_lt_two_pow (n:=32) (by decide) (uL _ l (by decide) hl)
def numBF:Nat->Nat->List Nat
 | 0,n=>[n]
 | k+1,n=>if n<128 then [n] else (n % 128+128)::numBF k (n / 128)
theorem sF:∀ (j k n:Nat),n<=j->n<=k->numBF j n=numBF k n
 | 0,0,_,_,_=>rfl
 | 0,k+1,n,h,_=>by simp only [numBF];rw [if_pos (by omega)]
 | j+1,0,n,_,h=>by simp only [numBF];rw [if_pos (by omega)]
 | j+1,k+1,n,h1,h2=>by
  simp only [numBF];by_cases h:n<128
  ·rw [if_pos h,if_pos h]
  ·rw [if_neg h,if_neg h,sF j k (n / 128) (by omega) (by omega)]
def numB(n:Nat):List Nat:=numBF n n
theorem jO{n:Nat}(h:n<128):numB n=[n]:=by
 unfold numB;cases n with
 | zero=>rfl
 | succ k=>simp only [numBF];rw [if_pos h]
theorem kG{n:Nat}(h:¬n<128):numB n=(n % 128+128)::numB (n / 128):=by
 unfold numB;cases n with
 | zero=>omega
 | succ k=>
  simp only [numBF];rw [if_neg h,sF k ((k+1) / 128) ((k+1) / 128) (by omega) (Nat.le_refl _)]
theorem jz(n:Nat):∀ b∈numB n,b<256:=by
 induction n using Nat.strongRecOn with
 | ind n ih=>
  by_cases h:n<128
  ·rw [jO h];simp;omega
  ·rw [kG h];intro b a;rcases List.mem_cons.1 a with rfl | a
   ·omega
   ·exact ih (n / 128) (by omega) b a
def rdN(place n:Nat):List Nat->Option (Nat × List Nat)
 | []=>none
 | b::r=>if place<64/\(b % 128)*2 ^ place<18446744073709551616 then
   (if b<128 then (if 0<b\/place=0 then some (n+(b % 128)*2 ^ place,r) else none) else rdN (place+7) (n+(b % 128)*2 ^ place) r)
  else none
theorem uX(n:Nat):∀ (a b:Nat) (r:List Nat),n*2 ^ a<18446744073709551616->(0<n\/a=0)->a<64->rdN a b (numB n++r)=some (b+n*2 ^ a,r):=by
 induction n using Nat.strongRecOn with
 | ind n ih=>
  intro a b r f i c;by_cases h:n<128
  ·rw [jO h];have e:n % 128=n:=Nat.mod_eq_of_lt h;simp only [List.cons_append,List.nil_append,rdN,e];rw [if_pos ⟨c,f⟩,if_pos h,if_pos i]
  ·rw [kG h];have e:(n % 128+128) % 128=n % 128:=by omega
   have hp:0<2 ^ a:=Nat.two_pow_pos _;have hle:n % 128*2 ^ a<=n*2 ^ a:=Nat.mul_le_mul_right _ (Nat.mod_le _ _);have hsum:n % 128*2 ^ a+n / 128*2 ^ (a+7)=n*2 ^ a:=by
    have:(2:Nat) ^ (a+7)=128*2 ^ a:=by rw [Nat.pow_add,Nat.mul_comm]
    rw [this,<-Nat.mul_assoc,<-Nat.add_mul];congr 1
    omega
   have d:0<n / 128:=by omega
   have j:a+7<64:=by
    by_cases hc:a+7<64
    ·exact hc
    ·have:2 ^ 64<=2 ^ (a+7):=Nat.pow_le_pow_right (by decide) (by omega);have h5:2 ^ (a+7)<=n / 128*2 ^ (a+7):=Nat.le_mul_of_pos_left _ d;have h6:(2:Nat) ^ 64=18446744073709551616:=by decide
     omega
   simp only [List.cons_append,rdN,e];rw [if_pos ⟨c,by omega⟩,if_neg (by omega),ih (n / 128) (by omega) (a+7) _ r (by omega) (Or.inl d) j];congr 2
   omega
def rdWhole(l:List Nat):Option (Int × List Nat):=match rdN 0 0 l with
 | some (n,r)=>if n<=9223372036854775807 then some ((n:Int),r) else none
 | none=>none
def zig(n:Int):Nat:=if n<0 then (-2*n - 1).toNat else (2*n).toNat
def zag(n:Nat):Int:=if n % 2=1 then -((n / 2:Nat):Int) - 1 else ((n / 2:Nat):Int)
theorem vm(n:Int):zag (zig n)=n:=by
 unfold zag zig;split<;>split<;>omega
def rdSigned(l:List Nat):Option (Int × List Nat):=match rdN 0 0 l with
 | some (n,r)=>some (zag n,r)
 | none=>none
def rdMost(b:Int)(l:List Nat):Option (Int × List Nat):=match rdWhole l with
 | some (n,r)=>if n<=b then some (n,r) else none
 | none=>none
def rdIns(l:List Nat):Option (Ins × List Nat):=match rdWhole l with
 | none=>none
 | some (o,l1)=>match rdWhole l1 with
  | none=>none
  | some (a,l2)=>match rdWhole l2 with
   | none=>none
   | some (b,l3)=>match rdSigned l3 with
    | none=>none
    | some (n,l4)=>some (⟨o,a,b,n⟩,l4)
def rdMany{α:Type}(P:List Nat->Option (α × List Nat)):Nat->List Nat->Option (List α × List Nat)
 | 0,l=>some ([],l)
 | k+1,l=>match P l with
  | none=>none
  | some (x,r)=>match rdMany P k r with
   | none=>none
   | some (xs,r')=>some (x::xs,r')
def rdThread(l:List Nat):Option (List Ins × List Nat):=match rdMost 16 l with
 | none=>none
 | some (k,r)=>rdMany rdIns k.toNat r
def rdProg(l:List Nat):Option (List (List Ins) × List Nat):=match rdMost 4 l with
 | none=>none
 | some (k,r)=>rdMany rdThread k.toNat r
def rdRuns:Nat->List Int->List Nat->Option (List Int × List Nat)
 | 0,sch,l=>some (sch,l)
 | k+1,sch,l=>match rdWhole l with
  | none=>none
  | some (t,r)=>match rdMost (500 - sch.length) r with
   | none=>none
   | some (c,r')=>if 0<c/\sch.getLast?≠some t then rdRuns k (sch++List.replicate c.toNat t) r' else none
def rdSched(l:List Nat):Option (List Int × List Nat):=match rdMost 500 l with
 | none=>none
 | some (k,r)=>rdRuns k.toNat [] r
def rdVer(l:List Nat):Option ((Int × Int × Int) × List Nat):=match rdWhole l with
 | none=>none
 | some (a,l1)=>match rdWhole l1 with
  | none=>none
  | some (b,l2)=>match rdWhole l2 with
   | none=>none
   | some (c,l3)=>some ((a,b,c),l3)
structure Art where
 prog:List (List Ins)
 sch:List Int
 ver:Int × Int × Int
def verOk(v:Int × Int × Int):Bool:=(decide (1<=v.1) && decide (v.1<=5)) && (decide (0<=v.2.1) && decide (v.2.1<=3)) && (decide (0<=v.2.2) && decide (v.2.2<=500))
def artE(a:Art):Int:=if vProg a.prog=true then (if validS a.sch=true/\verOk a.ver=true then 0 else 2) else 1
def rdArt(l:List Nat):Option (Art × List Nat):=match l with
 | 82::82::1::r0=>match rdProg r0 with
  | none=>none
  | some (p,r1)=>match rdSched r1 with
   | none=>none
   | some (s,r2)=>match rdVer r2 with
    | none=>none
    | some (v,r3)=>some (⟨p,s,v⟩,r3)
 | _=>none
def decB(l:List Nat):Option Art:=match rdArt l with
 | none=>none
 | some (a,r)=>if r=leB 4 (crcN (l.take (l.length - r.length)))/\artE a=0 then some a else none
def wInt(n:Int):List Nat:=numB n.toNat
def insB(i:Ins):List Nat:=wInt i.op++(wInt i.a++(wInt i.b++numB (zig i.n)))
def codeB(c:List Ins):List Nat:=wInt c.length++c.flatMap insB
def progB(p:List (List Ins)):List Nat:=wInt p.length++p.flatMap codeB
def runB(x:Int × Int):List Nat:=wInt x.1++wInt x.2
def schB(s:List Int):List Nat:=wInt (grp s).length++(grp s).flatMap runB
def verB(v:Int × Int × Int):List Nat:=wInt v.1++(wInt v.2.1++wInt v.2.2)
def bodyB(a:Art):List Nat:=[82,82,1]++(progB a.prog++(schB a.sch++verB a.ver))
def encB(a:Art):List Nat:=bodyB a++leB 4 (crcN (bodyB a))
theorem jR(n:Int)(r:List Nat)(h0:0<=n)(h1:n<=9223372036854775807):rdWhole (wInt n++r)=some (n,r):=by
 unfold rdWhole wInt;rw [uX n.toNat 0 0 r (by simp;omega) (Or.inr rfl) (by omega)];simp only [Nat.pow_zero,Nat.mul_one,Nat.zero_add];rw [if_pos (by omega)];congr 2
 omega
theorem ul(n:Int)(r:List Nat)(h0: -9223372036854775808<=n)(h1:n<=9223372036854775807):rdSigned (numB (zig n)++r)=some (n,r):=by
 unfold rdSigned;rw [uX (zig n) 0 0 r (by unfold zig;split<;>simp<;>omega) (Or.inr rfl) (by omega)];simp [vm]
theorem mQ(b n:Int)(r:List Nat)(a:0<=n)(c:n<=9223372036854775807)(d:n<=b):rdMost b (wInt n++r)=some (n,r):=by
 unfold rdMost;rw [jR n r a c];simp only;rw [if_pos d]
def insInt(i:Ins):Prop:=(0<=i.op/\i.op<=9223372036854775807)/\(0<=i.a/\i.a<=9223372036854775807)/\(0<=i.b/\i.b<=9223372036854775807)/\(-9223372036854775808<=i.n/\i.n<=9223372036854775807)
theorem AL(i:Ins)(r:List Nat)(h:insInt i):rdIns (insB i++r)=some (i,r):=by
 obtain⟨⟨a,b⟩,⟨c,d⟩,⟨c1,e⟩,⟨f,j⟩⟩:=h;unfold rdIns insB;simp only [List.append_assoc];rw [jR _ _ a b];simp only;rw [jR _ _ c d];simp only;rw [jR _ _ c1 e];simp only;rw [ul _ _ f j]
theorem sO{α:Type}(P:List Nat->Option (α × List Nat))(W:α->List Nat)(q:List α)(r:List Nat)(h:∀ x∈q,∀ r,P (W x++r)=some (x,r)):rdMany P q.length (q.flatMap W++r)=some (q,r):=by
 induction q with
 | nil=>rfl
 | cons x q ih=>
  rw [List.flatMap_cons,List.append_assoc,List.length_cons,rdMany,h x (by simp)];simp only;rw [ih (fun y hy=>h y (by simp [hy]))]
theorem um(c:List Ins)(r:List Nat)(hl:c.length<=16)(h:∀ i∈c,insInt i):rdThread (codeB c++r)=some (c,r):=by
 unfold rdThread codeB;rw [List.append_assoc,mQ _ _ _ (by omega) (by omega) (by omega)];simp only [Int.toNat_natCast];exact sO _ _ _ _ (fun i hi r=>AL i r (h i hi))
theorem yO(p:List (List Ins))(r:List Nat)(hl:p.length<=4)(h:∀ c∈p,c.length<=16/\∀ i∈c,insInt i):rdProg (progB p++r)=some (p,r):=by
 unfold rdProg progB;rw [List.append_assoc,mQ _ _ _ (by omega) (by omega) (by omega)];simp only [Int.toNat_natCast];exact sO _ _ _ _ (fun c hc r=>um c r (h c hc).1 (h c hc).2)
theorem AN(v:Int × Int × Int)(r:List Nat)(h:verOk v=true):rdVer (verB v++r)=some (v,r):=by
 simp only [verOk,Bool.and_eq_true,decide_eq_true_eq]at h;unfold rdVer verB;simp only [List.append_assoc];rw [jR _ _ (by omega) (by omega)];simp only;rw [jR _ _ (by omega) (by omega)];simp only;rw [jR _ _ (by omega) (by omega)]
def Sep:Option Int->List (Int × Int)->Prop
 | _,[]=>True
 | p,x::q=>p≠some x.1/\Sep (some x.1) q
def expand(q:List (Int × Int)):List Int:=q.flatMap fun x=>List.replicate x.2.toNat x.1
theorem Af(s:List Int):Sep none (grp s)/\∀ x q,grp s=x::q->Sep (some x.1) q:=by
 induction s with
 | nil=>exact⟨trivial,fun x q h=>by cases h⟩
 | cons t r ih=>
  unfold grp;cases h:grp r with
  | nil=>exact⟨⟨by simp,trivial⟩,fun x q e=>by simp at e;rw [e.2];trivial⟩
  | cons x q=>
   have a:=ih.2 x q h;simp only;split
   ·rename_i e
    rw [<-e]at a;exact⟨⟨by simp,a⟩,fun y q' e'=>by simp only [List.cons.injEq]at e';rw [<-e'.1,<-e'.2];exact a⟩
   ·rename_i e
    have b:Sep (some t) (x::q):=⟨fun e'=>e (Option.some.inj e'),a⟩;exact⟨⟨by simp,b⟩,fun y q' e'=>by simp only [List.cons.injEq]at e';rw [<-e'.1,<-e'.2];exact b⟩
theorem lh(s:List Int):expand (grp s)=s:=by
 induction s with
 | nil=>rfl
 | cons t r ih=>
  have a:=mI r;unfold grp;cases h:grp r with
  | nil=>rw [h]at ih;rw [<-ih];simp [expand]
  | cons x q=>
   rw [h]at ih a;have hx:=(a x (by simp)).2.1;simp only;split
   ·rename_i e
    have b:(x.2+1).toNat=x.2.toNat+1:=by omega
    simp only [expand,List.flatMap_cons]at ih ⊢;rw [b,List.replicate_succ,List.cons_append,e,ih]
   ·simp only [expand,List.flatMap_cons]at ih ⊢;simp [ih]
theorem nK(a:List Int)(t:Int)(c:Nat)(hc:0<c):(a++List.replicate c t).getLast?=some t:=by
 obtain⟨k,rfl⟩:∃ k,c=k+1:=⟨c - 1,by omega⟩;rw [List.replicate_succ',<-List.append_assoc];simp
theorem yP(q:List (Int × Int))(a:List Int)(r:List Nat)(c:Sep a.getLast? q)(b:∀ x∈q,0<=x.1/\x.1<=63/\1<=x.2/\x.2<=500)(f:a.length+(expand q).length<=500):
  rdRuns q.length a (q.flatMap runB++r)=some (a++expand q,r):=by
 induction q generalizing a with
 | nil=>simp [rdRuns,expand]
 | cons x q ih=>
  obtain⟨d,h2,h3,h4⟩:=b x (by simp);have e:(expand (x::q)).length=x.2.toNat+(expand q).length:=by simp [expand]
  rw [e]at f;rw [List.flatMap_cons,List.length_cons,rdRuns];unfold runB;simp only [List.append_assoc];rw [jR _ _ d (by omega)];simp only;rw [mQ _ _ _ (by omega) (by omega) (by omega)];simp only;rw [if_pos ⟨by omega,c.1⟩];have:=ih (a++List.replicate x.2.toNat x.1) (by rw [nK _ _ _ (by omega)];exact c.2) (fun y hy=>b y (by simp [hy])) (by simp;omega);unfold runB at this;rw [this];simp [expand]
theorem wO(s:List Int)(r:List Nat)(h:validS s=true):rdSched (schB s++r)=some (s,r):=by
 have a:=h;simp only [validS,Bool.and_eq_true,decide_eq_true_eq,List.all_eq_true]at a;have hg:=lN s;unfold rdSched schB;rw [List.append_assoc,mQ _ _ _ (by omega) (by omega) (by omega)];simp only [Int.toNat_natCast];rw [yP (grp s) [] r (Af s).1 (fun x hx=>by
  have b:=mI s x hx;have c:=a.2 x.1 b.1;exact⟨c.1,c.2,b.2.1,by omega⟩) (by rw [lh];simpa using a.1),lh]
 rfl
theorem mt{l r:List Nat}{a:Art}(h:rdArt l=some (a,r)):∃ r0,l=82::82::1::r0:=by
 unfold rdArt at h;split at h
 ·exact⟨_,rfl⟩
 ·cases h
theorem vI{l:List Nat}{a:Art}(h:decB l=some a):∃ r,rdArt l=some (a,r)/\r.length=4/\r=leB 4 (crcN (l.take (l.length - r.length))):=by
 unfold decB at h;cases h1:rdArt l with
 | none=>rw [h1]at h;cases h
 | some y=>
  obtain⟨b,r⟩:=y;rw [h1]at h;simp only at h;split at h
  ·rename_i h2
   obtain rfl:=Option.some.inj h;exact⟨r,rfl,by rw [h2.1,lS],h2.1⟩
  ·cases h
theorem zU(a:Art)(h:artE a=0)(e:∀ c∈a.prog,∀ i∈c,insInt i):decB (encB a)=some a:=by
 have d:vProg a.prog=true/\validS a.sch=true/\verOk a.ver=true:=by
  unfold artE at h;split at h
  ·split at h
   ·rename_i b h2;exact⟨b,h2⟩
   ·omega
  ·omega
 have f:=iW d.1;have j:∀ c∈a.prog,c.length<=16/\∀ i∈c,insInt i:=by
  intro c hc;refine⟨?_,e c hc⟩;have b:=d.1;simp only [vProg,Bool.and_eq_true,List.all_eq_true]at b;exact jx (b.2.2 c hc)
 have k:rdArt (encB a)=some (a,leB 4 (crcN (bodyB a))):=by
  unfold encB bodyB;simp only [List.cons_append,List.nil_append,List.append_assoc,rdArt];rw [yO a.prog _ f.2 j];simp only;rw [wO a.sch _ d.2.1];simp only;rw [AN a.ver _ d.2.2]
 unfold decB;rw [k];simp only;have:(encB a).take ((encB a).length - (leB 4 (crcN (bodyB a))).length)=bodyB a:=by unfold encB;simp
 rw [this,if_pos ⟨rfl,h⟩]
end
section
open Go.RowKit
attribute [local go_sem] Go.World.cell?_alloc_some
def u8s(l:List Nat):List Value:=l.map fun(x:Nat)=> .int .u8 (x:Int)
theorem Bh(l:List Nat):(u8s l).length=l.length:=by simp [u8s]
theorem zx(l:List Nat)(x:Nat):u8s (l++[x])=u8s l++[.int .u8 (x:Int)]:=by simp [u8s]
theorem Ao:((Tryz.prog.info? 5).map fun i=>(i.zero,i.size,i.bytes))=some (some (.int .u8 0),1,1):=by kernel_rfl
def RowM(w:World)(base:Nat)(v:Value)(n:Nat)(xs:List Value):Prop:=
 w.ownsRow base 5 1 v n xs\/∃ g cur,v= .slice (some ⟨g,0,none⟩) n n/\base<=g/\w.heap[g]?=some (.cells cur 5 (n,n+1))/\cur.toList=xs/\xs.length=n
section
variable {w w' : World} {base n : Nat} {v : Value} {xs : List Value}
theorem RowM.form(h:RowM w base v n xs):∃ ao c,v= .slice ao n c:=by
 rcases h with h | ⟨g,cur,rfl,_⟩
 ·obtain⟨x1,x2,x3,rfl⟩:=iw h;exact⟨x1,x3,by rw [iB h]⟩
 ·exact⟨_,_,rfl⟩
theorem RowM.block(h:RowM w base v n xs):∀ k,v.ownBlock=some k->base<=k:=by
 rcases h with h | ⟨g,cur,rfl,hb,_⟩
 ·exact iA h
 ·intro k a;simp only [Value.ownBlock,Option.some.injEq]at a;omega
theorem RowM.lt(h:RowM w base v n xs):∀ k,v.ownBlock=some k->k<w.heap.size:=by
 rcases h with h | ⟨g,cur,rfl,_,hg,_⟩
 ·exact rx h
 ·intro k a;simp only [Value.ownBlock,Option.some.injEq]at a;subst a;exact(Array.getElem?_eq_some_iff.1 hg).1
theorem RowM.keep(h:RowM w base v n xs)(a:∀ k,v.ownBlock=some k->w'.heap[k]?=w.heap[k]?):RowM w' base v n xs:=by
 rcases h with h | ⟨g,cur,rfl,hbg,hg,h4⟩
 ·refine Or.inl ⟨h.1,?_⟩;rcases h.2 with e | ⟨g,cap,cur,rfl,hbg,hg,h4⟩
  ·exact Or.inl e
  ·exact Or.inr ⟨g,cap,cur,rfl,hbg,by rw [a g rfl];exact hg,h4⟩
 ·exact Or.inr ⟨g,cur,rfl,hbg,by rw [a g rfl];exact hg,h4⟩
theorem RowM.alloc{o:Obj}(h:RowM w base v n xs):RowM (w.alloc o) base v n xs:=h.keep fun k hk=>Below.heap_alloc _ _ _ (h.lt k hk)
theorem RowM.len(h:RowM w base v n xs):xs.length=n:=by
 rcases h with h | ⟨g,cur,rfl,hbg,hg,_,h4⟩
 ·simpa using h.1
 ·exact h4
theorem RowM.cells(h:RowM w base v n xs){g:Nat}(a:v.ownBlock=some g):∀ j u,xs[j]?=some u->w.cell? ⟨g,j,none⟩=some u:=by
 intro j u b;rcases h with h | ⟨g',cur,rfl,_,hg',hc,_⟩
 ·have:=h.cells a j u b;have c:(⟨g,0,none⟩:Addr).add j=⟨g,j,none⟩:=by unfold Addr.add;split<;>simp_all
  rwa [c]at this
 ·simp only [Value.ownBlock,Option.some.injEq]at a;subst a;subst hc;simpa [World.cell?,hg']using b
end
theorem ko{o:Oper}{a:Act}{K:Act->World->Prop}{Q:Exit->Act->World->Prop}(w:World)(s x:Operand)
  (q:o.op= .call { callee:= .builtin .append,args:= #[s,x],argTypes:= #[147,147]}) (base:Nat) (v:Value) (n:Nat) (xs:List Value) (r:a.eval s=v) (d:RowM w base v n xs)
  (b:Nat) (y:Value) (t:a.eval x= .slice (some ⟨b,0,none⟩) 1 1) (E:w.heap[b]?=some (.cells #[y] 5 (0,0))) (C:y.oneCell'=true) (hn:n<=2000000) (i:base<=w.heap.size) (H:Nat) (f:w.heap.size=H)
  (h:∀ g cap w',w'.ownsRow base 5 1 (.slice (some ⟨g,0,none⟩) (n+1) cap) (n+1) (xs++[y])->w.grownBy w' v.ownBlock->(v.ownBlock=some g\/g=H)->g<w'.heap.size->K (a.put o.dst (.slice (some ⟨g,0,none⟩) (n+1) cap)) w'):
  o.wp Tryz.prog a w K Q:=by
 obtain⟨B,l,z,c,A⟩:=info_parts Ao;have e:n+1<=maxLen:=by unfold maxLen;omega
 have p:∀ j u,[y][j]?=some u->w.cell? ((⟨b,0,none⟩:Addr).add j)=some u:=World.news_of_block (cs:= #[y]) E;rcases d with d | ⟨g,cur,rfl,hb,hg,hcur,hl⟩
 ·exact wp_append_lies w s x _ q base 5 B _ 1 1 Tryz.underlying147 l z c A rfl (by omega) v n xs r d ⟨b,0,none⟩ 1 1 [y] t rfl p (by simpa using C) (by omega) e (by omega) i H f h
 ·have I:∀ j u,xs[j]?=some u->w.cell? ((⟨g,0,none⟩:Addr).add j)=some u:=fun j u hu=>by
   have D:(⟨g,0,none⟩:Addr).add j=⟨g,j,none⟩:=by unfold Addr.add;split<;>simp_all
   rw [D];exact RowM.cells (v:= .slice (some ⟨g,0,none⟩) n n) (base:=base) (n:=n) (Or.inr ⟨g,cur,rfl,hb,hg,hcur,hl⟩) rfl j u hu
  have J:=run_append_grow (P:=Tryz.prog) w 147 o.type 5 B _ Tryz.underlying147 l z ⟨g,0,none⟩ n n xs (by rw [c];omega) I ⟨b,0,none⟩ 1 1 [y] (by rw [c];rfl) p (by omega) (by omega) (growslice_fits (by omega) (by rw [A];omega));have G:=grownCap_ge w (n+1) n 5;have F:grownCap w (n+1) n 5<=maxLen:=grownCap_le_maxLen w (n+1) n 5 e;have m:(xs++[y]).length=(n+1)*1:=by simp [hl]
  unfold Oper.wp execOp;simp only [q,resolve,invoke,builtin,Sem.run_bind,Sem.run_pure,Result.andThen_ok,List.map_toArray,List.map_cons,List.map_nil,r,t,J];refine h _ _ _ ⟨m,.inr ⟨w.heap.size,_,_,rfl,i,heap_alloc_new w.drew _,G,F,?_,?_⟩⟩ ⟨rfl,rfl,rfl,by simp,fun k hk _=>Below.heap_alloc w.drew _ _ hk⟩ (Or.inr f) (by simp)
  ·have c:(Value.int IntKind.u8 0).cells.size=1:=rfl;simp only [Array.size_append,List.size_toArray,size_zeroCells,c,hl,List.length_singleton];omega
  ·simp only [Array.toList_append,List.append_assoc];rw [<-List.append_assoc,<-m];exact List.take_left
theorem ls{ops:Array Oper}{rest:List Oper}{o:Oper}{a:Act}{Q:Exit->Act->World->Prop}(w:World)(hgd:o.guard=none)(s x:Operand)
  (ho:o.op= .call { callee:= .builtin .append,args:= #[s,x],argTypes:= #[147,147]}) (base:Nat) (v:Value) (n:Nat) (xs:List Value) (hs:a.eval s=v) (hown:RowM w base v n xs)
  (g0:Nat) (y:Value) (hx:a.eval x= .slice (some ⟨g0,0,none⟩) 1 1) (hblk:w.heap[g0]?=some (.cells #[y] 5 (0,0))) (h1:y.oneCell'=true) (hn:n<=2000000) (hbase:base<=w.heap.size) (H:Nat) (hH:w.heap.size=H)
  (h:∀ g cap w',w'.ownsRow base 5 1 (.slice (some ⟨g,0,none⟩) (n+1) cap) (n+1) (xs++[y])->w.grownBy w' v.ownBlock->(v.ownBlock=some g\/g=H)->g<w'.heap.size->wpList Tryz.prog ops Q rest (a.put o.dst (.slice (some ⟨g,0,none⟩) (n+1) cap)) w'):
  wpList Tryz.prog ops Q (o::rest) a w:=
 wpList_plain hgd fun _ hK=>ko w s x ho base v n xs hs hown g0 y hx hblk h1 hn hbase H hH fun g cap w' h2 h3 h4 h5=>hK _ _ (h g cap w' h2 h3 h4 h5)
def bs(l:List Nat):ByteArray:=strOfNums (l.map fun(x:Nat)=>(x:Int))
theorem nX(l:List Nat):(bs l).size=l.length:=by unfold bs;rw [strOfNums_size];simp
theorem tz{l:List Nat}(h:∀ x∈l,x<256):byt (bs l)=l:=by
 unfold byt bs;rw [strOfNums_data,List.map_map,List.map_map];conv=>rhs;rw [<-List.map_id l]
 refine List.map_congr_left fun x hx=>?_
 have:=h x hx;simp;omega
theorem RowM.str{w:World}{base n:Nat}{v:Value}{l:List Nat}(h:RowM w base v n (u8s l)):(convert 147 9 v).run Tryz.prog w= .ok (.string (bs l)) w:=by
 have b:=h.len;rw [Bh]at b;subst b;have a:∀ g,v.ownBlock=some g->∀ i,i<l.length->w.cell? ⟨g,0+i,none⟩=some (.int .u8 ((l.map fun(x:Nat)=>(x:Int)).getD i 0)):=fun g hg i hi=>by
  have:=h.cells hg i (.int .u8 (l[i]:Nat)) (by simp [u8s,hi]);rw [Nat.zero_add,this];simp [List.getD,hi]
 rcases h with h | ⟨g,cur,rfl,_⟩
 ·rcases h.2 with ⟨rfl,e⟩ | ⟨g,cap,cur,rfl,_⟩
  ·have:l=[]:=List.eq_nil_of_length_eq_zero e;subst this;exact run_convert_bytes_nil w _ _ Tryz.underlying147 Tryz.underlying5 0 0 _ Tryz.underlying9
  ·exact run_convert_bytes_arg w _ _ Tryz.underlying147 Tryz.underlying5 g 0 l.length cap _ (by simp) (a g rfl) _ Tryz.underlying9
 ·exact run_convert_bytes_arg w _ _ Tryz.underlying147 Tryz.underlying5 g 0 l.length _ _ (by simp) (a g rfl) _ Tryz.underlying9
structure WrS(W:World)(w:World)(b:Nat)(bv:Value)(l:List Nat):Prop where
 blk:w.heap[b]?=some (.cells #[bv] 172 (0,0))
 row:RowM w W.heap.size bv l.length (u8s l)
 ne:bv.ownBlock≠some b
 lo:W.heap.size<=b
 base:W.grownBy w none
theorem WrS.cell{W w:World}{b:Nat}{bv:Value}{l:List Nat}(h:WrS W w b bv l):w.cell? ⟨b,0,none⟩=some bv:=by have:=h.blk;simp [World.cell?,this]
theorem WrS.free{W w:World}{b:Nat}{bv:Value}{l:List Nat}(h:WrS W w b bv l):w.frozen? ⟨b,0,none⟩=false:=by have:=h.blk;simp [World.frozen?,this]
theorem WrS.lt{W w:World}{b:Nat}{bv:Value}{l:List Nat}(h:WrS W w b bv l):b<w.heap.size:=(Array.getElem?_eq_some_iff.1 h.blk).1
theorem WrS.grown{W w w':World}{b:Nat}{bv:Value}{l:List Nat}(h:WrS W w b bv l)(hg:w.grownBy w' none):WrS W w' b bv l:=
 ⟨by rw [hg.block b h.lt (by simp)];exact h.blk,h.row.keep (fun k hk=>hg.block k (h.row.lt k hk) (by simp)),h.ne,h.lo,il h.base hg⟩
structure WrT(w0 w:World)(b:Nat)(bv0 bv:Value):Prop where
 keep:∀ k,k<w0.heap.size->k≠b->bv0.ownBlock≠some k->w.heap[k]?=w0.heap[k]?
 own:∀ g,bv.ownBlock=some g->bv0.ownBlock=some g\/w0.heap.size<=g
 size:w0.heap.size<=w.heap.size
theorem WrT.refl(w:World)(b:Nat)(bv:Value):WrT w w b bv bv:=⟨fun _ _ _ _=>rfl,fun _ h=>Or.inl h,Nat.le_refl _⟩
theorem WrT.trans{i j l:World}{b:Nat}{c d f:Value}(h:WrT i j b c d)(a:WrT j l b d f):WrT i l b c f:=by
 refine⟨fun k hk hb ho=>?_,fun g hg=>?_,Nat.le_trans h.size a.size⟩
 ·rw [a.keep k (Nat.lt_of_lt_of_le hk h.size) hb (fun e=>by rcases h.own k e with e2 | e2;exact ho e2;omega)];exact h.keep k hk hb ho
 ·rcases a.own g hg with e | e
  ·exact h.own g e
  ·exact Or.inr (Nat.le_trans h.size e)
theorem WrT.grown{w0 w1 w2:World}{b:Nat}{v0 v1:Value}(h:WrT w0 w1 b v0 v1)(hg:w1.grownBy w2 none):WrT w0 w2 b v0 v1:=
 ⟨fun k hk hb ho=>by rw [hg.block k (Nat.lt_of_lt_of_le hk h.size) (by simp)];exact h.keep k hk hb ho,h.own,Nat.le_trans h.size hg.size⟩
theorem WrS.push{W w w6:World}{b:Nat}{a:Value}{l:List Nat}{o:Obj}{g6 c6 x:Nat}(h:WrS W w b a l)(n:w6.ownsRow W.heap.size 5 1 (.slice (some ⟨g6,0,none⟩) (l.length+1) c6) (l.length+1) (u8s l++[.int .u8 x]))
  (c:(w.alloc o).grownBy w6 a.ownBlock) (f:a.ownBlock=some g6\/g6=w.heap.size+1):WrS W (w6.setCell ⟨b,0,none⟩ (.slice (some ⟨g6,0,none⟩) (l.length+1) c6)) b (.slice (some ⟨g6,0,none⟩) (l.length+1) c6) (l++[x])/\
  w6.cell? ⟨b,0,none⟩=some a/\w6.frozen? ⟨b,0,none⟩=false/\WrT w (w6.setCell ⟨b,0,none⟩ (.slice (some ⟨g6,0,none⟩) (l.length+1) c6)) b a (.slice (some ⟨g6,0,none⟩) (l.length+1) c6):=by
 have m:=h.lt;have d:w6.heap[b]?=some (.cells #[a] 172 (0,0)):=by
  rw [c.block b (by simp;omega) (fun e=>h.ne e.symm),Below.heap_alloc _ _ _ m];exact h.blk
 have i:g6≠b:=by
  rcases f with e | e
  ·intro j;exact h.ne (by rw [e,j])
  ·omega
 refine⟨⟨?_,?_,by simpa [Value.ownBlock]using i,h.lo,?_⟩,by simp [World.cell?,d],by simp [World.frozen?,d],fun k hk hb' ho=>?_,fun g hg'=>?_,?_⟩
 ·rw [heap_setCell_same _ b 0 _ _ _ d];rfl
 ·refine Or.inl (ownsRow_setCell_other ?_ (by simpa [Value.ownBlock]using i) _);rw [zx];simpa using n
 ·exact iD (iZ (iq h.base) c h.row.block) h.lo
 ·rw [heap_setCell_other _ _ _ _ hb',c.block k (by simp;omega) (fun e=>ho e.symm),Below.heap_alloc _ _ _ hk]
 ·simp only [Value.ownBlock,Option.some.injEq]at hg';rcases f with e | e
  ·exact Or.inl (by rw [e,hg'])
  ·exact Or.inr (by omega)
 ·have:=c.size;simp at this ⊢;omega
theorem Cg(x:Nat)(h:x<256):x ||| 128=x % 128+128:=by
 have:∀ x:_root_.Fin 256,x.val ||| 128=x.val % 128+128:=by decide+kernel
 exact this ⟨x,h⟩
theorem yG(n:Nat):∀ k,n<128 ^ (k+1)->(numB n).length<=k+1:=by
 induction n using Nat.strongRecOn with
 | ind n ih=>
  intro k a;by_cases h:n<128
  ·rw [jO h];simp
  ·rw [kG h];cases k with
   | zero=>simp at a;omega
   | succ k=>
    have:=ih (n / 128) (by omega) k (by rw [Nat.div_lt_iff_lt_mul (by decide)];rwa [Nat.pow_succ]at a);simp;omega
theorem kn{n:Nat}(h:n<18446744073709551616):(numB n).length<=10:=by
 have a:(128:Nat) ^ (9+1)=1180591620717411303424:=by decide
 exact yG n 9 (by rw [a];omega)
theorem sG(W:World)(b:Nat)(n:Nat)(C:n<18446744073709551616):∀ (w:World) (f:Value) (l:List Nat),WrS W w b f l->l.length<=1000000->
  Calls Tryz.prog 169 #[pt b,.int .u64 n] w fun e w'=>(∃ v,e= .returned v)/\∃ bv',WrS W w' b bv' (l++numB n)/\WrT w w' b f bv':=by
 intro w f l h hl;have F:=ij h;have D:pt b= .pointer (some ⟨b,0,none⟩):=rfl;rw [D];clear h D;go_enter Tryz.func169,Tryz.ntmps169
 go_wp2_with fail
 go_loopw [1] (fun i w'=>∃ (m:Nat) (bv':Value) (a:List Nat),i= .int .u64 m/\m<18446744073709551616/\Hid (WrS W w' b bv' a)/\Hid (WrT w w' b f bv')/\Hid (a++numB m=l++numB n)) (fun i _=>(intOf i).toNat)
 case atStart=>exact⟨n,f,l,rfl,C,F,ij (WrT.refl _ _ _),ij rfl⟩
 case round=>
  obtain⟨m,bv',a,rfl,hm,c,t,r⟩:=hrel;obtain⟨d,E⟩:∃ d,d=wr:=⟨_,rfl⟩;rw [<-E]at c t ⊢;clear E;obtain⟨x1,x3,rfl⟩:=c.out.row.form;have c0:=c.out.cell;have hbs:W.heap.size<=d.heap.size:=c.out.base.size;have hob:=c.out.row.block;have hl':a.length<=1000100:=by
   have z:=congrArg List.length r.out;have:=kn C;simp at z;omega
  by_cases h128:127<m
  ·have K:(127:Int)<(m:Int):=by omega
   have hor:bits .or .u8 ((m:Int) % 256) 128=((m % 128+128:Nat):Int):=by
    have z:((m:Int) % 256)=((m % 256:Nat):Int):=by omega
    have A:=u8_or_nat (m % 256) 128 (by omega) (by omega);rw [z];rw [Cg _ (by omega)]at A;have H:(((128:Nat):Int))=128:=rfl;rw [H]at A;rw [A];congr 1
    omega
   have s:Hid ((a++[m % 128+128])++numB (m / 128)=l++numB n):=by
    have e:numB m=(m % 128+128)::numB (m / 128):=kG (by omega);unfold Hid;rw [<-r.out,e];simp
   generalize m % 128+128=x at*;go_upto_region 2 with (at_builtin;refine ls _ rfl _ _ rfl W.heap.size (.slice x1 a.length x3) a.length (u8s a) rfl c.out.row.alloc d.heap.size (.int .u8 (x:Int)) rfl (heap_alloc_new d _) rfl (by omega) (by simp;omega) (d.heap.size+1) (by simp) ?_;intro g6 G w6 o k j B;obtain⟨p,I,J,q⟩:=c.out.push o k j;have u:=ij p;have y:=ij (t.out.trans q);clear p q o k j B)
   have q3:m / 128<m:=by omega
   go_wp2_with fail
   go_roundw
   case rel=>exact⟨m / 128,_,a++[x],by first | rfl | (congr 1;omega) | go_num,by omega,u,y,s⟩
   case measure=>simp [intOf];omega
  ·have K:¬(127:Int)<(m:Int):=by omega
   have hmod:(m:Int) % 256=m:=by omega
   have s:Hid (a++[m]=l++numB n):=by unfold Hid;rw [<-r.out,jO (by omega)]
   go_wp2_with (at_builtin;refine ls _ rfl _ _ rfl W.heap.size (.slice x1 a.length x3) a.length (u8s a) rfl c.out.row.alloc d.heap.size (.int .u8 (m:Int)) rfl (heap_alloc_new d _) rfl (by omega) (by simp;omega) (d.heap.size+1) (by simp) ?_;intro g6 G w6 o k j B;obtain⟨p,I,J,q⟩:=c.out.push o k j;have u:=ij p;have y:=ij (t.out.trans q);clear p q o k j B)
   go_end0
   exact⟨⟨_,rfl⟩,_,by rw [<-s.out];exact u.out,y.out⟩
def Wrote(W w:World)(b:Nat)(bv:Value)(l:List Nat)(e:Ending)(w':World):Prop:=(∃ v,e= .returned v)/\∃ bv',WrS W w' b bv' l/\WrT w w' b bv bv'
theorem jY(W:World)(b:Nat)(n:Int)(d:0<=n)(h1:n<=9223372036854775807)(w:World)(a:Value)(l:List Nat)(h:WrS W w b a l)(f:l.length<=1000000):
  Calls Tryz.prog 133 #[pt b,.int .i64 n] w (Wrote W w b a (l++wInt n)):=by
 obtain⟨m,rfl⟩:=Int.eq_ofNat_of_zero_le d;have c:=ij (sG W b m (by omega) w a l h f);have i:pt b= .pointer (some ⟨b,0,none⟩):=rfl;rw [i]at*;clear h;go_enter Tryz.func133,Tryz.ntmps133
 go_wp2_with (go_at_call 169;refine c.out.mono ?_;rintro e w1 ⟨⟨v,rfl⟩,j⟩)
 go_end0
 refine⟨⟨_,rfl⟩,?_⟩;unfold wInt;rw [Int.toNat_natCast];exact j
theorem sE(n x:Nat)(h:x<2 ^ n):(2 ^ n - 1) ^^^ x=2 ^ n - 1 - x:=by
 have e:2 ^ n - 1 - x=2 ^ n - (x+1):=by omega
 apply Nat.eq_of_testBit_eq;intro i;rw [Nat.testBit_xor,Nat.testBit_two_pow_sub_one,e,Nat.testBit_two_pow_sub_succ h];by_cases a:i<n
 ·simp [a]
 ·have:x.testBit i=false:=Nat.testBit_lt_two_pow (Nat.lt_of_lt_of_le h (Nat.pow_le_pow_right (by decide) (by omega)));simp [a,this]
theorem B1(n:Int)(h0: -9223372036854775808<=n)(h1:n<0):bits .xor .u64 IntKind.u64.max (IntKind.u64.wrap (IntKind.u64.wrap n*2))= -2*n - 1:=by
 have a:IntKind.u64.wrap n=n+18446744073709551616:=by
  simp only [IntKind.wrap,IntKind.signed,IntKind.bits];simp;omega
 have b:IntKind.u64.wrap ((n+18446744073709551616)*2)=2*n+18446744073709551616:=by
  simp only [IntKind.wrap,IntKind.signed,IntKind.bits];simp;omega
 rw [a,b];obtain⟨x,e⟩:=Int.eq_ofNat_of_zero_le (show 0<=2*n+18446744073709551616 by omega);have d:IntKind.u64.max=((18446744073709551615:Nat):Int):=rfl;rw [e,d,bits_xor_u64_nat _ _ (by decide) (by omega)];have:=sE 64 x (by omega);have c:(2:Nat) ^ 64 - 1=18446744073709551615:=by decide
 rw [c]at this;rw [this];omega
theorem zk(W:World)(b:Nat)(n:Int)(k: -9223372036854775808<=n)(h1:n<=9223372036854775807)(w:World)(c:Value)(l:List Nat)(h:WrS W w b c l)(m:l.length<=1000000):
  Calls Tryz.prog 134 #[pt b,.int .i64 n] w (Wrote W w b c (l++numB (zig n))):=by
 have p:zig n<18446744073709551616:=by unfold zig;split<;>omega
 have i:=ij (sG W b (zig n) p w c l h m);have o:pt b= .pointer (some ⟨b,0,none⟩):=rfl;rw [o]at*;clear h;by_cases d:n<0
 ·have a:Hid (((zig n:Nat):Int)= -2*n - 1):=by unfold Hid zig;rw [if_pos d];omega
  go_enter Tryz.func134,Tryz.ntmps134
  go_wp2_with fail
  rw [B1 n k d,<-a.out];refine i.out.mono ?_;rintro e q ⟨⟨v,rfl⟩,f⟩;go_wp2_with fail
  go_end0
  exact⟨⟨_,rfl⟩,f⟩
 ·have a:Hid (((zig n:Nat):Int)=2*n):=by unfold Hid zig;rw [if_neg d];omega
  go_enter Tryz.func134,Tryz.ntmps134
  go_wp2_with fail
  have j:n*2=((zig n:Nat):Int):=by rw [a.out];omega
  rw [j];refine i.out.mono ?_;rintro e q ⟨⟨v,rfl⟩,f⟩;clear j;go_wp2_with fail
  go_end0
  exact⟨⟨_,rfl⟩,f⟩
theorem jA(s:ByteArray)(k:Nat)(h:k<s.size):(byt s).drop k=s[k].toNat::(byt s).drop (k+1):=by
 have a:k<(byt s).length:=by rw [iL];exact h
 rw [List.drop_eq_getElem_cons a];congr 1
 have:=jU s k h;rw [List.getElem?_eq_getElem a]at this;exact Option.some.inj this
def Refused(e:Ending):Prop:=e= .panicked [{ v:= .iface 174 (.int .i64 3),recovered:=false}]
theorem jd(w:World):Calls Tryz.prog 141 #[.bool true] w fun e w'=>(∃ v,e= .returned v)/\w'=w:=by
 go_enter Tryz.func141,Tryz.ntmps141
 go_wp2_with fail
 go_end0
 exact⟨⟨_,rfl⟩,rfl⟩
theorem i7(w:World):Calls Tryz.prog 141 #[.bool false] w fun e w'=>Refused e/\w'=w:=by
 go_enter Tryz.func141,Tryz.ntmps141
 go_wp2_with fail
 exact⟨rfl,rfl,rfl⟩
structure RdS(W:World)(w:World)(b:Nat)(s:ByteArray)(k:Nat):Prop where
 blk:w.heap[b]?=some (.cells #[.string s,.int .i64 k] 176 (0,0))
 base:W.grownBy w (some b)
 le:k<=s.size
theorem RdS.c0{W w:World}{b k:Nat}{s:ByteArray}(h:RdS W w b s k):w.cell? ⟨b,0,none⟩=some (.string s):=by have:=h.blk;simp [World.cell?,this]
theorem RdS.c1{W w:World}{b k:Nat}{s:ByteArray}(h:RdS W w b s k):w.cell? ⟨b,1,none⟩=some (.int .i64 k):=by have:=h.blk;simp [World.cell?,this]
theorem RdS.z1{W w:World}{b k:Nat}{s:ByteArray}(h:RdS W w b s k):w.frozen? ⟨b,1,none⟩=false:=by have:=h.blk;simp [World.frozen?,this]
theorem RdS.lt{W w:World}{b k:Nat}{s:ByteArray}(h:RdS W w b s k):b<w.heap.size:=(Array.getElem?_eq_some_iff.1 h.blk).1
theorem RdS.grown{W w w':World}{b k:Nat}{s:ByteArray}(h:RdS W w b s k)(hg:w.grownBy w' none):RdS W w' b s k:=
 ⟨by rw [hg.block b h.lt (by simp)];exact h.blk,il h.base (jN hg),h.le⟩
theorem RdS.self{W w:World}{b k:Nat}{s:ByteArray}(h:RdS W w b s k):RdS w w b s k:=⟨h.blk,ir _ _,h.le⟩
theorem RdS.trans{W w w':World}{b k k':Nat}{s:ByteArray}(h:RdS W w b s k)(h':RdS w w' b s k'):RdS W w' b s k':=⟨h'.blk,il h.base h'.base,h'.le⟩
theorem RdS.step{W w:World}{b k:Nat}{s:ByteArray}(h:RdS W w b s k)(hk:k<s.size):RdS W (w.setCell ⟨b,1,none⟩ (.int .i64 ((k+1:Nat):Int))) b s (k+1):=
 ⟨by rw [heap_setCell_same _ b 1 _ _ _ h.blk];rfl,il h.base iM,hk⟩
def Rd{α:Type}(W:World)(b:Nat)(s:ByteArray)(V:World->α->Value->Prop)(res:Option (α × List Nat))(e:Ending)(w':World):Prop:=
 (res=none/\Refused e/\W.grownBy w' (some b))\/∃ x r v k,res=some (x,r)/\e= .returned v/\V w' x v/\RdS W w' b s k/\(byt s).drop k=r
def rdNext(l:List Nat):Option (Nat × List Nat):=match l with
 | []=>none
 | x::r=>some (x,r)
theorem yF(W w:World)(b k:Nat)(s:ByteArray)(h:RdS W w b s k)(hs:s.size<=9223372036854775806):
  Calls Tryz.prog 171 #[pt b] w (Rd W b s (fun _ x v=>v= .int .u8 ((x:Nat):Int)) (rdNext ((byt s).drop k))):=by
 have c0:=h.c0;have c1:=h.c1;have z1:=h.z1;have hle:=h.le;have c:=ij h;clear h;unfold pt;by_cases i:k<s.size
 ·have j:(k:Int)<s.size:=by omega
  have q2:wrap64 ((k:Int)+1)=((k+1:Nat):Int):=by simp [wrap64];omega
  go_enter Tryz.func171,Tryz.ntmps171
  go_wp2_with fail
  go_still_tail 10,(by kernel_rfl)
  go_wp2_with (go_at_call 141;refine(jd _).mono ?_;rintro e l ⟨⟨v,rfl⟩,rfl⟩)
  have a:=c.out.step i;have f:((k:Int)+1)=((k+1:Nat):Int):=by omega
  rw [f];have d:=ij a;generalize w.setCell ⟨b,1,none⟩ (.int .i64 ((k+1:Nat):Int))=w6 at d a ⊢;have d0:=a.c0;have d1:=a.c1;clear a c0 c1 z1 f c;have HB:=ij (jA s k i);go_quiet (fail)
  go_wp2_with fail
  go_ret;refine Or.inr ⟨s[k].toNat,(byt s).drop (k+1),_,k+1,?_,rfl,?_,?_,rfl⟩
  ·rw [HB.out];rfl
  ·rfl
  ·exact d.out.grown (iO _ (iy (ir _ _)))
 ·have j:¬(k:Int)<s.size:=by omega
  go_enter Tryz.func171,Tryz.ntmps171
  go_wp2_with fail
  go_still_tail 10,(by kernel_rfl)
  go_wp2_with (go_at_call 141;refine(i7 _).mono ?_;rintro e l ⟨rfl,rfl⟩)
  refine⟨rfl,Or.inl ⟨?_,rfl,iy c.out.base⟩⟩;have e:(byt s).drop k=[]:=List.drop_eq_nil_iff.2 (by rw [iL];omega);rw [e];rfl
theorem xP(s:ByteArray){i j:Nat}(hi:i<=s.size)(hj:j<=s.size)(h:(byt s).drop i=(byt s).drop j):i=j:=by
 have:=congrArg List.length h;simp only [List.length_drop,iL]at this;omega
theorem kM(W w:World)(b k:Nat)(s:ByteArray)(h:RdS W w b s k)(i:s.size<=9223372036854775806)(c:k<s.size):
  Calls Tryz.prog 171 #[pt b] w fun e w'=>e= .returned (.int .u8 ((s[k].toNat:Nat):Int))/\RdS W w' b s (k+1):=by
 refine(yF W w b k s h i).mono ?_;rintro e w' (⟨a,_⟩ | ⟨x,r,v,k',a,rfl,rfl,d,f⟩)
 ·rw [jA s k c]at a;cases a
 ·rw [jA s k c]at a;simp only [rdNext,Option.some.injEq,Prod.mk.injEq]at a;obtain⟨rfl,rfl⟩:=a;have:=xP s d.le (show k+1<=s.size from c) f;subst this;exact⟨rfl,d⟩
theorem kL(W w:World)(b k:Nat)(s:ByteArray)(h:RdS W w b s k)(i:s.size<=9223372036854775806)(hk:¬k<s.size):
  Calls Tryz.prog 171 #[pt b] w fun e w'=>Refused e/\W.grownBy w' (some b):=by
 have f:(byt s).drop k=[]:=List.drop_eq_nil_iff.2 (by rw [iL];omega);refine(yF W w b k s h i).mono ?_;rintro e w' (⟨_,c,d⟩ | ⟨x,r,v,k',a,rfl,rfl,c,d⟩)
 ·exact⟨c,d⟩
 ·rw [f]at a;cases a
theorem nc(x place:Nat):((x:Int) % 128*2 ^ place)=((x % 128*2 ^ place:Nat):Int):=by push_cast;rfl
theorem nf(m:Nat):IntKind.u64.wrap (m:Int)=((m % 18446744073709551616:Nat):Int):=by
 simp only [IntKind.wrap,IntKind.signed,IntKind.bits];simp
theorem xW(x a:Nat)(h:x % 128*2 ^ a<18446744073709551616):(IntKind.u64.wrap ((x:Int) % 128*2 ^ a) / 2 ^ a==(x:Int) % 128)=true:=by
 rw [nc,nf,Nat.mod_eq_of_lt h];have e:((2:Int) ^ a)=((2 ^ a:Nat):Int):=by push_cast;rfl
 rw [e,<-Int.natCast_ediv,Nat.mul_div_cancel _ (Nat.two_pow_pos a)];simp
theorem Ab(x a:Nat)(h:¬x % 128*2 ^ a<18446744073709551616)(_hp:a<64):(IntKind.u64.wrap ((x:Int) % 128*2 ^ a) / 2 ^ a==(x:Int) % 128)=false:=by
 rw [nc,nf];have e:((2:Int) ^ a)=((2 ^ a:Nat):Int):=by push_cast;rfl
 rw [e,<-Int.natCast_ediv];have c:x % 128*2 ^ a % 18446744073709551616 / 2 ^ a≠x % 128:=by
  intro b;have h3:x % 128*2 ^ a<=x % 128*2 ^ a % 18446744073709551616:=by
   have:=Nat.div_mul_le_self (x % 128*2 ^ a % 18446744073709551616) (2 ^ a);rw [b]at this;exact this
  have:=Nat.mod_lt (x % 128*2 ^ a) (show 0<18446744073709551616 by decide);omega
 rw [beq_eq_false_iff_ne];intro b;apply c;have:((x:Int) % 128)=((x % 128:Nat):Int):=by push_cast;rfl
 rw [this]at b;exact_mod_cast b
theorem oD(n x a:Nat)(hn:n<2 ^ a)(h:x % 128*2 ^ a<18446744073709551616)(hp:a<64):n+x % 128*2 ^ a<18446744073709551616/\n+x % 128*2 ^ a<2 ^ (a+7):=by
 constructor
 ·have e:18446744073709551616=2 ^ (64 - a)*2 ^ a:=by rw [<-Nat.pow_add,show 64 - a+a=64 by omega]
  rw [e]at h ⊢;have b:x % 128<2 ^ (64 - a):=Nat.lt_of_mul_lt_mul_right h;have c:(x % 128+1)*2 ^ a<=2 ^ (64 - a)*2 ^ a:=Nat.mul_le_mul_right _ b;rw [Nat.add_mul,Nat.one_mul]at c;omega
 ·have b:2 ^ (a+7)=128*2 ^ a:=by rw [Nat.pow_add,Nat.mul_comm]
  have c:x % 128*2 ^ a<=127*2 ^ a:=Nat.mul_le_mul_right _ (by omega);omega
theorem Ac(n x a:Nat)(b:n<2 ^ a)(h:x % 128*2 ^ a<18446744073709551616)(c:a<64):bits .or .u64 (n:Int) (IntKind.u64.wrap ((x:Int) % 128*2 ^ a))=((n+x % 128*2 ^ a:Nat):Int):=by
 have h64:=(oD n x a b h c).1;rw [nc,nf,Nat.mod_eq_of_lt h,u64_or_nat _ _ (by omega) h,Nat.or_comm,nat_join a _ _ (Nat.mul_mod_left _ _) b,Nat.add_comm]
theorem sH(W w:World)(b k:Nat)(s:ByteArray)(h:RdS W w b s k)(D:s.size<=9223372036854775806):
  Calls Tryz.prog 187 #[pt b] w (Rd W b s (fun _ x v=>v= .int .u64 ((x:Nat):Int)) (rdN 0 0 ((byt s).drop k))):=by
 have E:=ij h;have C:pt b= .pointer (some ⟨b,0,none⟩):=rfl;rw [C];clear h C;go_enter Tryz.func187,Tryz.ntmps187
 go_wp2_with fail
 go_loopw [3,4] (fun nv pv w'=>∃ (n a d:Nat),nv= .int .u64 n/\pv= .int .i64 a/\a<=70/\n<2 ^ a/\Hid (RdS W w' b s d)/\Hid (rdN a n ((byt s).drop d)=rdN 0 0 ((byt s).drop k))) (fun _ pv _=>71 - (intOf pv).toNat)
 case atStart=>exact⟨0,0,k,rfl,rfl,by omega,by simp,E,ij rfl⟩
 case round=>
  obtain⟨n,a,d,rfl,rfl,hpl,B,y,j⟩:=hrel;obtain⟨q,J⟩:∃ q,q=wr:=⟨_,rfl⟩;subst J;by_cases r:d<s.size
  ·have HB:=ij (jA s d r);have hb:=s[d].toNat_lt;have i:=ij (kM W q b d s y.out D r);generalize s[d].toNat=x at*;have hand:bits .and .u8 (x:Int) 127=((x % 128:Nat):Int):=by
    have:=u8_and_nat x 127 (by omega) (by decide);rw [nat_mask7]at this;exact this
   have hx8:x<256:=by omega
   by_cases o:a<64
   ·have K:(a:Int)<64:=by omega
    by_cases l:x % 128*2 ^ a<18446744073709551616
    ·have I:=xW x a l;have hor:=Ac n x a B l o;have F:=ij (oD n x a B l o);by_cases A:x<128
     ·have L:(x:Int)<128:=by omega
      have p:Hid (rdN 0 0 ((byt s).drop k)=if 0<x\/a=0 then some (n+x % 128*2 ^ a,(byt s).drop (d+1)) else none):=by
       unfold Hid;rw [<-j.out,HB.out,rdN,if_pos ⟨o,l⟩,if_pos A]
      clear j;by_cases z:0<x
      ·have M:(0:Int)<(x:Int):=by omega
       go_wp2_with (first | (go_at_call 171;refine i.out.mono ?_;rintro e w6 ⟨rfl,c⟩;have f:=ij c;clear c) | (go_at_call 141;refine(jd _).mono ?_;rintro e m ⟨⟨u,rfl⟩,rfl⟩))
       go_ret;exact Or.inr ⟨n+x % 128*2 ^ a,(byt s).drop (d+1),_,d+1,by rw [p.out,if_pos (Or.inl z)],rfl,rfl,f.out,rfl⟩
      ·have M:¬(0:Int)<(x:Int):=by omega
       by_cases t:a=0
       ·have N:((a:Int)==0)=true:=by simp;omega
        have G:Hid (rdN 0 0 ((byt s).drop k)=some (n+x % 128*2 ^ a,(byt s).drop (d+1))):=by
         unfold Hid;rw [p.out,if_pos (Or.inr t)]
        clear t;go_wp2_with (first | (go_at_call 171;refine i.out.mono ?_;rintro e w6 ⟨rfl,c⟩;have f:=ij c;clear c) | (go_at_call 141;first | (refine(jd _).mono ?_;rintro e m ⟨⟨u,rfl⟩,rfl⟩) | (refine(i7 _).mono ?_;rintro e m ⟨rfl,rfl⟩)))
        go_ret;exact Or.inr ⟨n+x % 128*2 ^ a,(byt s).drop (d+1),_,d+1,G.out,rfl,rfl,f.out,rfl⟩
       ·have N:((a:Int)==0)=false:=by simp;omega
        go_wp2_with (first | (go_at_call 171;refine i.out.mono ?_;rintro e w6 ⟨rfl,c⟩;have f:=ij c;clear c) | (go_at_call 141;first | (refine(jd _).mono ?_;rintro e m ⟨⟨u,rfl⟩,rfl⟩) | (refine(i7 _).mono ?_;rintro e m ⟨rfl,rfl⟩)))
        refine⟨rfl,Or.inl ⟨?_,rfl,f.out.base⟩⟩;rw [p.out,if_neg (fun h=>h.elim z t)]
     ·have L:¬(x:Int)<128:=by omega
      have p:Hid (rdN (a+7) (n+x % 128*2 ^ a) ((byt s).drop (d+1))=rdN 0 0 ((byt s).drop k)):=by
       unfold Hid;rw [<-j.out,HB.out,rdN,if_pos ⟨o,l⟩,if_neg A]
      clear j;go_wp2_with (first | (go_at_call 171;refine i.out.mono ?_;rintro e w6 ⟨rfl,c⟩;have f:=ij c;clear c) | (go_at_call 141;refine(jd _).mono ?_;rintro e m ⟨⟨u,rfl⟩,rfl⟩))
      go_roundw
      case rel=>exact⟨n+x % 128*2 ^ a,a+7,d+1,rfl,by first | rfl | (congr 1),by omega,F.out.2,f,p⟩
      case measure=>simp [intOf];omega
    ·have I:=Ab x a l o;go_wp2_with (first | (go_at_call 171;refine i.out.mono ?_;rintro e w6 ⟨rfl,c⟩;have f:=ij c;clear c) | (go_at_call 141;refine(i7 _).mono ?_;rintro e m ⟨rfl,rfl⟩))
     refine⟨rfl,Or.inl ⟨?_,rfl,f.out.base⟩⟩;rw [<-j.out,HB.out,rdN,if_neg (fun h=>l h.2)]
   ·have K:¬(a:Int)<64:=by omega
    go_wp2_with (first | (go_at_call 171;refine i.out.mono ?_;rintro e w6 ⟨rfl,c⟩;have f:=ij c;clear c) | (go_at_call 141;refine(i7 _).mono ?_;rintro e m ⟨rfl,rfl⟩))
    refine⟨rfl,Or.inl ⟨?_,rfl,f.out.base⟩⟩;rw [<-j.out,HB.out,rdN,if_neg (fun h=>o h.1)]
  ·have i:=ij (kL W q b d s y.out D r);have H:Hid ((byt s).drop d=[]):=List.drop_eq_nil_iff.2 (by rw [iL];omega);go_wp2_with (go_at_call 171;refine i.out.mono ?_;rintro e w6 ⟨rfl,c⟩)
   refine⟨rfl,Or.inl ⟨?_,rfl,c⟩⟩;rw [<-j.out,H.out,rdN]
end
end Go.Proofs.YtklenjmfalljgabGreatDoor
