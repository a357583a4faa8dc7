/- The texts Crc BytP BytQ Wrt Rda Rdb. -/
import Derived.Test.YtklenjmfalljgabGreatDoorM00
import Derived.Test.YtklenjmfalljgabGreatDoorM02
import Derived.Test.YtklenjmfalljgabGreatDoorM16
import Derived.Test.YtklenjmfalljgabGreatDoorM17
import Derived.RowKit
import Derived.Laws.BitsAllLaws
import Derived.Laws.Bits64
import Derived.Laws.BytesArg
import Derived.Defers
import Derived.Recover
namespace Go.Proofs.YtklenjmfalljgabGreatDoor
set_option maxRecDepth 100000
set_option maxHeartbeats 8000000
section
def shN(c:Nat):Nat:=if c % 2=1 then (c / 2) ^^^ 3988292384 else c / 2
theorem Bx(c d:Nat):(c ^^^ d) / 2=c / 2 ^^^ d / 2:=by
 apply Nat.eq_of_testBit_eq;intro i;simp [Nat.testBit_div_two,Nat.testBit_xor]
theorem Eg(c d:Nat):(c ^^^ d) % 2=(c+d) % 2:=by
 have h:=Nat.testBit_xor c d 0;simp only [Nat.testBit_zero]at h;have h1:(c ^^^ d) % 2<2:=Nat.mod_lt _ (by decide);have h2:c % 2<2:=Nat.mod_lt _ (by decide);have h3:d % 2<2:=Nat.mod_lt _ (by decide);have e:c % 2=0\/c % 2=1:=by omega
 have b:d % 2=0\/d % 2=1:=by omega
 have a:(c ^^^ d) % 2=0\/(c ^^^ d) % 2=1:=by omega
 rcases e with e | e<;>rcases b with b | b<;>rcases a with a | a<;>simp [e,b,a]at h<;>omega
theorem BO{c:Nat}(h:c<4294967296):shN c<4294967296:=by
 unfold shN;split
 ·exact Nat.xor_lt_two_pow (n:=32) (by omega) (by decide)
 ·omega
def shK:Nat->Nat->Nat
 | 0,c=>c
 | k+1,c=>shK k (shN c)
theorem Fj(k:Nat){c:Nat}(h:c<4294967296):shK k c<4294967296:=by
 induction k generalizing c with
 | zero=>exact h
 | succ k ih=>exact ih (BO h)
theorem zE(j k c:Nat):shK (j+k) c=shK k (shK j c):=by
 induction j generalizing c with
 | zero=>rw [Nat.zero_add];rfl
 | succ j ih=>rw [Nat.succ_add,shK,ih];rfl
def rQ(c:Nat)(l:List Nat):Nat:=l.foldl (fun c b=>shK 8 (c ^^^ b)) c
def lq(l:List Nat):Nat:=4294967295 ^^^ rQ 4294967295 l
theorem zD(c:Nat)(l:List Nat)(hc:c<4294967296)(a:∀ b∈l,b<256):rQ c l<4294967296:=by
 induction l generalizing c with
 | nil=>exact hc
 | cons b r ih=>
  have hb:=a b (by simp);exact ih _ (Fj 8 (Nat.xor_lt_two_pow (n:=32) (by omega) (by omega))) (fun x hx=>a x (by simp [hx]))
theorem ry(c:Nat)(l m:List Nat):rQ c (l++m)=rQ (rQ c l) m:=by simp [rQ]
def leB:Nat->Nat->List Nat
 | 0,_=>[]
 | k+1,x=>x % 256::leB k (x / 256)
theorem o8(k x:Nat):(leB k x).length=k:=by
 induction k generalizing x with
 | zero=>rfl
 | succ k ih=>simp [leB,ih]
theorem FQ(k x:Nat):∀ b∈leB k x,b<256:=by
 induction k generalizing x with
 | zero=>simp [leB]
 | succ k ih=>
  intro b a;rcases List.mem_cons.1 a with rfl | a
  ·exact Nat.mod_lt _ (by decide)
  ·exact ih _ b a
theorem zK(l:List Nat)(hl:∀ b∈l,b<256):lq l<4294967296:=Nat.xor_lt_two_pow (n:=32) (by decide) (zD _ l (by decide) hl)
def qy:Nat->Nat->List Nat
 | 0,n=>[n]
 | k+1,n=>if n<128 then [n] else (n % 128+128)::qy k (n / 128)
theorem xr:∀ (j k n:Nat),n<=j->n<=k->qy j n=qy k n
 | 0,0,_,_,_=>rfl
 | 0,k+1,n,h,_=>by simp only [qy];rw [if_pos (by omega)]
 | j+1,0,n,_,h=>by simp only [qy];rw [if_pos (by omega)]
 | j+1,k+1,n,h1,h2=>by
  simp only [qy];by_cases h:n<128
  ·rw [if_pos h,if_pos h]
  ·rw [if_neg h,if_neg h,xr j k (n / 128) (by omega) (by omega)]
def jZ(n:Nat):List Nat:=qy n n
theorem lP{n:Nat}(h:n<128):jZ n=[n]:=by
 unfold jZ;cases n with
 | zero=>rfl
 | succ k=>simp only [qy];rw [if_pos h]
theorem nt{n:Nat}(h:¬n<128):jZ n=(n % 128+128)::jZ (n / 128):=by
 unfold jZ;cases n with
 | zero=>omega
 | succ k=>
  simp only [qy];rw [if_neg h,xr k ((k+1) / 128) ((k+1) / 128) (by omega) (Nat.le_refl _)]
theorem k8(n:Nat):∀ b∈jZ n,b<256:=by
 induction n using Nat.strongRecOn with
 | ind n ih=>
  by_cases h:n<128
  ·rw [lP h];simp;omega
  ·rw [nt h];intro b a;rcases List.mem_cons.1 a with rfl | a
   ·omega
   ·exact ih (n / 128) (by omega) b a
def rdN(place n:Nat):List Nat->Option (Nat × List Nat)
 | []=>none
 | b::r=>if place<64/\(b % 128)*2 ^ place<18446744073709551616 then
   (if b<128 then (if 0<b\/place=0 then some (n+(b % 128)*2 ^ place,r) else none) else rdN (place+7) (n+(b % 128)*2 ^ place) r)
  else none
theorem zk(n:Nat):∀ (a b:Nat) (r:List Nat),n*2 ^ a<18446744073709551616->(0<n\/a=0)->a<64->rdN a b (jZ n++r)=some (b+n*2 ^ a,r):=by
 induction n using Nat.strongRecOn with
 | ind n ih=>
  intro a b r j f c;by_cases h:n<128
  ·rw [lP h];have e:n % 128=n:=Nat.mod_eq_of_lt h;simp only [List.cons_append,List.nil_append,rdN,e];rw [if_pos ⟨c,j⟩,if_pos h,if_pos f]
  ·rw [nt h];have e:(n % 128+128) % 128=n % 128:=by omega
   have hp:0<2 ^ a:=Nat.two_pow_pos _;have hle:n % 128*2 ^ a<=n*2 ^ a:=Nat.mul_le_mul_right _ (Nat.mod_le _ _);have hsum:n % 128*2 ^ a+n / 128*2 ^ (a+7)=n*2 ^ a:=by
    have:(2:Nat) ^ (a+7)=128*2 ^ a:=by rw [Nat.pow_add,Nat.mul_comm]
    rw [this,<-Nat.mul_assoc,<-Nat.add_mul];congr 1
    omega
   have d:0<n / 128:=by omega
   have i:a+7<64:=by
    by_cases hc:a+7<64
    ·exact hc
    ·have:2 ^ 64<=2 ^ (a+7):=Nat.pow_le_pow_right (by decide) (by omega);have h5:2 ^ (a+7)<=n / 128*2 ^ (a+7):=Nat.le_mul_of_pos_left _ d;have h6:(2:Nat) ^ 64=18446744073709551616:=by decide
     omega
   simp only [List.cons_append,rdN,e];rw [if_pos ⟨c,by omega⟩,if_neg (by omega),ih (n / 128) (by omega) (a+7) _ r (by omega) (Or.inl d) i];congr 2
   omega
def js(l:List Nat):Option (Int × List Nat):=match rdN 0 0 l with
 | some (n,r)=>if n<=9223372036854775807 then some ((n:Int),r) else none
 | none=>none
def zig(n:Int):Nat:=if n<0 then (-2*n - 1).toNat else (2*n).toNat
def zag(n:Nat):Int:=if n % 2=1 then -((n / 2:Nat):Int) - 1 else ((n / 2:Nat):Int)
theorem zu(n:Int):zag (zig n)=n:=by
 unfold zag zig;split<;>split<;>omega
def kT(l:List Nat):Option (Int × List Nat):=match rdN 0 0 l with
 | some (n,r)=>some (zag n,r)
 | none=>none
def kO(b:Int)(l:List Nat):Option (Int × List Nat):=match js l with
 | some (n,r)=>if n<=b then some (n,r) else none
 | none=>none
def lZ(l:List Nat):Option (Ins × List Nat):=match js l with
 | none=>none
 | some (o,l1)=>match js l1 with
  | none=>none
  | some (a,l2)=>match js l2 with
   | none=>none
   | some (b,l3)=>match kT l3 with
    | none=>none
    | some (n,l4)=>some (⟨o,a,b,n⟩,l4)
def jX{α:Type}(P:List Nat->Option (α × List Nat)):Nat->List Nat->Option (List α × List Nat)
 | 0,l=>some ([],l)
 | k+1,l=>match P l with
  | none=>none
  | some (x,r)=>match jX P k r with
   | none=>none
   | some (xs,r')=>some (x::xs,r')
def jG(l:List Nat):Option (List Ins × List Nat):=match kO 16 l with
 | none=>none
 | some (k,r)=>jX lZ k.toNat r
def kL(l:List Nat):Option (List (List Ins) × List Nat):=match kO 4 l with
 | none=>none
 | some (k,r)=>jX jG k.toNat r
def lf:Nat->List Int->List Nat->Option (List Int × List Nat)
 | 0,sch,l=>some (sch,l)
 | k+1,sch,l=>match js l with
  | none=>none
  | some (t,r)=>match kO (500 - sch.length) r with
   | none=>none
   | some (c,r')=>if 0<c/\sch.getLast?≠some t then lf k (sch++List.replicate c.toNat t) r' else none
def jV(l:List Nat):Option (List Int × List Nat):=match kO 500 l with
 | none=>none
 | some (k,r)=>lf k.toNat [] r
def mX(l:List Nat):Option ((Int × Int × Int) × List Nat):=match js l with
 | none=>none
 | some (a,l1)=>match js l1 with
  | none=>none
  | some (b,l2)=>match js l2 with
   | none=>none
   | some (c,l3)=>some ((a,b,c),l3)
structure Art where
 prog:List (List Ins)
 sch:List Int
 ver:Int × Int × Int
def kH(v:Int × Int × Int):Bool:=(decide (1<=v.1) && decide (v.1<=5)) && (decide (0<=v.2.1) && decide (v.2.1<=3)) && (decide (0<=v.2.2) && decide (v.2.2<=500))
def jI(a:Art):Int:=if iV a.prog=true then (if jd a.sch=true/\kH a.ver=true then 0 else 2) else 1
def o0(l:List Nat):Option (Art × List Nat):=match l with
 | 82::82::1::r0=>match kL r0 with
  | none=>none
  | some (p,r1)=>match jV r1 with
   | none=>none
   | some (s,r2)=>match mX r2 with
    | none=>none
    | some (v,r3)=>some (⟨p,s,v⟩,r3)
 | _=>none
def kj(l:List Nat):Option Art:=match o0 l with
 | none=>none
 | some (a,r)=>if r=leB 4 (lq (l.take (l.length - r.length)))/\jI a=0 then some a else none
def jx(n:Int):List Nat:=jZ n.toNat
def mu(i:Ins):List Nat:=jx i.op++(jx i.a++(jx i.b++jZ (zig i.n)))
def jU(c:List Ins):List Nat:=jx c.length++c.flatMap mu
def lY(p:List (List Ins)):List Nat:=jx p.length++p.flatMap jU
def lQ(x:Int × Int):List Nat:=jx x.1++jx x.2
def mz(s:List Int):List Nat:=jx (grp s).length++(grp s).flatMap lQ
def mQ(v:Int × Int × Int):List Nat:=jx v.1++(jx v.2.1++jx v.2.2)
def mL(a:Art):List Nat:=[82,82,1]++(lY a.prog++(mz a.sch++mQ a.ver))
def mJ(a:Art):List Nat:=mL a++leB 4 (lq (mL a))
theorem lW(n:Int)(r:List Nat)(h0:0<=n)(h1:n<=9223372036854775807):js (jx n++r)=some (n,r):=by
 unfold js jx;rw [zk n.toNat 0 0 r (by simp;omega) (Or.inr rfl) (by omega)];simp only [Nat.pow_zero,Nat.mul_one,Nat.zero_add];rw [if_pos (by omega)];congr 2
 omega
theorem xX(n:Int)(r:List Nat)(h0: -9223372036854775808<=n)(h1:n<=9223372036854775807):kT (jZ (zig n)++r)=some (n,r):=by
 unfold kT;rw [zk (zig n) 0 0 r (by unfold zig;split<;>simp<;>omega) (Or.inr rfl) (by omega)];simp [zu]
theorem pU(b n:Int)(r:List Nat)(d:0<=n)(c:n<=9223372036854775807)(a:n<=b):kO b (jx n++r)=some (n,r):=by
 unfold kO;rw [lW n r d c];simp only;rw [if_pos a]
def kM(i:Ins):Prop:=(0<=i.op/\i.op<=9223372036854775807)/\(0<=i.a/\i.a<=9223372036854775807)/\(0<=i.b/\i.b<=9223372036854775807)/\(-9223372036854775808<=i.n/\i.n<=9223372036854775807)
theorem EM(i:Ins)(r:List Nat)(h:kM i):lZ (mu i++r)=some (i,r):=by
 obtain⟨⟨b,e⟩,⟨j,c⟩,⟨c1,d⟩,⟨f,a⟩⟩:=h;unfold lZ mu;simp only [List.append_assoc];rw [lW _ _ b e];simp only;rw [lW _ _ j c];simp only;rw [lW _ _ c1 d];simp only;rw [xX _ _ f a]
theorem wk{α:Type}(P:List Nat->Option (α × List Nat))(W:α->List Nat)(q:List α)(r:List Nat)(h:∀ x∈q,∀ r,P (W x++r)=some (x,r)):jX P q.length (q.flatMap W++r)=some (q,r):=by
 induction q with
 | nil=>rfl
 | cons x q ih=>
  rw [List.flatMap_cons,List.append_assoc,List.length_cons,jX,h x (by simp)];simp only;rw [ih (fun y hy=>h y (by simp [hy]))]
theorem yp(c:List Ins)(r:List Nat)(hl:c.length<=16)(h:∀ i∈c,kM i):jG (jU c++r)=some (c,r):=by
 unfold jG jU;rw [List.append_assoc,pU _ _ _ (by omega) (by omega) (by omega)];simp only [Int.toNat_natCast];exact wk _ _ _ _ (fun i hi r=>EM i r (h i hi))
theorem CQ(p:List (List Ins))(r:List Nat)(hl:p.length<=4)(h:∀ c∈p,c.length<=16/\∀ i∈c,kM i):kL (lY p++r)=some (p,r):=by
 unfold kL lY;rw [List.append_assoc,pU _ _ _ (by omega) (by omega) (by omega)];simp only [Int.toNat_natCast];exact wk _ _ _ _ (fun c hc r=>yp c r (h c hc).1 (h c hc).2)
theorem DT(v:Int × Int × Int)(r:List Nat)(h:kH v=true):mX (mQ v++r)=some (v,r):=by
 simp only [kH,Bool.and_eq_true,decide_eq_true_eq]at h;unfold mX mQ;simp only [List.append_assoc];rw [lW _ _ (by omega) (by omega)];simp only;rw [lW _ _ (by omega) (by omega)];simp only;rw [lW _ _ (by omega) (by omega)]
def Sep:Option Int->List (Int × Int)->Prop
 | _,[]=>True
 | p,x::q=>p≠some x.1/\Sep (some x.1) q
def j3(q:List (Int × Int)):List Int:=q.flatMap fun x=>List.replicate x.2.toNat x.1
theorem Ec(s:List Int):Sep none (grp s)/\∀ x q,grp s=x::q->Sep (some x.1) q:=by
 induction s with
 | nil=>exact⟨trivial,fun x q h=>by cases h⟩
 | cons t r ih=>
  unfold grp;cases h:grp r with
  | nil=>exact⟨⟨by simp,trivial⟩,fun x q e=>by simp at e;rw [e.2];trivial⟩
  | cons x q=>
   have a:=ih.2 x q h;simp only;split
   ·rename_i e
    rw [<-e]at a;exact⟨⟨by simp,a⟩,fun y q' e'=>by simp only [List.cons.injEq]at e';rw [<-e'.1,<-e'.2];exact a⟩
   ·rename_i e
    have b:Sep (some t) (x::q):=⟨fun e'=>e (Option.some.inj e'),a⟩;exact⟨⟨by simp,b⟩,fun y q' e'=>by simp only [List.cons.injEq]at e';rw [<-e'.1,<-e'.2];exact b⟩
theorem oq(s:List Int):j3 (grp s)=s:=by
 induction s with
 | nil=>rfl
 | cons t r ih=>
  have a:=p9 r;unfold grp;cases h:grp r with
  | nil=>rw [h]at ih;rw [<-ih];simp [j3]
  | cons x q=>
   rw [h]at ih a;have hx:=(a x (by simp)).2.1;simp only;split
   ·rename_i e
    have b:(x.2+1).toNat=x.2.toNat+1:=by omega
    simp only [j3,List.flatMap_cons]at ih ⊢;rw [b,List.replicate_succ,List.cons_append,e,ih]
   ·simp only [j3,List.flatMap_cons]at ih ⊢;simp [ih]
theorem rA(a:List Int)(t:Int)(c:Nat)(hc:0<c):(a++List.replicate c t).getLast?=some t:=by
 obtain⟨k,rfl⟩:∃ k,c=k+1:=⟨c - 1,by omega⟩;rw [List.replicate_succ',<-List.append_assoc];simp
theorem Ct(q:List (Int × Int))(a:List Int)(r:List Nat)(c:Sep a.getLast? q)(b:∀ x∈q,0<=x.1/\x.1<=63/\1<=x.2/\x.2<=500)(e:a.length+(j3 q).length<=500):
  lf q.length a (q.flatMap lQ++r)=some (a++j3 q,r):=by
 induction q generalizing a with
 | nil=>simp [lf,j3]
 | cons x q ih=>
  obtain⟨f,h2,h3,h4⟩:=b x (by simp);have d:(j3 (x::q)).length=x.2.toNat+(j3 q).length:=by simp [j3]
  rw [d]at e;rw [List.flatMap_cons,List.length_cons,lf];unfold lQ;simp only [List.append_assoc];rw [lW _ _ f (by omega)];simp only;rw [pU _ _ _ (by omega) (by omega) (by omega)];simp only;rw [if_pos ⟨by omega,c.1⟩];have:=ih (a++List.replicate x.2.toNat x.1) (by rw [rA _ _ _ (by omega)];exact c.2) (fun y hy=>b y (by simp [hy])) (by simp;omega);unfold lQ at this;rw [this];simp [j3]
theorem Ag(s:List Int)(r:List Nat)(h:jd s=true):jV (mz s++r)=some (s,r):=by
 have a:=h;simp only [jd,Bool.and_eq_true,decide_eq_true_eq,List.all_eq_true]at a;have hg:=pd s;unfold jV mz;rw [List.append_assoc,pU _ _ _ (by omega) (by omega) (by omega)];simp only [Int.toNat_natCast];rw [Ct (grp s) [] r (Ec s).1 (fun x hx=>by
  have b:=p9 s x hx;have c:=a.2 x.1 b.1;exact⟨c.1,c.2,b.2.1,by omega⟩) (by rw [oq];simpa using a.1),oq]
 rfl
theorem pz{l r:List Nat}{a:Art}(h:o0 l=some (a,r)):∃ r0,l=82::82::1::r0:=by
 unfold o0 at h;split at h
 ·exact⟨_,rfl⟩
 ·cases h
theorem AC{l:List Nat}{a:Art}(h:kj l=some a):∃ r,o0 l=some (a,r)/\r.length=4/\r=leB 4 (lq (l.take (l.length - r.length))):=by
 unfold kj at h;cases h1:o0 l with
 | none=>rw [h1]at h;cases h
 | some y=>
  obtain⟨b,r⟩:=y;rw [h1]at h;simp only at h;split at h
  ·rename_i h2
   obtain rfl:=Option.some.inj h;exact⟨r,rfl,by rw [h2.1,o8],h2.1⟩
  ·cases h
theorem ES(a:Art)(h:jI a=0)(k:∀ c∈a.prog,∀ i∈c,kM i):kj (mJ a)=some a:=by
 have b:iV a.prog=true/\jd a.sch=true/\kH a.ver=true:=by
  unfold jI at h;split at h
  ·split at h
   ·rename_i d h2;exact⟨d,h2⟩
   ·omega
  ·omega
 have f:=jA b.1;have j:∀ c∈a.prog,c.length<=16/\∀ i∈c,kM i:=by
  intro c hc;refine⟨?_,k c hc⟩;have d:=b.1;simp only [iV,Bool.and_eq_true,List.all_eq_true]at d;exact kW (d.2.2 c hc)
 have e:o0 (mJ a)=some (a,leB 4 (lq (mL a))):=by
  unfold mJ mL;simp only [List.cons_append,List.nil_append,List.append_assoc,o0];rw [CQ a.prog _ f.2 j];simp only;rw [Ag a.sch _ b.2.1];simp only;rw [DT a.ver _ b.2.2]
 unfold kj;rw [e];simp only;have:(mJ a).take ((mJ a).length - (leB 4 (lq (mL a))).length)=mL a:=by unfold mJ;simp
 rw [this,if_pos ⟨rfl,h⟩]
end
section
open Go.RowKit
attribute [local go_sem] Go.World.cell?_alloc_some
def u8s(l:List Nat):List Value:=l.map fun(x:Nat)=> .int .u8 (x:Int)
theorem Dy(l:List Nat):(u8s l).length=l.length:=by simp [u8s]
theorem Ci(l:List Nat)(x:Nat):u8s (l++[x])=u8s l++[.int .u8 (x:Int)]:=by simp [u8s]
theorem DB:((Tryz.prog.info? 5).map fun i=>(i.zero,i.size,i.bytes))=some (some (.int .u8 0),1,1):=by kernel_rfl
def RowM(w:World)(base:Nat)(v:Value)(n:Nat)(xs:List Value):Prop:=
 w.ownsRow base 5 1 v n xs\/∃ g cur,v= .slice (some ⟨g,0,none⟩) n n/\base<=g/\w.heap[g]?=some (.cells cur 5 (n,n+1))/\cur.toList=xs/\xs.length=n
section
variable {w w' : World} {base n : Nat} {v : Value} {xs : List Value}
theorem RowM.form(h:RowM w base v n xs):∃ ao c,v= .slice ao n c:=by
 rcases h with h | ⟨g,cur,rfl,_⟩
 ·obtain⟨x1,x2,x3,rfl⟩:=iy h;exact⟨x1,x3,by rw [iC h]⟩
 ·exact⟨_,_,rfl⟩
theorem RowM.block(h:RowM w base v n xs):∀ k,v.ownBlock=some k->base<=k:=by
 rcases h with h | ⟨g,cur,rfl,hb,_⟩
 ·exact iB h
 ·intro k a;simp only [Value.ownBlock,Option.some.injEq]at a;omega
theorem RowM.lt(h:RowM w base v n xs):∀ k,v.ownBlock=some k->k<w.heap.size:=by
 rcases h with h | ⟨g,cur,rfl,_,hg,_⟩
 ·exact uR h
 ·intro k a;simp only [Value.ownBlock,Option.some.injEq]at a;subst a;exact(Array.getElem?_eq_some_iff.1 hg).1
theorem RowM.keep(h:RowM w base v n xs)(a:∀ k,v.ownBlock=some k->w'.heap[k]?=w.heap[k]?):RowM w' base v n xs:=by
 rcases h with h | ⟨g,cur,rfl,hbg,hg,h4⟩
 ·refine Or.inl ⟨h.1,?_⟩;rcases h.2 with e | ⟨g,cap,cur,rfl,hbg,hg,h4⟩
  ·exact Or.inl e
  ·exact Or.inr ⟨g,cap,cur,rfl,hbg,by rw [a g rfl];exact hg,h4⟩
 ·exact Or.inr ⟨g,cur,rfl,hbg,by rw [a g rfl];exact hg,h4⟩
theorem RowM.alloc{o:Obj}(h:RowM w base v n xs):RowM (w.alloc o) base v n xs:=h.keep fun k hk=>Below.heap_alloc _ _ _ (h.lt k hk)
theorem RowM.len(h:RowM w base v n xs):xs.length=n:=by
 rcases h with h | ⟨g,cur,rfl,hbg,hg,_,h4⟩
 ·simpa using h.1
 ·exact h4
theorem RowM.cells(h:RowM w base v n xs){g:Nat}(a:v.ownBlock=some g):∀ j u,xs[j]?=some u->w.cell? ⟨g,j,none⟩=some u:=by
 intro j u b;rcases h with h | ⟨g',cur,rfl,_,hg',hc,_⟩
 ·have:=h.cells a j u b;have c:(⟨g,0,none⟩:Addr).add j=⟨g,j,none⟩:=by unfold Addr.add;split<;>simp_all
  rwa [c]at this
 ·simp only [Value.ownBlock,Option.some.injEq]at a;subst a;subst hc;simpa [World.cell?,hg']using b
end
theorem mS{o:Oper}{a:Act}{K:Act->World->Prop}{Q:Exit->Act->World->Prop}(w:World)(s x:Operand)
  (A:o.op= .call { callee:= .builtin .append,args:= #[s,x],argTypes:= #[147,147]}) (base:Nat) (v:Value) (n:Nat) (xs:List Value) (z:a.eval s=v) (d:RowM w base v n xs)
  (b:Nat) (y:Value) (B:a.eval x= .slice (some ⟨b,0,none⟩) 1 1) (C:w.heap[b]?=some (.cells #[y] 5 (0,0))) (F:y.oneCell'=true) (hn:n<=2000000) (t:base<=w.heap.size) (H:Nat) (i:w.heap.size=H)
  (h:∀ g cap w',w'.ownsRow base 5 1 (.slice (some ⟨g,0,none⟩) (n+1) cap) (n+1) (xs++[y])->w.grownBy w' v.ownBlock->(v.ownBlock=some g\/g=H)->g<w'.heap.size->K (a.put o.dst (.slice (some ⟨g,0,none⟩) (n+1) cap)) w'):
  o.wp Tryz.prog a w K Q:=by
 obtain⟨m,p,q,c,r⟩:=info_parts DB;have l:n+1<=maxLen:=by unfold maxLen;omega
 have f:∀ j u,[y][j]?=some u->w.cell? ((⟨b,0,none⟩:Addr).add j)=some u:=World.news_of_block (cs:= #[y]) C;rcases d with d | ⟨g,cur,rfl,hb,hg,hcur,hl⟩
 ·exact wp_append_lies w s x _ A base 5 m _ 1 1 Tryz.underlying147 p q c r rfl (by omega) v n xs z d ⟨b,0,none⟩ 1 1 [y] B rfl f (by simpa using F) (by omega) l (by omega) t H i h
 ·have J:∀ j u,xs[j]?=some u->w.cell? ((⟨g,0,none⟩:Addr).add j)=some u:=fun j u hu=>by
   have E:(⟨g,0,none⟩:Addr).add j=⟨g,j,none⟩:=by unfold Addr.add;split<;>simp_all
   rw [E];exact RowM.cells (v:= .slice (some ⟨g,0,none⟩) n n) (base:=base) (n:=n) (Or.inr ⟨g,cur,rfl,hb,hg,hcur,hl⟩) rfl j u hu
  have D:=run_append_grow (P:=Tryz.prog) w 147 o.type 5 m _ Tryz.underlying147 p q ⟨g,0,none⟩ n n xs (by rw [c];omega) J ⟨b,0,none⟩ 1 1 [y] (by rw [c];rfl) f (by omega) (by omega) (growslice_fits (by omega) (by rw [r];omega));have I:=grownCap_ge w (n+1) n 5;have G:grownCap w (n+1) n 5<=maxLen:=grownCap_le_maxLen w (n+1) n 5 l;have e:(xs++[y]).length=(n+1)*1:=by simp [hl]
  unfold Oper.wp execOp;simp only [A,resolve,invoke,builtin,Sem.run_bind,Sem.run_pure,Result.andThen_ok,List.map_toArray,List.map_cons,List.map_nil,z,B,D];refine h _ _ _ ⟨e,.inr ⟨w.heap.size,_,_,rfl,t,heap_alloc_new w.drew _,I,G,?_,?_⟩⟩ ⟨rfl,rfl,rfl,by simp,fun k hk _=>Below.heap_alloc w.drew _ _ hk⟩ (Or.inr i) (by simp)
  ·have c:(Value.int IntKind.u8 0).cells.size=1:=rfl;simp only [Array.size_append,List.size_toArray,size_zeroCells,c,hl,List.length_singleton];omega
  ·simp only [Array.toList_append,List.append_assoc];rw [<-List.append_assoc,<-e];exact List.take_left
theorem ox{ops:Array Oper}{rest:List Oper}{o:Oper}{a:Act}{Q:Exit->Act->World->Prop}(w:World)(hgd:o.guard=none)(s x:Operand)
  (ho:o.op= .call { callee:= .builtin .append,args:= #[s,x],argTypes:= #[147,147]}) (base:Nat) (v:Value) (n:Nat) (xs:List Value) (hs:a.eval s=v) (hown:RowM w base v n xs)
  (g0:Nat) (y:Value) (hx:a.eval x= .slice (some ⟨g0,0,none⟩) 1 1) (hblk:w.heap[g0]?=some (.cells #[y] 5 (0,0))) (h1:y.oneCell'=true) (hn:n<=2000000) (hbase:base<=w.heap.size) (H:Nat) (hH:w.heap.size=H)
  (h:∀ g cap w',w'.ownsRow base 5 1 (.slice (some ⟨g,0,none⟩) (n+1) cap) (n+1) (xs++[y])->w.grownBy w' v.ownBlock->(v.ownBlock=some g\/g=H)->g<w'.heap.size->wpList Tryz.prog ops Q rest (a.put o.dst (.slice (some ⟨g,0,none⟩) (n+1) cap)) w'):
  wpList Tryz.prog ops Q (o::rest) a w:=
 wpList_plain hgd fun _ hK=>mS w s x ho base v n xs hs hown g0 y hx hblk h1 hn hbase H hH fun g cap w' h2 h3 h4 h5=>hK _ _ (h g cap w' h2 h3 h4 h5)
def bs(l:List Nat):ByteArray:=strOfNums (l.map fun(x:Nat)=>(x:Int))
theorem rZ(l:List Nat):(bs l).size=l.length:=by unfold bs;rw [strOfNums_size];simp
theorem yf{l:List Nat}(h:∀ x∈l,x<256):byt (bs l)=l:=by
 unfold byt bs;rw [strOfNums_data,List.map_map,List.map_map];conv=>rhs;rw [<-List.map_id l]
 refine List.map_congr_left fun x hx=>?_
 have:=h x hx;simp;omega
theorem RowM.str{w:World}{base n:Nat}{v:Value}{l:List Nat}(h:RowM w base v n (u8s l)):(convert 147 9 v).run Tryz.prog w= .ok (.string (bs l)) w:=by
 have a:=h.len;rw [Dy]at a;subst a;have b:∀ g,v.ownBlock=some g->∀ i,i<l.length->w.cell? ⟨g,0+i,none⟩=some (.int .u8 ((l.map fun(x:Nat)=>(x:Int)).getD i 0)):=fun g hg i hi=>by
  have:=h.cells hg i (.int .u8 (l[i]:Nat)) (by simp [u8s,hi]);rw [Nat.zero_add,this];simp [List.getD,hi]
 rcases h with h | ⟨g,cur,rfl,_⟩
 ·rcases h.2 with ⟨rfl,e⟩ | ⟨g,cap,cur,rfl,_⟩
  ·have:l=[]:=List.eq_nil_of_length_eq_zero e;subst this;exact run_convert_bytes_nil w _ _ Tryz.underlying147 Tryz.underlying5 0 0 _ Tryz.underlying9
  ·exact run_convert_bytes_arg w _ _ Tryz.underlying147 Tryz.underlying5 g 0 l.length cap _ (by simp) (b g rfl) _ Tryz.underlying9
 ·exact run_convert_bytes_arg w _ _ Tryz.underlying147 Tryz.underlying5 g 0 l.length _ _ (by simp) (b g rfl) _ Tryz.underlying9
structure WrS(W:World)(w:World)(b:Nat)(bv:Value)(l:List Nat):Prop where
 blk:w.heap[b]?=some (.cells #[bv] 172 (0,0))
 row:RowM w W.heap.size bv l.length (u8s l)
 ne:bv.ownBlock≠some b
 lo:W.heap.size<=b
 base:W.grownBy w none
theorem WrS.cell{W w:World}{b:Nat}{bv:Value}{l:List Nat}(h:WrS W w b bv l):w.cell? ⟨b,0,none⟩=some bv:=by have:=h.blk;simp [World.cell?,this]
theorem WrS.free{W w:World}{b:Nat}{bv:Value}{l:List Nat}(h:WrS W w b bv l):w.frozen? ⟨b,0,none⟩=false:=by have:=h.blk;simp [World.frozen?,this]
theorem WrS.lt{W w:World}{b:Nat}{bv:Value}{l:List Nat}(h:WrS W w b bv l):b<w.heap.size:=(Array.getElem?_eq_some_iff.1 h.blk).1
theorem WrS.grown{W w w':World}{b:Nat}{bv:Value}{l:List Nat}(h:WrS W w b bv l)(hg:w.grownBy w' none):WrS W w' b bv l:=
 ⟨by rw [hg.block b h.lt (by simp)];exact h.blk,h.row.keep (fun k hk=>hg.block k (h.row.lt k hk) (by simp)),h.ne,h.lo,ip h.base hg⟩
structure WrT(w0 w:World)(b:Nat)(bv0 bv:Value):Prop where
 keep:∀ k,k<w0.heap.size->k≠b->bv0.ownBlock≠some k->w.heap[k]?=w0.heap[k]?
 own:∀ g,bv.ownBlock=some g->bv0.ownBlock=some g\/w0.heap.size<=g
 size:w0.heap.size<=w.heap.size
theorem WrT.refl(w:World)(b:Nat)(bv:Value):WrT w w b bv bv:=⟨fun _ _ _ _=>rfl,fun _ h=>Or.inl h,Nat.le_refl _⟩
theorem WrT.trans{j i c:World}{b:Nat}{d f l:Value}(h:WrT j i b d f)(a:WrT i c b f l):WrT j c b d l:=by
 refine⟨fun k hk hb ho=>?_,fun g hg=>?_,Nat.le_trans h.size a.size⟩
 ·rw [a.keep k (Nat.lt_of_lt_of_le hk h.size) hb (fun e=>by rcases h.own k e with e2 | e2;exact ho e2;omega)];exact h.keep k hk hb ho
 ·rcases a.own g hg with e | e
  ·exact h.own g e
  ·exact Or.inr (Nat.le_trans h.size e)
theorem WrT.grown{w0 w1 w2:World}{b:Nat}{v0 v1:Value}(h:WrT w0 w1 b v0 v1)(hg:w1.grownBy w2 none):WrT w0 w2 b v0 v1:=
 ⟨fun k hk hb ho=>by rw [hg.block k (Nat.lt_of_lt_of_le hk h.size) (by simp)];exact h.keep k hk hb ho,h.own,Nat.le_trans h.size hg.size⟩
theorem WrS.push{W w w6:World}{b:Nat}{a:Value}{l:List Nat}{o:Obj}{g6 c6 x:Nat}(h:WrS W w b a l)(m:w6.ownsRow W.heap.size 5 1 (.slice (some ⟨g6,0,none⟩) (l.length+1) c6) (l.length+1) (u8s l++[.int .u8 x]))
  (c:(w.alloc o).grownBy w6 a.ownBlock) (f:a.ownBlock=some g6\/g6=w.heap.size+1):WrS W (w6.setCell ⟨b,0,none⟩ (.slice (some ⟨g6,0,none⟩) (l.length+1) c6)) b (.slice (some ⟨g6,0,none⟩) (l.length+1) c6) (l++[x])/\
  w6.cell? ⟨b,0,none⟩=some a/\w6.frozen? ⟨b,0,none⟩=false/\WrT w (w6.setCell ⟨b,0,none⟩ (.slice (some ⟨g6,0,none⟩) (l.length+1) c6)) b a (.slice (some ⟨g6,0,none⟩) (l.length+1) c6):=by
 have j:=h.lt;have d:w6.heap[b]?=some (.cells #[a] 172 (0,0)):=by
  rw [c.block b (by simp;omega) (fun e=>h.ne e.symm),Below.heap_alloc _ _ _ j];exact h.blk
 have i:g6≠b:=by
  rcases f with e | e
  ·intro n;exact h.ne (by rw [e,n])
  ·omega
 refine⟨⟨?_,?_,by simpa [Value.ownBlock]using i,h.lo,?_⟩,by simp [World.cell?,d],by simp [World.frozen?,d],fun k hk hb' ho=>?_,fun g hg'=>?_,?_⟩
 ·rw [heap_setCell_same _ b 0 _ _ _ d];rfl
 ·refine Or.inl (ownsRow_setCell_other ?_ (by simpa [Value.ownBlock]using i) _);rw [Ci];simpa using m
 ·exact iG (jH (ir h.base) c h.row.block) h.lo
 ·rw [heap_setCell_other _ _ _ _ hb',c.block k (by simp;omega) (fun e=>ho e.symm),Below.heap_alloc _ _ _ hk]
 ·simp only [Value.ownBlock,Option.some.injEq]at hg';rcases f with e | e
  ·exact Or.inl (by rw [e,hg'])
  ·exact Or.inr (by omega)
 ·have:=c.size;simp at this ⊢;omega
theorem Gf(x:Nat)(h:x<256):x ||| 128=x % 128+128:=by
 have:∀ x:_root_.Fin 256,x.val ||| 128=x.val % 128+128:=by decide+kernel
 exact this ⟨x,h⟩
theorem Bp(n:Nat):∀ k,n<128 ^ (k+1)->(jZ n).length<=k+1:=by
 induction n using Nat.strongRecOn with
 | ind n ih=>
  intro k a;by_cases h:n<128
  ·rw [lP h];simp
  ·rw [nt h];cases k with
   | zero=>simp at a;omega
   | succ k=>
    have:=ih (n / 128) (by omega) k (by rw [Nat.div_lt_iff_lt_mul (by decide)];rwa [Nat.pow_succ]at a);simp;omega
theorem mK{n:Nat}(h:n<18446744073709551616):(jZ n).length<=10:=by
 have a:(128:Nat) ^ (9+1)=1180591620717411303424:=by decide
 exact Bp n 9 (by rw [a];omega)
theorem wO(W:World)(b:Nat)(n:Nat)(E:n<18446744073709551616):∀ (w:World) (o:Value) (l:List Nat),WrS W w b o l->l.length<=1000000->
  Calls Tryz.prog 169 #[pt b,.int .u64 n] w fun e w'=>(∃ v,e= .returned v)/\∃ bv',WrS W w' b bv' (l++jZ n)/\WrT w w' b o bv':=by
 intro w o l h hl;have G:=il h;have C:pt b= .pointer (some ⟨b,0,none⟩):=rfl;rw [C];clear h C;go_enter Tryz.func169,Tryz.ntmps169
 go_wp2_with fail
 go_loopw [1] (fun i w'=>∃ (m:Nat) (bv':Value) (a:List Nat),i= .int .u64 m/\m<18446744073709551616/\Hid (WrS W w' b bv' a)/\Hid (WrT w w' b o bv')/\Hid (a++jZ m=l++jZ n)) (fun i _=>(intOf i).toNat)
 case atStart=>exact⟨n,o,l,rfl,E,G,il (WrT.refl _ _ _),il rfl⟩
 case round=>
  obtain⟨m,bv',a,rfl,hm,c,B,r⟩:=hrel;obtain⟨d,D⟩:∃ d,d=wr:=⟨_,rfl⟩;rw [<-D]at c B ⊢;clear D;obtain⟨x1,x3,rfl⟩:=c.out.row.form;have c0:=c.out.cell;have hbs:W.heap.size<=d.heap.size:=c.out.base.size;have hob:=c.out.row.block;have hl':a.length<=1000100:=by
   have t:=congrArg List.length r.out;have:=mK E;simp at t;omega
  by_cases h128:127<m
  ·have F:(127:Int)<(m:Int):=by omega
   have hor:bits .or .u8 ((m:Int) % 256) 128=((m % 128+128:Nat):Int):=by
    have t:((m:Int) % 256)=((m % 256:Nat):Int):=by omega
    have s:=u8_or_nat (m % 256) 128 (by omega) (by omega);rw [t];rw [Gf _ (by omega)]at s;have J:(((128:Nat):Int))=128:=rfl;rw [J]at s;rw [s];congr 1
    omega
   have u:Hid ((a++[m % 128+128])++jZ (m / 128)=l++jZ n):=by
    have e:jZ m=(m % 128+128)::jZ (m / 128):=nt (by omega);unfold Hid;rw [<-r.out,e];simp
   generalize m % 128+128=x at*;go_upto_region 2 with (at_builtin;refine ox _ rfl _ _ rfl W.heap.size (.slice x1 a.length x3) a.length (u8s a) rfl c.out.row.alloc d.heap.size (.int .u8 (x:Int)) rfl (heap_alloc_new d _) rfl (by omega) (by simp;omega) (d.heap.size+1) (by simp) ?_;intro g6 I w6 q p k z;obtain⟨f,H,K,j⟩:=c.out.push q p k;have y:=il f;have A:=il (B.out.trans j);clear f j q p k z)
   have q3:m / 128<m:=by omega
   go_wp2_with fail
   go_roundw
   case rel=>exact⟨m / 128,_,a++[x],by first | rfl | (congr 1;omega) | go_num,by omega,y,A,u⟩
   case measure=>simp [intOf];omega
  ·have F:¬(127:Int)<(m:Int):=by omega
   have hmod:(m:Int) % 256=m:=by omega
   have u:Hid (a++[m]=l++jZ n):=by unfold Hid;rw [<-r.out,lP (by omega)]
   go_wp2_with (at_builtin;refine ox _ rfl _ _ rfl W.heap.size (.slice x1 a.length x3) a.length (u8s a) rfl c.out.row.alloc d.heap.size (.int .u8 (m:Int)) rfl (heap_alloc_new d _) rfl (by omega) (by simp;omega) (d.heap.size+1) (by simp) ?_;intro g6 I w6 q p k z;obtain⟨f,H,K,j⟩:=c.out.push q p k;have y:=il f;have A:=il (B.out.trans j);clear f j q p k z)
   go_end0
   exact⟨⟨_,rfl⟩,_,by rw [<-u.out];exact y.out,A.out⟩
def ul(W w:World)(b:Nat)(bv:Value)(l:List Nat)(e:Ending)(w':World):Prop:=(∃ v,e= .returned v)/\∃ bv',WrS W w' b bv' l/\WrT w w' b bv bv'
theorem mm(W:World)(b:Nat)(n:Int)(d:0<=n)(h1:n<=9223372036854775807)(w:World)(a:Value)(l:List Nat)(h:WrS W w b a l)(f:l.length<=1000000):
  Calls Tryz.prog 133 #[pt b,.int .i64 n] w (ul W w b a (l++jx n)):=by
 obtain⟨m,rfl⟩:=Int.eq_ofNat_of_zero_le d;have j:=il (wO W b m (by omega) w a l h f);have i:pt b= .pointer (some ⟨b,0,none⟩):=rfl;rw [i]at*;clear h;go_enter Tryz.func133,Tryz.ntmps133
 go_wp2_with (go_at_call 169;refine j.out.mono ?_;rintro e w1 ⟨⟨v,rfl⟩,c⟩)
 go_end0
 refine⟨⟨_,rfl⟩,?_⟩;unfold jx;rw [Int.toNat_natCast];exact c
theorem wR(n x:Nat)(h:x<2 ^ n):(2 ^ n - 1) ^^^ x=2 ^ n - 1 - x:=by
 have e:2 ^ n - 1 - x=2 ^ n - (x+1):=by omega
 apply Nat.eq_of_testBit_eq;intro i;rw [Nat.testBit_xor,Nat.testBit_two_pow_sub_one,e,Nat.testBit_two_pow_sub_succ h];by_cases a:i<n
 ·simp [a]
 ·have:x.testBit i=false:=Nat.testBit_lt_two_pow (Nat.lt_of_lt_of_le h (Nat.pow_le_pow_right (by decide) (by omega)));simp [a,this]
theorem FK(n:Int)(h0: -9223372036854775808<=n)(h1:n<0):bits .xor .u64 IntKind.u64.max (IntKind.u64.wrap (IntKind.u64.wrap n*2))= -2*n - 1:=by
 have e:IntKind.u64.wrap n=n+18446744073709551616:=by
  simp only [IntKind.wrap,IntKind.signed,IntKind.bits];simp;omega
 have b:IntKind.u64.wrap ((n+18446744073709551616)*2)=2*n+18446744073709551616:=by
  simp only [IntKind.wrap,IntKind.signed,IntKind.bits];simp;omega
 rw [e,b];obtain⟨x,d⟩:=Int.eq_ofNat_of_zero_le (show 0<=2*n+18446744073709551616 by omega);have c:IntKind.u64.max=((18446744073709551615:Nat):Int):=rfl;rw [d,c,bits_xor_u64_nat _ _ (by decide) (by omega)];have:=wR 64 x (by omega);have a:(2:Nat) ^ 64 - 1=18446744073709551615:=by decide
 rw [a]at this;rw [this];omega
theorem C3(W:World)(b:Nat)(n:Int)(m: -9223372036854775808<=n)(h1:n<=9223372036854775807)(w:World)(d:Value)(l:List Nat)(h:WrS W w b d l)(o:l.length<=1000000):
  Calls Tryz.prog 134 #[pt b,.int .i64 n] w (ul W w b d (l++jZ (zig n))):=by
 have k:zig n<18446744073709551616:=by unfold zig;split<;>omega
 have j:=il (wO W b (zig n) k w d l h o);have q:pt b= .pointer (some ⟨b,0,none⟩):=rfl;rw [q]at*;clear h;by_cases f:n<0
 ·have c:Hid (((zig n:Nat):Int)= -2*n - 1):=by unfold Hid zig;rw [if_pos f];omega
  go_enter Tryz.func134,Tryz.ntmps134
  go_wp2_with fail
  rw [FK n m f,<-c.out];refine j.out.mono ?_;rintro e p ⟨⟨v,rfl⟩,a⟩;go_wp2_with fail
  go_end0
  exact⟨⟨_,rfl⟩,a⟩
 ·have c:Hid (((zig n:Nat):Int)=2*n):=by unfold Hid zig;rw [if_neg f];omega
  go_enter Tryz.func134,Tryz.ntmps134
  go_wp2_with fail
  have i:n*2=((zig n:Nat):Int):=by rw [c.out];omega
  rw [i];refine j.out.mono ?_;rintro e p ⟨⟨v,rfl⟩,a⟩;clear i;go_wp2_with fail
  go_end0
  exact⟨⟨_,rfl⟩,a⟩
theorem lh(s:ByteArray)(k:Nat)(h:k<s.size):(byt s).drop k=s[k].toNat::(byt s).drop (k+1):=by
 have a:k<(byt s).length:=by rw [iT];exact h
 rw [List.drop_eq_getElem_cons a];congr 1
 have:=mt s k h;rw [List.getElem?_eq_getElem a]at this;exact Option.some.inj this
def rW(e:Ending):Prop:=e= .panicked [{ v:= .iface 174 (.int .i64 3),recovered:=false}]
theorem j4(w:World):Calls Tryz.prog 141 #[.bool true] w fun e w'=>(∃ v,e= .returned v)/\w'=w:=by
 go_enter Tryz.func141,Tryz.ntmps141
 go_wp2_with fail
 go_end0
 exact⟨⟨_,rfl⟩,rfl⟩
theorem jL(w:World):Calls Tryz.prog 141 #[.bool false] w fun e w'=>rW e/\w'=w:=by
 go_enter Tryz.func141,Tryz.ntmps141
 go_wp2_with fail
 exact⟨rfl,rfl,rfl⟩
structure RdS(W:World)(w:World)(b:Nat)(s:ByteArray)(k:Nat):Prop where
 blk:w.heap[b]?=some (.cells #[.string s,.int .i64 k] 176 (0,0))
 base:W.grownBy w (some b)
 le:k<=s.size
theorem RdS.c0{W w:World}{b k:Nat}{s:ByteArray}(h:RdS W w b s k):w.cell? ⟨b,0,none⟩=some (.string s):=by have:=h.blk;simp [World.cell?,this]
theorem RdS.c1{W w:World}{b k:Nat}{s:ByteArray}(h:RdS W w b s k):w.cell? ⟨b,1,none⟩=some (.int .i64 k):=by have:=h.blk;simp [World.cell?,this]
theorem RdS.z1{W w:World}{b k:Nat}{s:ByteArray}(h:RdS W w b s k):w.frozen? ⟨b,1,none⟩=false:=by have:=h.blk;simp [World.frozen?,this]
theorem RdS.lt{W w:World}{b k:Nat}{s:ByteArray}(h:RdS W w b s k):b<w.heap.size:=(Array.getElem?_eq_some_iff.1 h.blk).1
theorem RdS.grown{W w w':World}{b k:Nat}{s:ByteArray}(h:RdS W w b s k)(hg:w.grownBy w' none):RdS W w' b s k:=
 ⟨by rw [hg.block b h.lt (by simp)];exact h.blk,ip h.base (lU hg),h.le⟩
theorem RdS.self{W w:World}{b k:Nat}{s:ByteArray}(h:RdS W w b s k):RdS w w b s k:=⟨h.blk,iu _ _,h.le⟩
theorem RdS.trans{W w w':World}{b k k':Nat}{s:ByteArray}(h:RdS W w b s k)(h':RdS w w' b s k'):RdS W w' b s k':=⟨h'.blk,ip h.base h'.base,h'.le⟩
theorem RdS.step{W w:World}{b k:Nat}{s:ByteArray}(h:RdS W w b s k)(hk:k<s.size):RdS W (w.setCell ⟨b,1,none⟩ (.int .i64 ((k+1:Nat):Int))) b s (k+1):=
 ⟨by rw [heap_setCell_same _ b 1 _ _ _ h.blk];rfl,ip h.base iW,hk⟩
def Rd{α:Type}(W:World)(b:Nat)(s:ByteArray)(V:World->α->Value->Prop)(res:Option (α × List Nat))(e:Ending)(w':World):Prop:=
 (res=none/\rW e/\W.grownBy w' (some b))\/∃ x r v k,res=some (x,r)/\e= .returned v/\V w' x v/\RdS W w' b s k/\(byt s).drop k=r
def CM(l:List Nat):Option (Nat × List Nat):=match l with
 | []=>none
 | x::r=>some (x,r)
theorem B1(W w:World)(b k:Nat)(s:ByteArray)(h:RdS W w b s k)(hs:s.size<=9223372036854775806):
  Calls Tryz.prog 171 #[pt b] w (Rd W b s (fun _ x v=>v= .int .u8 ((x:Nat):Int)) (CM ((byt s).drop k))):=by
 have c0:=h.c0;have c1:=h.c1;have z1:=h.z1;have hle:=h.le;have c:=il h;clear h;unfold pt;by_cases d:k<s.size
 ·have l:(k:Int)<s.size:=by omega
  have q2:wrap64 ((k:Int)+1)=((k+1:Nat):Int):=by simp [wrap64];omega
  go_enter Tryz.func171,Tryz.ntmps171
  go_wp2_with fail
  go_still_tail 10,(by kernel_rfl)
  go_wp2_with (go_at_call 141;refine(j4 _).mono ?_;rintro e j ⟨⟨v,rfl⟩,rfl⟩)
  have a:=c.out.step d;have i:((k:Int)+1)=((k+1:Nat):Int):=by omega
  rw [i];have f:=il a;generalize w.setCell ⟨b,1,none⟩ (.int .i64 ((k+1:Nat):Int))=w6 at f a ⊢;have d0:=a.c0;have d1:=a.c1;clear a c0 c1 z1 i c;have HB:=il (lh s k d);go_quiet (fail)
  go_wp2_with fail
  go_ret;refine Or.inr ⟨s[k].toNat,(byt s).drop (k+1),_,k+1,?_,rfl,?_,?_,rfl⟩
  ·rw [HB.out];rfl
  ·rfl
  ·exact f.out.grown (iY _ (iz (iu _ _)))
 ·have l:¬(k:Int)<s.size:=by omega
  go_enter Tryz.func171,Tryz.ntmps171
  go_wp2_with fail
  go_still_tail 10,(by kernel_rfl)
  go_wp2_with (go_at_call 141;refine(jL _).mono ?_;rintro e j ⟨rfl,rfl⟩)
  refine⟨rfl,Or.inl ⟨?_,rfl,iz c.out.base⟩⟩;have e:(byt s).drop k=[]:=List.drop_eq_nil_iff.2 (by rw [iT];omega);rw [e];rfl
theorem C2(s:ByteArray){i j:Nat}(hi:i<=s.size)(hj:j<=s.size)(h:(byt s).drop i=(byt s).drop j):i=j:=by
 have:=congrArg List.length h;simp only [List.length_drop,iT]at this;omega
theorem nE(W w:World)(b k:Nat)(s:ByteArray)(h:RdS W w b s k)(i:s.size<=9223372036854775806)(c:k<s.size):
  Calls Tryz.prog 171 #[pt b] w fun e w'=>e= .returned (.int .u8 ((s[k].toNat:Nat):Int))/\RdS W w' b s (k+1):=by
 refine(B1 W w b k s h i).mono ?_;rintro e w' (⟨a,_⟩ | ⟨x,r,v,k',a,rfl,rfl,d,f⟩)
 ·rw [lh s k c]at a;cases a
 ·rw [lh s k c]at a;simp only [CM,Option.some.injEq,Prod.mk.injEq]at a;obtain⟨rfl,rfl⟩:=a;have:=C2 s d.le (show k+1<=s.size from c) f;subst this;exact⟨rfl,d⟩
theorem nG(W w:World)(b k:Nat)(s:ByteArray)(h:RdS W w b s k)(i:s.size<=9223372036854775806)(hk:¬k<s.size):
  Calls Tryz.prog 171 #[pt b] w fun e w'=>rW e/\W.grownBy w' (some b):=by
 have f:(byt s).drop k=[]:=List.drop_eq_nil_iff.2 (by rw [iT];omega);refine(B1 W w b k s h i).mono ?_;rintro e w' (⟨_,c,a⟩ | ⟨x,r,v,k',d,rfl,rfl,c,a⟩)
 ·exact⟨c,a⟩
 ·rw [f]at d;cases d
theorem rl(x place:Nat):((x:Int) % 128*2 ^ place)=((x % 128*2 ^ place:Nat):Int):=by push_cast;rfl
theorem qO(m:Nat):IntKind.u64.wrap (m:Int)=((m % 18446744073709551616:Nat):Int):=by
 simp only [IntKind.wrap,IntKind.signed,IntKind.bits];simp
theorem Cd(x a:Nat)(h:x % 128*2 ^ a<18446744073709551616):(IntKind.u64.wrap ((x:Int) % 128*2 ^ a) / 2 ^ a==(x:Int) % 128)=true:=by
 rw [rl,qO,Nat.mod_eq_of_lt h];have e:((2:Int) ^ a)=((2 ^ a:Nat):Int):=by push_cast;rfl
 rw [e,<-Int.natCast_ediv,Nat.mul_div_cancel _ (Nat.two_pow_pos a)];simp
theorem DC(x a:Nat)(h:¬x % 128*2 ^ a<18446744073709551616)(_hp:a<64):(IntKind.u64.wrap ((x:Int) % 128*2 ^ a) / 2 ^ a==(x:Int) % 128)=false:=by
 rw [rl,qO];have e:((2:Int) ^ a)=((2 ^ a:Nat):Int):=by push_cast;rfl
 rw [e,<-Int.natCast_ediv];have c:x % 128*2 ^ a % 18446744073709551616 / 2 ^ a≠x % 128:=by
  intro b;have h3:x % 128*2 ^ a<=x % 128*2 ^ a % 18446744073709551616:=by
   have:=Nat.div_mul_le_self (x % 128*2 ^ a % 18446744073709551616) (2 ^ a);rw [b]at this;exact this
  have:=Nat.mod_lt (x % 128*2 ^ a) (show 0<18446744073709551616 by decide);omega
 rw [beq_eq_false_iff_ne];intro b;apply c;have:((x:Int) % 128)=((x % 128:Nat):Int):=by push_cast;rfl
 rw [this]at b;exact_mod_cast b
theorem sx(n x a:Nat)(hn:n<2 ^ a)(h:x % 128*2 ^ a<18446744073709551616)(hp:a<64):n+x % 128*2 ^ a<18446744073709551616/\n+x % 128*2 ^ a<2 ^ (a+7):=by
 constructor
 ·have e:18446744073709551616=2 ^ (64 - a)*2 ^ a:=by rw [<-Nat.pow_add,show 64 - a+a=64 by omega]
  rw [e]at h ⊢;have b:x % 128<2 ^ (64 - a):=Nat.lt_of_mul_lt_mul_right h;have c:(x % 128+1)*2 ^ a<=2 ^ (64 - a)*2 ^ a:=Nat.mul_le_mul_right _ b;rw [Nat.add_mul,Nat.one_mul]at c;omega
 ·have b:2 ^ (a+7)=128*2 ^ a:=by rw [Nat.pow_add,Nat.mul_comm]
  have c:x % 128*2 ^ a<=127*2 ^ a:=Nat.mul_le_mul_right _ (by omega);omega
theorem Du(n x a:Nat)(b:n<2 ^ a)(h:x % 128*2 ^ a<18446744073709551616)(c:a<64):bits .or .u64 (n:Int) (IntKind.u64.wrap ((x:Int) % 128*2 ^ a))=((n+x % 128*2 ^ a:Nat):Int):=by
 have h64:=(sx n x a b h c).1;rw [rl,qO,Nat.mod_eq_of_lt h,u64_or_nat _ _ (by omega) h,Nat.or_comm,nat_join a _ _ (Nat.mul_mod_left _ _) b,Nat.add_comm]
theorem xB(W w:World)(b k:Nat)(s:ByteArray)(h:RdS W w b s k)(B:s.size<=9223372036854775806):
  Calls Tryz.prog 187 #[pt b] w (Rd W b s (fun _ x v=>v= .int .u64 ((x:Nat):Int)) (rdN 0 0 ((byt s).drop k))):=by
 have G:=il h;have A:pt b= .pointer (some ⟨b,0,none⟩):=rfl;rw [A];clear h A;go_enter Tryz.func187,Tryz.ntmps187
 go_wp2_with fail
 go_loopw [3,4] (fun nv pv w'=>∃ (n a d:Nat),nv= .int .u64 n/\pv= .int .i64 a/\a<=70/\n<2 ^ a/\Hid (RdS W w' b s d)/\Hid (rdN a n ((byt s).drop d)=rdN 0 0 ((byt s).drop k))) (fun _ pv _=>71 - (intOf pv).toNat)
 case atStart=>exact⟨0,0,k,rfl,rfl,by omega,by simp,G,il rfl⟩
 case round=>
  obtain⟨n,a,d,rfl,rfl,hpl,D,z,l⟩:=hrel;obtain⟨q,J⟩:∃ q,q=wr:=⟨_,rfl⟩;subst J;by_cases r:d<s.size
  ·have HB:=il (lh s d r);have hb:=s[d].toNat_lt;have i:=il (nE W q b d s z.out B r);generalize s[d].toNat=x at*;have hand:bits .and .u8 (x:Int) 127=((x % 128:Nat):Int):=by
    have:=u8_and_nat x 127 (by omega) (by decide);rw [nat_mask7]at this;exact this
   have hx8:x<256:=by omega
   by_cases o:a<64
   ·have F:(a:Int)<64:=by omega
    by_cases m:x % 128*2 ^ a<18446744073709551616
    ·have L:=Cd x a m;have hor:=Du n x a D m o;have E:=il (sx n x a D m o);by_cases y:x<128
     ·have H:(x:Int)<128:=by omega
      have p:Hid (rdN 0 0 ((byt s).drop k)=if 0<x\/a=0 then some (n+x % 128*2 ^ a,(byt s).drop (d+1)) else none):=by
       unfold Hid;rw [<-l.out,HB.out,rdN,if_pos ⟨o,m⟩,if_pos y]
      clear l;by_cases C:0<x
      ·have N:(0:Int)<(x:Int):=by omega
       go_wp2_with (first | (go_at_call 171;refine i.out.mono ?_;rintro e w6 ⟨rfl,c⟩;have f:=il c;clear c) | (go_at_call 141;refine(j4 _).mono ?_;rintro e j ⟨⟨t,rfl⟩,rfl⟩))
       go_ret;exact Or.inr ⟨n+x % 128*2 ^ a,(byt s).drop (d+1),_,d+1,by rw [p.out,if_pos (Or.inl C)],rfl,rfl,f.out,rfl⟩
      ·have N:¬(0:Int)<(x:Int):=by omega
       by_cases u:a=0
       ·have K:((a:Int)==0)=true:=by simp;omega
        have I:Hid (rdN 0 0 ((byt s).drop k)=some (n+x % 128*2 ^ a,(byt s).drop (d+1))):=by
         unfold Hid;rw [p.out,if_pos (Or.inr u)]
        clear u;go_wp2_with (first | (go_at_call 171;refine i.out.mono ?_;rintro e w6 ⟨rfl,c⟩;have f:=il c;clear c) | (go_at_call 141;first | (refine(j4 _).mono ?_;rintro e j ⟨⟨t,rfl⟩,rfl⟩) | (refine(jL _).mono ?_;rintro e j ⟨rfl,rfl⟩)))
        go_ret;exact Or.inr ⟨n+x % 128*2 ^ a,(byt s).drop (d+1),_,d+1,I.out,rfl,rfl,f.out,rfl⟩
       ·have K:((a:Int)==0)=false:=by simp;omega
        go_wp2_with (first | (go_at_call 171;refine i.out.mono ?_;rintro e w6 ⟨rfl,c⟩;have f:=il c;clear c) | (go_at_call 141;first | (refine(j4 _).mono ?_;rintro e j ⟨⟨t,rfl⟩,rfl⟩) | (refine(jL _).mono ?_;rintro e j ⟨rfl,rfl⟩)))
        refine⟨rfl,Or.inl ⟨?_,rfl,f.out.base⟩⟩;rw [p.out,if_neg (fun h=>h.elim C u)]
     ·have H:¬(x:Int)<128:=by omega
      have p:Hid (rdN (a+7) (n+x % 128*2 ^ a) ((byt s).drop (d+1))=rdN 0 0 ((byt s).drop k)):=by
       unfold Hid;rw [<-l.out,HB.out,rdN,if_pos ⟨o,m⟩,if_neg y]
      clear l;go_wp2_with (first | (go_at_call 171;refine i.out.mono ?_;rintro e w6 ⟨rfl,c⟩;have f:=il c;clear c) | (go_at_call 141;refine(j4 _).mono ?_;rintro e j ⟨⟨t,rfl⟩,rfl⟩))
      go_roundw
      case rel=>exact⟨n+x % 128*2 ^ a,a+7,d+1,rfl,by first | rfl | (congr 1),by omega,E.out.2,f,p⟩
      case measure=>simp [intOf];omega
    ·have L:=DC x a m o;go_wp2_with (first | (go_at_call 171;refine i.out.mono ?_;rintro e w6 ⟨rfl,c⟩;have f:=il c;clear c) | (go_at_call 141;refine(jL _).mono ?_;rintro e j ⟨rfl,rfl⟩))
     refine⟨rfl,Or.inl ⟨?_,rfl,f.out.base⟩⟩;rw [<-l.out,HB.out,rdN,if_neg (fun h=>m h.2)]
   ·have F:¬(a:Int)<64:=by omega
    go_wp2_with (first | (go_at_call 171;refine i.out.mono ?_;rintro e w6 ⟨rfl,c⟩;have f:=il c;clear c) | (go_at_call 141;refine(jL _).mono ?_;rintro e j ⟨rfl,rfl⟩))
    refine⟨rfl,Or.inl ⟨?_,rfl,f.out.base⟩⟩;rw [<-l.out,HB.out,rdN,if_neg (fun h=>o h.1)]
  ·have i:=il (nG W q b d s z.out B r);have M:Hid ((byt s).drop d=[]):=List.drop_eq_nil_iff.2 (by rw [iT];omega);go_wp2_with (go_at_call 171;refine i.out.mono ?_;rintro e w6 ⟨rfl,c⟩)
   refine⟨rfl,Or.inl ⟨?_,rfl,c⟩⟩;rw [<-l.out,M.out,rdN]
end
end Go.Proofs.YtklenjmfalljgabGreatDoor
