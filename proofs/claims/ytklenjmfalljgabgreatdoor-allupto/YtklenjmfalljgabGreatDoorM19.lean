/- The texts Wqa Wqb Wqc Rga Rgb Rgc. -/
import Derived.Test.YtklenjmfalljgabGreatDoorM07
import Derived.Test.YtklenjmfalljgabGreatDoorM18
import Derived.Lib.ConvBytes
namespace Go.Proofs.YtklenjmfalljgabGreatDoor
set_option maxRecDepth 100000
set_option maxHeartbeats 8000000
section
theorem ux(l:List Nat):∀ (a d x:Nat) (r:List Nat),(∀ b∈l,b<256)->rdN a d l=some (x,r)->∃ n,l=jZ n++r/\x=d+n*2 ^ a/\(0<n\/a=0):=by
 induction l with
 | nil=>intro a d x r _ h;cases h
 | cons b l ih=>
  intro a d x r i h;unfold rdN at h;split at h
  ·rename_i h1
   split at h
   ·rename_i h2
    split at h
    ·rename_i h3
     simp only [Option.some.injEq,Prod.mk.injEq]at h;obtain⟨rfl,rfl⟩:=h;have e:b % 128=b:=Nat.mod_eq_of_lt h2;exact⟨b,by rw [lP h2];rfl,by rw [e],h3⟩
    ·cases h
   ·rename_i h2
    obtain⟨n,m,j,f⟩:=ih _ _ _ _ (fun c hc=>i c (by simp [hc])) h;have hb:=i b (by simp);have hn:0<n:=by rcases f with f | f<;>omega
    refine⟨b % 128+128*n,?_,?_,Or.inl (by omega)⟩
    ·rw [nt (by omega)];have k:(b % 128+128*n) % 128+128=b:=by omega
     have o:(b % 128+128*n) / 128=n:=by omega
     rw [k,o,m];rfl
    ·rw [j,Nat.pow_add,Nat.add_mul,Nat.add_assoc];congr 2
     rw [Nat.mul_comm 128 n,Nat.mul_assoc,Nat.mul_comm 128]
  ·cases h
theorem kc{l r:List Nat}{x:Int}(c:∀ b∈l,b<256)(h:js l=some (x,r)):l=jx x++r:=by
 unfold js at h;split at h
 ·rename_i n r' e
  split at h
  ·simp only [Option.some.injEq,Prod.mk.injEq]at h;obtain⟨rfl,rfl⟩:=h;obtain⟨m,d,a,_⟩:=ux l _ _ _ _ c e;simp at a;subst a;unfold jx;simpa using d
  ·cases h
 ·cases h
theorem DK(n:Nat):zig (zag n)=n:=by
 unfold zig zag;split<;>split<;>omega
theorem sq{l r:List Nat}{x:Int}(c:∀ b∈l,b<256)(h:kT l=some (x,r)):l=jZ (zig x)++r:=by
 unfold kT at h;split at h
 ·rename_i n r' e
  simp only [Option.some.injEq,Prod.mk.injEq]at h;obtain⟨rfl,rfl⟩:=h;obtain⟨m,d,a,_⟩:=ux l _ _ _ _ c e;simp at a;subst a;rw [DK];exact d
 ·cases h
theorem m7{b:Int}{l r:List Nat}{x:Int}(a:∀ b∈l,b<256)(h:kO b l=some (x,r)):l=jx x++r/\x<=b/\0<=x:=by
 unfold kO at h;split at h
 ·rename_i n r' e
  split at h
  ·rename_i hb
   simp only [Option.some.injEq,Prod.mk.injEq]at h;obtain⟨rfl,rfl⟩:=h;refine⟨kc a e,hb,?_⟩;unfold js at e;split at e
   ·split at e
    ·simp only [Option.some.injEq,Prod.mk.injEq]at e;omega
    ·cases e
   ·cases e
  ·cases h
 ·cases h
theorem wh{l r:List Nat}{x:Ins}(f:∀ b∈l,b<256)(h:lZ l=some (x,r)):l=mu x++r:=by
 unfold lZ at h;split at h
 ·cases h
 ·rename_i o l1 e1
  have k:=kc f e1;split at h
  ·cases h
  ·rename_i a l2 e2
   have i:∀ b∈l1,b<256:=fun b hb=>f b (by rw [k];simp [hb])
   have e:=kc i e2;split at h
   ·cases h
   ·rename_i c l3 e3
    have d:∀ b∈l2,b<256:=fun b hb=>i b (by rw [e];simp [hb])
    have j:=kc d e3;split at h
    ·cases h
    ·rename_i n l4 e4
     have m:∀ b∈l3,b<256:=fun b hb=>d b (by rw [j];simp [hb])
     have p:=sq m e4;simp only [Option.some.injEq,Prod.mk.injEq]at h;obtain⟨rfl,rfl⟩:=h;unfold mu;rw [k,e,j,p];simp
theorem qf{α:Type}{P:List Nat->Option (α × List Nat)}{W:α->List Nat}(f:∀ {l r:List Nat} {x:α},(∀ b∈l,b<256)->P l=some (x,r)->l=W x++r)(k:Nat):
  ∀ {l r:List Nat} {xs:List α},(∀ b∈l,b<256)->jX P k l=some (xs,r)->l=xs.flatMap W++r/\xs.length=k:=by
 induction k with
 | zero=>
  intro l r xs a h;simp only [jX,Option.some.injEq,Prod.mk.injEq]at h;obtain⟨rfl,rfl⟩:=h;exact⟨rfl,rfl⟩
 | succ k ih=>
  intro l r xs a h;unfold jX at h;split at h
  ·cases h
  ·rename_i x r1 e1
   have c:=f a e1;split at h
   ·cases h
   ·rename_i ys r2 e2
    obtain⟨d,e⟩:=ih (fun b hb=>a b (by rw [c];simp [hb])) e2;simp only [Option.some.injEq,Prod.mk.injEq]at h;obtain⟨rfl,rfl⟩:=h;exact⟨by rw [c,d];simp,by simp [e]⟩
theorem tj{l r:List Nat}{x:List Ins}(a:∀ b∈l,b<256)(h:jG l=some (x,r)):l=jU x++r:=by
 unfold jG at h;split at h
 ·cases h
 ·rename_i k r1 e1
  obtain⟨c,_,q0⟩:=m7 a e1;obtain⟨d,q3⟩:=qf (W:=mu) (fun a h=>wh a h) _ (fun b hb=>a b (by rw [c];simp [hb])) h;unfold jU;have:(x.length:Int)=k:=by omega
  rw [c,d,this];simp
theorem vL{l r:List Nat}{x:List (List Ins)}(a:∀ b∈l,b<256)(h:kL l=some (x,r)):l=lY x++r:=by
 unfold kL at h;split at h
 ·cases h
 ·rename_i k r1 e1
  obtain⟨c,_,q0⟩:=m7 a e1;obtain⟨d,q3⟩:=qf (W:=jU) (fun a h=>tj a h) _ (fun b hb=>a b (by rw [c];simp [hb])) h;unfold lY;have:(x.length:Int)=k:=by omega
  rw [c,d,this];simp
theorem vC(k:Nat):∀ {a:List Int} {l r:List Nat} {s:List Int},(∀ b∈l,b<256)->lf k a l=some (s,r)->∃ q,l=q.flatMap lQ++r/\q.length=k/\s=a++j3 q/\Sep a.getLast? q/\∀ x∈q,0<x.2:=by
 induction k with
 | zero=>
  intro a l r s d h;simp only [lf,Option.some.injEq,Prod.mk.injEq]at h;obtain⟨rfl,rfl⟩:=h;exact⟨[],rfl,rfl,by simp [j3],trivial,fun x hx=>by cases hx⟩
 | succ k ih=>
  intro a l r s d h;unfold lf at h;split at h
  ·cases h
  ·rename_i t r1 e1
   have i:=kc d e1;split at h
   ·cases h
   ·rename_i c r2 e2
    have f:∀ b∈r1,b<256:=fun b hb=>d b (by rw [i];simp [hb])
    obtain⟨j,_,_⟩:=m7 f e2;split at h
    ·rename_i h3
     obtain⟨q,m,p,n,e,o⟩:=ih (fun b hb=>f b (by rw [j];simp [hb])) h;rw [rA _ _ _ (by omega)]at e;refine⟨(t,c)::q,by rw [i,j,m];simp [lQ],by simp [p],by rw [n];simp [j3],⟨h3.2,e⟩,fun x hx=>?_⟩;rcases List.mem_cons.1 hx with rfl | hx
     ·exact h3.1
     ·exact o x hx
    ·cases h
theorem ET(t:Int)(n:Nat)(s:List Int)(q:List (Int × Int))(a:grp s=q)(b:Sep (some t) q):grp (List.replicate (n+1) t++s)=(t,((n+1:Nat):Int))::q:=by
 induction n with
 | zero=>
  simp only [Nat.zero_add,List.replicate_one,List.singleton_append,grp,a];cases q with
  | nil=>rfl
  | cons x q=>
   simp only;rw [if_neg (fun e=>b.1 (by rw [e]))];rfl
 | succ n ih=>
  rw [List.replicate_succ,List.cons_append,grp,ih];simp
theorem tZ(q:List (Int × Int)):∀ p,Sep p q->(∀ x∈q,0<x.2)->grp (j3 q)=q:=by
 induction q with
 | nil=>intro p _ _;rfl
 | cons x q ih=>
  intro p a b;have h0:=b x (by simp);obtain⟨n,c⟩:∃ n:Nat,x.2.toNat=n+1:=⟨x.2.toNat - 1,by omega⟩;have e:j3 (x::q)=List.replicate (n+1) x.1++j3 q:=by simp [j3,c]
  rw [e,ET x.1 n _ q (ih _ a.2 (fun y hy=>b y (by simp [hy]))) a.2];congr 1
  have:((n+1:Nat):Int)=x.2:=by omega
  rw [this]
theorem tS{l r:List Nat}{s:List Int}(c:∀ b∈l,b<256)(h:jV l=some (s,r)):l=mz s++r:=by
 unfold jV at h;split at h
 ·cases h
 ·rename_i k r1 e1
  obtain⟨d,_,q0⟩:=m7 c e1;obtain⟨q,e,p2,a,f,i⟩:=vC _ (fun b hb=>c b (by rw [d];simp [hb])) h;simp only [List.nil_append]at a;unfold mz;rw [a,tZ q _ f i];have:(q.length:Int)=k:=by omega
  rw [d,e,this];simp
theorem wo{l r:List Nat}{v:Int × Int × Int}(e:∀ b∈l,b<256)(h:mX l=some (v,r)):l=mQ v++r:=by
 unfold mX at h;split at h
 ·cases h
 ·rename_i a l1 e1
  have i:=kc e e1;split at h
  ·cases h
  ·rename_i b l2 e2
   have f:∀ b∈l1,b<256:=fun b hb=>e b (by rw [i];simp [hb])
   have d:=kc f e2;split at h
   ·cases h
   ·rename_i c l3 e3
    have j:∀ b∈l2,b<256:=fun b hb=>f b (by rw [d];simp [hb])
    have k:=kc j e3;simp only [Option.some.injEq,Prod.mk.injEq]at h;obtain⟨rfl,rfl⟩:=h;unfold mQ;rw [i,d,k];simp
theorem ws{l r:List Nat}{a:Art}(j:∀ b∈l,b<256)(h:o0 l=some (a,r)):l=mL a++r:=by
 obtain⟨k,rfl⟩:=pz h;simp only [o0]at h;have c:∀ b∈k,b<256:=fun b hb=>j b (by simp [hb])
 split at h
 ·cases h
 ·rename_i p r1 e1
  have f:=vL c e1;have e:∀ b∈r1,b<256:=fun b hb=>c b (by rw [f];simp [hb])
  split at h
  ·cases h
  ·rename_i s r2 e2
   have d:=tS e e2;have i:∀ b∈r2,b<256:=fun b hb=>e b (by rw [d];simp [hb])
   split at h
   ·cases h
   ·rename_i v r3 e3
    have m:=wo i e3;simp only [Option.some.injEq,Prod.mk.injEq]at h;obtain⟨rfl,rfl⟩:=h;unfold mL;rw [f,d,m];simp
theorem um{l:List Nat}{a:Art}(d:∀ b∈l,b<256)(h:kj l=some a):l=mJ a/\jI a=0:=by
 unfold kj at h;split at h
 ·cases h
 ·rename_i a' r e
  split at h
  ·rename_i h1
   simp only [Option.some.injEq]at h;subst h;have q:=ws d e;refine⟨?_,h1.2⟩;have c:=h1.1;have:l.take (l.length - r.length)=mL a':=by rw [q];simp
   rw [this]at c;unfold mJ;rw [<-c];exact q
  ·cases h
def mp:Nat->Nat->Nat->List Nat->Nat × List Nat × Bool
 | 0,_,_,l=>(0,l,true)
 | _+1,_,_,[]=>(0,[],true)
 | k+1,unit,v,c::r=>if c<128 then ((v+unit*(c % 128)) % 18446744073709551616,r,false) else mp k (unit*128 % 18446744073709551616) ((v+unit*(c % 128)) % 18446744073709551616) r
def iQ(most:Nat)(l:List Nat):Nat × List Nat × Bool:=if most<(mp 10 1 0 l).1 then (0,(mp 10 1 0 l).2.1,true) else mp 10 1 0 l
def qH(l:List Nat):Ins × List Nat × Bool:=
 let o:=iQ 11 l
 let a:=iQ 3 o.2.1
 let b:=iQ 3 a.2.1
 let n:=mp 10 1 0 b.2.1
 (⟨o.1,a.1,b.1,zag n.1⟩,n.2.1,o.2.2 || a.2.2 || b.2.2 || n.2.2)
def ll:Nat->List Ins->List Nat->Bool->List Ins × List Nat × Bool
 | 0,c,l,b=>(c,l,b)
 | _+1,c,l,true=>(c,l,true)
 | k+1,c,l,false=>ll k (c++[(qH l).1]) (qH l).2.1 (qH l).2.2
def lp:Nat->List (List Ins)->List Nat->Bool->List (List Ins) × List Nat × Bool
 | 0,p,l,b=>(p,l,b)
 | _+1,p,l,true=>(p,l,true)
 | k+1,p,l,false=>
  let n:=iQ 16 l
  let c:=ll n.1 [] n.2.1 n.2.2
  lp k (p++[c.1]) c.2.1 c.2.2
def nD:Nat->Int->List Int->List Int
 | 0,_,s=>s
 | n+1,t,s=>if s.length<=500 then nD n t (s++[t]) else s
def nQ:Nat->List Int->List Nat->Bool->List Int × List Nat × Bool
 | 0,s,l,b=>(s,l,b)
 | _+1,s,l,true=>(s,l,true)
 | k+1,s,l,false=>
  let t:=iQ 63 l
  let n:=iQ 500 t.2.1
  nQ k (nD n.1 t.1 s) n.2.1 (t.2.2 || n.2.2)
def j9(l:List Nat):Art × Bool:=
 let t:=iQ 4 (l.drop 3)
 let p:=lp t.1 [] t.2.1 t.2.2
 let k:=iQ 500 p.2.1
 let s:=nQ k.1 [] k.2.1 (p.2.2 || k.2.2)
 let a:=iQ 5 s.2.1
 let b:=iQ 3 a.2.1
 let c:=iQ 500 b.2.1
 (⟨p.1,s.1,(a.1,b.1,c.1)⟩,!(s.2.2 || a.2.2 || b.2.2 || c.2.2))
theorem By(n:Nat):∀ (k a b:Nat) (r:List Nat),a+7*k=70->1<=k->b+n*2 ^ a<18446744073709551616->mp k (2 ^ a) b (jZ n++r)=(b+n*2 ^ a,r,false):=by
 induction n using Nat.strongRecOn with
 | ind n ih=>
  intro k a b r hk h1 h;obtain⟨j,rfl⟩:∃ j,k=j+1:=⟨k - 1,by omega⟩;by_cases c:n<128
  ·rw [lP c];have e:n % 128=n:=Nat.mod_eq_of_lt c;simp only [List.cons_append,List.nil_append,mp,e];rw [if_pos c,Nat.mul_comm (2 ^ a) n,Nat.mod_eq_of_lt h]
  ·rw [nt c];have e:(n % 128+128) % 128=n % 128:=by omega
   simp only [List.cons_append,mp,e];rw [if_neg (by omega)];have d:2 ^ (a+7)=2 ^ a*128:=by rw [Nat.pow_add]
   have l:n*2 ^ a=2 ^ a*(n % 128)+(n / 128)*2 ^ (a+7):=by
    have:n=n % 128+128*(n / 128):=by omega
    rw [d];conv=>lhs;rw [this]
    rw [Nat.add_mul,Nat.mul_comm (n % 128),Nat.mul_comm 128,Nat.mul_assoc,Nat.mul_comm 128]
   have f:1<=n / 128:=by omega
   have hge:2 ^ (a+7)<=(n / 128)*2 ^ (a+7):=Nat.le_mul_of_pos_left _ f;have i:2 ^ (a+7)<18446744073709551616:=by omega
   have hpl:a+7<64:=by
    apply Nat.lt_of_not_le;intro hc;have:(2:Nat) ^ 64<=2 ^ (a+7):=Nat.pow_le_pow_right (by omega) hc;omega
   rw [Nat.mod_eq_of_lt (by omega:b+2 ^ a*(n % 128)<18446744073709551616),<-d,Nat.mod_eq_of_lt i,ih (n / 128) (by omega) j (a+7) _ r (by omega) (by omega) (by omega),Nat.add_assoc,<-l]
theorem Fd(n:Nat)(r:List Nat)(h:n<18446744073709551616):mp 10 1 0 (jZ n++r)=(n,r,false):=by
 have:=By n 10 0 0 r (by omega) (by omega) (by simpa using h);simpa using this
theorem oH(a:Nat)(n:Int)(r:List Nat)(_h0:0<=n)(h1:n<=a)(hm:a<=1000):iQ a (jx n++r)=(n.toNat,r,false):=by
 unfold iQ jx;rw [Fd _ _ (by omega),if_neg (by simp only;omega)]
theorem Fs(i:Ins)(r:List Nat)(j:0<=i.op/\i.op<=11)(e:0<=i.a/\i.a<=3)(c:0<=i.b/\i.b<=3)(h4: -9223372036854775808<=i.n/\i.n<=9223372036854775807):qH (mu i++r)=(i,r,false):=by
 unfold qH mu;simp only [List.append_assoc];rw [oH 11 _ _ j.1 (by omega) (by omega)];simp only;rw [oH 3 _ _ e.1 (by omega) (by omega)];simp only;rw [oH 3 _ _ c.1 (by omega) (by omega)];simp only;have d:zig i.n<18446744073709551616:=by unfold zig;split<;>omega
 rw [Fd _ _ d];simp only [zu,Bool.or_self];have k:((i.op.toNat:Nat):Int)=i.op:=by omega
 have h:((i.a.toNat:Nat):Int)=i.a:=by omega
 have f:((i.b.toNat:Nat):Int)=i.b:=by omega
 rw [k,h,f]
def kC(i:Ins):Prop:=(0<=i.op/\i.op<=11)/\(0<=i.a/\i.a<=3)/\(0<=i.b/\i.b<=3)/\(-9223372036854775808<=i.n/\i.n<=9223372036854775807)
theorem Ee(c:List Ins):∀ (d:List Ins) (r:List Nat),(∀ i∈c,kC i)->ll c.length d (c.flatMap mu++r) false=(d++c,r,false):=by
 induction c with
 | nil=>intro d r _;simp [ll]
 | cons i c ih=>
  intro d r h;obtain⟨f,b,a,e⟩:=h i (by simp);rw [List.length_cons,List.flatMap_cons,List.append_assoc,ll,Fs i _ f b a e];simp only;rw [ih _ _ (fun j hj=>h j (by simp [hj]))];simp
theorem ER(p:List (List Ins)):∀ (d:List (List Ins)) (r:List Nat),(∀ c∈p,c.length<=16/\∀ i∈c,kC i)->lp p.length d (p.flatMap jU++r) false=(d++p,r,false):=by
 induction p with
 | nil=>intro d r _;simp [lp]
 | cons c p ih=>
  intro d r h;obtain⟨h1,a⟩:=h c (by simp);rw [List.length_cons,List.flatMap_cons,lp];unfold jU;simp only [List.append_assoc];rw [oH 16 _ _ (by omega) (by omega) (by omega)];simp only [Int.toNat_natCast];rw [Ee c [] _ a];have:=ih (d++[c]) r (fun x hx=>h x (by simp [hx]));unfold jU at this;simp only [List.nil_append];rw [this];simp
theorem C6(n:Nat)(t:Int):∀ s:List Int,s.length+n<=501->nD n t s=s++List.replicate n t:=by
 induction n with
 | zero=>intro s _;simp [nD]
 | succ n ih=>
  intro s h;rw [nD,if_pos (by omega),ih _ (by simp;omega),List.append_assoc];rfl
theorem EZ(q:List (Int × Int)):∀ (s:List Int) (r:List Nat),(∀ x∈q,0<=x.1/\x.1<=63/\1<=x.2/\x.2<=500)->s.length+(j3 q).length<=500->nQ q.length s (q.flatMap lQ++r) false=(s++j3 q,r,false):=by
 induction q with
 | nil=>intro s r _ _;simp [nQ,j3]
 | cons x q ih=>
  intro s r h a;obtain⟨c,h2,h3,h4⟩:=h x (by simp);have b:j3 (x::q)=List.replicate x.2.toNat x.1++j3 q:=by simp [j3]
  rw [b]at a ⊢;simp only [List.length_append,List.length_replicate]at a;rw [List.flatMap_cons,List.length_cons,nQ];unfold lQ;simp only [List.append_assoc];rw [oH 63 _ _ c (by omega) (by omega)];simp only;rw [oH 500 _ _ (by omega) (by omega) (by omega)];simp only [Bool.or_self];have d:((x.1.toNat:Nat):Int)=x.1:=by omega
  rw [d,C6 _ _ _ (by omega)];have:=ih (s++List.replicate x.2.toNat x.1) r (fun y hy=>h y (by simp [hy])) (by simp;omega);unfold lQ at this;rw [this];simp
theorem pM{i:Ins}{len:Int}(h:lH i len=true):(0<=i.op/\i.op<=11)/\(0<=i.a/\i.a<=3)/\(0<=i.b/\i.b<=3):=by
 simp only [lH,Bool.and_eq_true,decide_eq_true_eq]at h;obtain⟨h1,f,d,e,_⟩:=h;refine⟨⟨by omega,f⟩,?_,?_⟩
 ·obtain⟨o,c⟩:∃ o:Nat,i.op.toNat=o:=⟨_,rfl⟩;rw [c]at d;have:o=1\/o=2\/o=3\/o=4\/o=5\/o=6\/o=7\/o=8\/o=9\/o=10\/o=11:=by omega
  rcases this with rfl | rfl | rfl | rfl | rfl | rfl | rfl | rfl | rfl | rfl | rfl<;>simp [shp,mn,jE]at d<;>omega
 ·obtain⟨o,c⟩:∃ o:Nat,i.op.toNat=o:=⟨_,rfl⟩;rw [c]at e;have:o=1\/o=2\/o=3\/o=4\/o=5\/o=6\/o=7\/o=8\/o=9\/o=10\/o=11:=by omega
  rcases this with rfl | rfl | rfl | rfl | rfl | rfl | rfl | rfl | rfl | rfl | rfl<;>simp [shp,mn,jE]at e<;>omega
theorem qU{a:Art}(h:jI a=0):iV a.prog=true/\jd a.sch=true/\kH a.ver=true:=by
 unfold jI at h;split at h
 ·split at h
  ·rename_i h1 h2;exact⟨h1,h2⟩
  ·omega
 ·omega
theorem Aq(a:Art)(h:jI a=0)(v:∀ c∈a.prog,∀ i∈c,kM i):j9 (mJ a)=(a,true):=by
 obtain⟨f,n,k⟩:=qU h;have A:=jA f;have hc:∀ c∈a.prog,c.length<=16/\∀ i∈c,kC i:=by
  intro c hc;simp only [iV,Bool.and_eq_true,List.all_eq_true]at f;have d:=f.2.2 c hc;have b:=d;simp only [kU,Bool.and_eq_true,List.all_eq_true,decide_eq_true_eq]at b;refine⟨b.1,fun i hi'=>?_⟩;obtain⟨u,z,t⟩:=pM (b.2 i hi');exact⟨u,z,t,(v c hc i hi').2.2.2⟩
 have e:=n;simp only [jd,Bool.and_eq_true,decide_eq_true_eq,List.all_eq_true]at e;have y:=pd a.sch;have l:∀ x∈grp a.sch,0<=x.1/\x.1<=63/\1<=x.2/\x.2<=500:=fun x hx=>by
  have d:=p9 a.sch x hx;have b:=e.2 x.1 d.1;exact⟨b.1,b.2,d.2.1,by omega⟩
 simp only [kH,Bool.and_eq_true,decide_eq_true_eq]at k;obtain⟨p,s,j,m,o⟩:=a;simp only at f n A hc e y l k ⊢;unfold j9 mJ mL lY mz mQ;simp only [List.cons_append,List.nil_append,List.drop_succ_cons,List.drop_zero,List.append_assoc];rw [oH 4 _ _ (by omega) (by omega) (by omega)];simp only [Int.toNat_natCast];rw [ER p [] _ hc];simp only [List.nil_append];rw [oH 500 _ _ (by omega) (by omega) (by omega)];simp only [Int.toNat_natCast,Bool.or_self];rw [EZ (grp s) [] _ l (by rw [oq];simpa using e.1)];simp only [List.nil_append,oq];rw [oH 5 _ _ (by omega) (by omega) (by omega)];simp only;rw [oH 3 _ _ (by omega) (by omega) (by omega)];simp only;rw [oH 500 _ _ (by omega) (by omega) (by omega)];simp only [Bool.or_self,Bool.not_false];have q:((j.toNat:Nat):Int)=j:=by omega
 have w:((m.toNat:Nat):Int)=m:=by omega
 have r:((o.toNat:Nat):Int)=o:=by omega
 rw [q,w,r]
def sy(l:List Nat):Option Art:=if (j9 l).2=true/\jI (j9 l).1=0/\mJ (j9 l).1=l then some (j9 l).1 else none
theorem zR{l:List Nat}(n:∀ b∈l,b<256)(m:∀ a,kj l=some a->∀ c∈a.prog,∀ i∈c,kM i)(j:∀ c∈(j9 l).1.prog,∀ i∈c,kM i):sy l=kj l:=by
 unfold sy;cases hd:kj l with
 | none=>
  rw [if_neg];rintro⟨_,k,h⟩;have:=ES _ k j;rw [h,hd]at this;cases this
 | some a=>
  obtain⟨f,d⟩:=um n hd;have e:=Aq a d (m a hd);rw [<-f]at e;rw [e];simp only [true_and];rw [if_pos ⟨d,f.symm⟩]
theorem rX:∀ (k u v:Nat) (l:List Nat),(mp k u v l).1<18446744073709551616
 | 0,_,_,_=>by simp [mp]
 | _+1,_,_,[]=>by simp [mp]
 | k+1,u,v,c::r=>by
  rw [mp];split
  ·exact Nat.mod_lt _ (by omega)
  ·exact rX k _ _ r
theorem ky(m:Nat)(l:List Nat):(iQ m l).1<=m:=by
 unfold iQ;split
 ·simp
 ·omega
theorem zm(n:Nat)(h:n<18446744073709551616): -9223372036854775808<=zag n/\zag n<=9223372036854775807:=by
 unfold zag;split<;>omega
theorem xT(l:List Nat):kC (qH l).1:=by
 unfold qH;have h1:=ky 11 l;have h2:=ky 3 (iQ 11 l).2.1;have h3:=ky 3 (iQ 3 (iQ 11 l).2.1).2.1;refine⟨⟨?_,?_⟩,⟨?_,?_⟩,⟨?_,?_⟩,zm _ (rX _ _ _ _)⟩<;>simp only<;>omega
theorem rD:∀ (k:Nat) (c:List Ins) (l:List Nat) (b:Bool),(∀ i∈c,kC i)->(∀ i∈(ll k c l b).1,kC i)/\(ll k c l b).1.length<=c.length+k
 | 0,c,l,b,h=>⟨h,by simp [ll]⟩
 | k+1,c,l,true,h=>⟨h,by simp [ll]⟩
 | k+1,c,l,false,h=>by
  rw [ll];obtain⟨h1,h2⟩:=rD k (c++[(qH l).1]) (qH l).2.1 (qH l).2.2 (fun i hi=>by
   rcases List.mem_append.1 hi with hi | hi
   ·exact h i hi
   ·simp at hi;subst hi;exact xT l)
  exact⟨h1,by simp at h2;omega⟩
theorem rL:∀ (k:Nat) (p:List (List Ins)) (l:List Nat) (b:Bool),(∀ c∈p,c.length<=16/\∀ i∈c,kC i)->(∀ c∈(lp k p l b).1,c.length<=16/\∀ i∈c,kC i)/\(lp k p l b).1.length<=p.length+k
 | 0,p,l,b,h=>⟨h,by simp [lp]⟩
 | k+1,p,l,true,h=>⟨h,by simp [lp]⟩
 | k+1,p,l,false,h=>by
  rw [lp];have hc:=rD (iQ 16 l).1 [] (iQ 16 l).2.1 (iQ 16 l).2.2 (fun i hi=>by cases hi);have hn:=ky 16 l;obtain⟨h1,h2⟩:=rL k (p++[(ll (iQ 16 l).1 [] (iQ 16 l).2.1 (iQ 16 l).2.2).1]) (ll (iQ 16 l).1 [] (iQ 16 l).2.1 (iQ 16 l).2.2).2.1 (ll (iQ 16 l).1 [] (iQ 16 l).2.1 (iQ 16 l).2.2).2.2 (fun c hi=>by
   rcases List.mem_append.1 hi with hi | hi
   ·exact h c hi
   ·simp at hi;subst hi;exact⟨by have:=hc.2;simp at this;omega,hc.1⟩)
  exact⟨h1,by simp at h2;omega⟩
theorem rE(l:List Nat):(∀ c∈(j9 l).1.prog,c.length<=16/\∀ i∈c,kC i)/\(j9 l).1.prog.length<=4:=by
 unfold j9;have h:=rL (iQ 4 (l.drop 3)).1 [] (iQ 4 (l.drop 3)).2.1 (iQ 4 (l.drop 3)).2.2 (fun c hc=>by cases hc);have hn:=ky 4 (l.drop 3);exact⟨h.1,by have:=h.2;simp at this;simp only;omega⟩
theorem uD{i:Ins}(h:kC i):kM i:=by
 obtain⟨c,d,a,b⟩:=h;exact⟨⟨c.1,by omega⟩,⟨d.1,by omega⟩,⟨a.1,by omega⟩,b⟩
theorem EB(n x a:Nat)(hn:n<2 ^ a)(h:x % 128*2 ^ a<18446744073709551616)(hp:a<64):n+x % 128*2 ^ a<18446744073709551616/\n+x % 128*2 ^ a<2 ^ (a+7):=by
 constructor
 ·have e:18446744073709551616=2 ^ (64 - a)*2 ^ a:=by rw [<-Nat.pow_add,show 64 - a+a=64 by omega]
  rw [e]at h ⊢;have b:x % 128<2 ^ (64 - a):=Nat.lt_of_mul_lt_mul_right h;have c:(x % 128+1)*2 ^ a<=2 ^ (64 - a)*2 ^ a:=Nat.mul_le_mul_right _ b;rw [Nat.add_mul,Nat.one_mul]at c;omega
 ·have b:2 ^ (a+7)=128*2 ^ a:=by rw [Nat.pow_add,Nat.mul_comm]
  have c:x % 128*2 ^ a<=127*2 ^ a:=Nat.mul_le_mul_right _ (by omega);omega
theorem DN(l:List Nat):∀ (a c x:Nat) (r:List Nat),c<2 ^ a->rdN a c l=some (x,r)->x<18446744073709551616:=by
 induction l with
 | nil=>intro a c x r _ h;cases h
 | cons b l ih=>
  intro a c x r e h;rw [rdN]at h;split at h
  ·rename_i h1
   have d:=EB c b a e h1.2 h1.1;split at h
   ·split at h
    ·simp only [Option.some.injEq,Prod.mk.injEq]at h;rw [<-h.1];exact d.1
    ·cases h
   ·exact ih _ _ _ _ d.2 h
  ·cases h
theorem oF{l r:List Nat}{x:Int}(h:js l=some (x,r)):0<=x/\x<=9223372036854775807:=by
 unfold js at h;split at h
 ·split at h
  ·simp only [Option.some.injEq,Prod.mk.injEq]at h;omega
  ·cases h
 ·cases h
theorem vG{l r:List Nat}{x:Int}(h:kT l=some (x,r)): -9223372036854775808<=x/\x<=9223372036854775807:=by
 unfold kT at h;split at h
 ·rename_i n r' e
  simp only [Option.some.injEq,Prod.mk.injEq]at h;rw [<-h.1];exact zm n (DN l 0 0 n r' (by simp) e)
 ·cases h
theorem AO{l r:List Nat}{x:Ins}(h:lZ l=some (x,r)):kM x:=by
 unfold lZ at h;split at h
 ·cases h
 ·rename_i o l1 e1
  split at h
  ·cases h
  ·rename_i a l2 e2
   split at h
   ·cases h
   ·rename_i c l3 e3
    split at h
    ·cases h
    ·rename_i n l4 e4
     simp only [Option.some.injEq,Prod.mk.injEq]at h;rw [<-h.1];exact⟨oF e1,oF e2,oF e3,vG e4⟩
theorem sM{α:Type}{P:List Nat->Option (α × List Nat)}{Q:α->Prop}(b:∀ {l r:List Nat} {x:α},P l=some (x,r)->Q x)(k:Nat):
  ∀ {l r:List Nat} {xs:List α},jX P k l=some (xs,r)->∀ x∈xs,Q x:=by
 induction k with
 | zero=>
  intro l r xs h;simp only [jX,Option.some.injEq,Prod.mk.injEq]at h;rw [<-h.1];intro x c;cases c
 | succ k ih=>
  intro l r xs h;unfold jX at h;split at h
  ·cases h
  ·rename_i x r1 e1
   split at h
   ·cases h
   ·rename_i ys r2 e2
    simp only [Option.some.injEq,Prod.mk.injEq]at h;rw [<-h.1];intro y a;rcases List.mem_cons.1 a with rfl | a
    ·exact b e1
    ·exact ih e2 y a
theorem vz{l r:List Nat}{x:List Ins}(h:jG l=some (x,r)):∀ i∈x,kM i:=by
 unfold jG at h;split at h
 ·cases h
 ·exact sM (fun h=>AO h) _ h
theorem yd{l r:List Nat}{x:List (List Ins)}(h:kL l=some (x,r)):∀ c∈x,∀ i∈c,kM i:=by
 unfold kL at h;split at h
 ·cases h
 ·exact sM (fun h=>vz h) _ h
theorem D9{l:List Nat}{a:Art}(h:kj l=some a):∀ c∈a.prog,∀ i∈c,kM i:=by
 unfold kj at h;split at h
 ·cases h
 ·rename_i a' r e
  split at h
  ·simp only [Option.some.injEq]at h;subst h;obtain⟨r0,rfl⟩:=pz e;simp only [o0]at e;split at e
   ·cases e
   ·rename_i p r1 e1
    split at e
    ·cases e
    ·split at e
     ·cases e
     ·simp only [Option.some.injEq,Prod.mk.injEq]at e;rw [<-e.1];exact yd e1
  ·cases h
theorem xM{l:List Nat}(hl:∀ b∈l,b<256):sy l=kj l:=
 zR hl (fun _ h=>D9 h) (fun c hc i hi=>uD (((rE l).1 c hc).2 i hi))
def tT(x:Nat × Nat):Nat × Nat:=(if (x.1+x.2) % 2=1 then (x.1 / 2) ^^^ 3988292384 else x.1 / 2,x.2 / 2)
def me:Nat->Nat × Nat->Nat × Nat
 | 0,x=>x
 | k+1,x=>tT (me k x)
theorem EW(x:Nat × Nat):(tT x).1 ^^^ (tT x).2=shN (x.1 ^^^ x.2):=by
 unfold tT shN;simp only;rw [Eg,Bx];split
 ·rw [Nat.xor_assoc,Nat.xor_comm 3988292384,<-Nat.xor_assoc]
 ·rfl
theorem CP(k:Nat)(x:Nat × Nat):(me k x).1 ^^^ (me k x).2=shK k (x.1 ^^^ x.2):=by
 induction k with
 | zero=>rfl
 | succ k ih=>rw [me,EW,ih,zE k 1];rfl
theorem AH(k:Nat)(x:Nat × Nat):(me k x).2=x.2 / 2 ^ k:=by
 induction k with
 | zero=>simp [me]
 | succ k ih=>rw [me];show (me k x).2 / 2=_;rw [ih,Nat.div_div_eq_div_mul,Nat.pow_succ]
theorem wV(v c:Nat)(hc:c<256):(me 8 (v,c)).1=shK 8 (v ^^^ c):=by
 have a:=CP 8 (v,c);have b:=AH 8 (v,c);have d:c / 2 ^ 8=0:=Nat.div_eq_of_lt hc;simp only at a b;rw [b,d,Nat.xor_zero]at a;exact a
theorem xx(k:Nat)(v c:Nat)(a:v<4294967296)(hc:c<256):(me k (v,c)).1<4294967296/\(me k (v,c)).2<256:=by
 induction k with
 | zero=>exact⟨a,hc⟩
 | succ k ih=>
  rw [me];refine⟨?_,?_⟩
  ·unfold tT;simp only;split
   ·exact Nat.xor_lt_two_pow (n:=32) (by omega) (by omega)
   ·omega
  ·show (me k (v,c)).2 / 2<256
   omega
theorem Bu(v:Nat)(h:v<4294967296):4294967295 ^^^ v=4294967295 - v:=by
 apply Nat.eq_of_testBit_eq;intro i;have e:4294967295 - v=2 ^ 32 - (v+1):=by omega
 rw [e,Nat.testBit_two_pow_sub_succ (by omega),Nat.testBit_xor,show (4294967295:Nat)=2 ^ 32 - 1 from rfl,Nat.testBit_two_pow_sub_one];by_cases a:i<32
 ·simp [a]
 ·have:v.testBit i=false:=Nat.testBit_lt_two_pow (Nat.lt_of_lt_of_le (by omega:v<2 ^ 32) (Nat.pow_le_pow_right (by omega) (by omega)));simp [a,this]
end
section
open Go.RowKit
attribute [local go_sem] Go.World.cell?_alloc_some
section
variable {P : Program} {ops : Array Oper} {Q : Exit -> Act -> World -> Prop} {S : World -> Prop} {n : Nat}
theorem rI{i j:Nat}{l e:Oper}{f:Nat}{b:Array Bool}{a:Act}{w:World}(p:ops[i]?=some l)(t:ops[j]?=some e)
  (d:Region.ready .any ops b=[i,j]) (c:(decide (i<n) && decide (j<n))=true) (q:Region.wanted l (yielded ops a.tmps)=true) (r:Region.wanted e (yielded ops a.tmps)=true)
  (s:∀ K:Act->World->Prop,(∀ a' w',S w'->(HeadInv .any ops n (b.setIfInBounds i true)->lS P ops Q S n f (b.setIfInBounds i true) a' w')->K a' w')->l.wp P a w K Q)
  (o:∀ K:Act->World->Prop,(∀ a' w',S w'->(HeadInv .any ops n (b.setIfInBounds j true)->lS P ops Q S n f (b.setIfInBounds j true) a' w')->K a' w')->e.wp P a w K Q):
  HeadInv .any ops n b->lS P ops Q S n (f+1) b a w:=by
 intro m;simp only [Bool.and_eq_true,decide_eq_true_eq]at c;refine⟨fun h=>(by rw [d]at h;cases h),fun k hk=>?_⟩;rw [d]at hk;simp only [List.mem_cons,List.not_mem_nil,or_false]at hk;rcases hk with rfl | rfl
 ·refine⟨c.1,?_⟩;unfold wpOp;simp only [p,q,if_true];exact Or.inl (s _ (fun a' w' hS hh=>⟨hS,hh (m.set (by rw [d];simp) c.1)⟩))
 ·refine⟨c.2,?_⟩;unfold wpOp;simp only [t,r,if_true];exact Or.inl (o _ (fun a' w' hS hh=>⟨hS,hh (m.set (by rw [d];simp) c.2)⟩))
end
theorem sf{w:World}{g:Nat}{x:Nat}(h:w.cell? ⟨g,0,none⟩=some (.int .u8 (x:Int))):(convert 147 9 (.slice (some ⟨g,0,none⟩) 1 1)).run Tryz.prog w= .ok (.string (bs [x])) w:=
 run_convert_bytes_arg w _ _ Tryz.underlying147 Tryz.underlying5 g 0 1 1 _ (by simp) (fun i hi=>by
  have hi':i=0:=by simp at hi;omega
  subst hi';rw [Nat.add_zero,h];simp) _ Tryz.underlying9
theorem kD{w w':World}(h:w.drew.grownBy w' none):w.grownBy w' none:=⟨h.os,h.tape,h.output,h.size,h.block⟩
theorem yC(w:World)(x:Nat):(match (w.alloc (.cells #[.int .u8 (x:Int)] 5)).heap[w.heap.size]? with | some (.cells cs _ _)=>cs[0]? | _=>none)=some (.int .u8 (x:Int)):=by rw [heap_alloc_new];rfl
theorem Fi(l m:List Nat):bs l++bs m=bs (l++m):=by
 apply ByteArray.ext;apply Array.ext';simp [bs,strOfNums_data]
theorem Cm(l m:List Nat)(h:l.length+m.length<=9223372036854775807):Op.stringOp .add (bs l) (bs m)=pure (.string (bs (l++m))):=by
 unfold Op.stringOp;have:=rZ l;have:=rZ m;rw [if_neg (by simp only [IntKind.max,IntKind.signed,IntKind.bits];simp;omega),Fi]
theorem jK(n:Nat):∀ (w:World),n<18446744073709551616->Calls Tryz.prog 66 #[.int .u64 n] w fun e w'=>e= .returned (.string (bs (jZ n)))/\w.grownBy w' none:=by
 induction n using Nat.strongRecOn with
 | ind n ih=>
  intro w hn;have A:=il ih;clear ih;go_enter Tryz.func66,Tryz.ntmps66
  by_cases h:n<128
  ·have C:(n:Int)<128:=by omega
   have hmod:(n:Int) % 256=n:=by omega
   have m:(convert 147 9 (.slice (some ⟨w.heap.size,0,none⟩) 1 1)).run Tryz.prog (w.alloc (.cells #[.int .u8 (n:Int)] 5))= .ok (.string (bs [n])) (w.alloc (.cells #[.int .u8 (n:Int)] 5)):=sf (by simp only [World.cell?,heap_alloc_new];rfl);have p:Hid (jZ n=[n]):=lP h;go_wp2_with fail
   go_ret;exact⟨by rw [p.out];rfl,ir (iu _ _)⟩
  ·have C:¬(n:Int)<128:=by omega
   have p:Hid (jZ n=(n % 128+128)::jZ (n / 128)):=nt h;have s:=il (fun w'=>A.out (n / 128) (by omega) w' (by omega));go_wp2_with fail
   refine iA (fun _=>True) 10 (by kernel_rfl) (by kernel_rfl) trivial ?_;intro hHeld;refine ij 0 ?v0 rfl (by kernel_rfl) (fun _ _ _ h=>h) (by kernel_rfl) ?y0 trivial ?_
   case y0=>(intro u k;go_simp;try rfl)
   simp only [Act.put,List.setIfInBounds_toArray];refine ij 1 ?v1 rfl (by kernel_rfl) (fun _ _ _ h=>h) (by kernel_rfl) ?y1 trivial ?_
   case y1=>(intro u k;go_simp;try rfl)
   simp only [Act.put];refine ij 2 ?v2 rfl (by kernel_rfl) (fun _ _ _ h=>h) (by kernel_rfl) ?y2 trivial ?_
   case y2=>(intro u k;go_simp;try rfl)
   simp only [Act.put];refine ij 3 ?v3 rfl (by kernel_rfl) (fun _ _ _ h=>h) (by kernel_rfl) ?y3 trivial ?_
   case y3=>(intro u k;go_simp;try rfl)
   simp only [Act.put];refine ij 6 ?v6 rfl (by kernel_rfl) (fun _ _ _ h=>h) (by kernel_rfl) ?y6 trivial ?_
   case y6=>(intro u k;go_simp;try rfl)
   simp only [Act.put];refine ij 7 ?v7 rfl (by kernel_rfl) (fun _ _ _ h=>h) (by kernel_rfl) ?y7 trivial ?_
   case y7=>(intro u k;go_simp;try rfl)
   simp only [Act.put];have z:IntKind.u8.wrap (IntKind.u64.wrap (128+(n:Int).tmod 128))=((n % 128+128:Nat):Int):=by
    have B:(n:Int).tmod 128=((n % 128:Nat):Int):=by rw [Int.tmod_eq_emod_of_nonneg (by omega)];omega
    rw [B];simp only [IntKind.wrap,IntKind.signed,IntKind.bits];simp;omega
   have v:IntKind.u64.wrap ((n:Int) / 128)=((n / 128:Nat):Int):=by
    simp only [IntKind.wrap,IntKind.signed,IntKind.bits];simp;omega
   simp only [z,v];have hx:n % 128+128<256:=by omega
   have D:Hid ((jZ (n / 128)).length<=10):=mK (by omega);clear z v;generalize hxx:n % 128+128=x at*;have hcat:=Cm [x] (jZ (n / 128)) (by have:=D.out;simp;omega);refine rI (i:=4) (j:=8) rfl rfl (by kernel_rfl) (by kernel_rfl) (by kernel_rfl) (by kernel_rfl) ?_ ?_
   ·intro E o;have q:=il o;clear o;go_simp;refine q.out _ _ trivial ?_;clear q;try simp only [Act.put,List.setIfInBounds_toArray]
    have m:(convert 147 9 (.slice (some ⟨w.heap.size,0,none⟩) 1 1)).run Tryz.prog (w.alloc (.cells #[.int .u8 (x:Int)] 5)).drew= .ok (.string (bs [x])) (w.alloc (.cells #[.int .u8 (x:Int)] 5)).drew:=sf (by simp only [World.cell?];exact yC w x);refine rI (i:=5) (j:=8) rfl rfl (by kernel_rfl) (by kernel_rfl) (by kernel_rfl) (by kernel_rfl) ?_ ?_
    ·intro t c;have d:=il c;clear c;go_simp;refine d.out _ _ trivial ?_;clear d m;try simp only [Act.put,List.setIfInBounds_toArray]
     refine iw (i:=8) rfl (by kernel_rfl) (by kernel_rfl) (by kernel_rfl) ?_;intro y l;have f:=il l;clear l;go_simp;refine(s.out _).mono ?_;rintro e a ⟨rfl,b⟩;have r:Hid (w.grownBy a none):=ip (ir (iu _ _)) (kD b);refine f.out _ _ trivial ?_;clear f b;try simp only [Act.put,List.setIfInBounds_toArray]
     refine ij 9 ?v9a rfl (by kernel_rfl) (fun _ _ _ h=>h) (by kernel_rfl) ?y9a trivial ?_
     case y9a=>(intro u k;go_simp;try rfl)
     simp only [Act.put,List.setIfInBounds_toArray];refine iI rfl (by kernel_rfl) (by kernel_rfl) (by kernel_rfl) ?_;go_simp;go_wp2_with fail
     go_ret;exact⟨by rw [p.out];rfl,r.out⟩
    ·intro y l;have f:=il l;clear l;go_simp;refine(s.out _).mono ?_;rintro e a ⟨rfl,b⟩;have r:Hid (w.grownBy a none):=ip (ir (iu _ _)) (kD b);have m:(convert 147 9 (.slice (some ⟨w.heap.size,0,none⟩) 1 1)).run Tryz.prog a= .ok (.string (bs [x])) a:=sf (iq (kD b) _ _ (by simp only [World.cell?];exact yC w x));refine f.out _ _ trivial ?_;clear f b;try simp only [Act.put,List.setIfInBounds_toArray]
     refine iw (i:=5) rfl (by kernel_rfl) (by kernel_rfl) (by kernel_rfl) ?_;intro t c;have d:=il c;clear c;go_simp;refine d.out _ _ trivial ?_;clear d m;try simp only [Act.put,List.setIfInBounds_toArray]
     refine ij 9 ?v9b rfl (by kernel_rfl) (fun _ _ _ h=>h) (by kernel_rfl) ?y9b trivial ?_
     case y9b=>(intro u k;go_simp;try rfl)
     simp only [Act.put,List.setIfInBounds_toArray];refine iI rfl (by kernel_rfl) (by kernel_rfl) (by kernel_rfl) ?_;go_simp;go_wp2_with fail
     go_ret;exact⟨by rw [p.out];rfl,r.out⟩
   ·intro y l;have f:=il l;clear l;go_simp;refine(s.out _).mono ?_;rintro e a ⟨rfl,b⟩;have r:Hid (w.grownBy a none):=kD b;have m:(convert 147 9 (.slice (some ⟨a.heap.size,0,none⟩) 1 1)).run Tryz.prog (a.alloc (.cells #[.int .u8 (x:Int)] 5))= .ok (.string (bs [x])) (a.alloc (.cells #[.int .u8 (x:Int)] 5)):=sf (by simp only [World.cell?];exact yC a x);refine f.out _ _ trivial ?_;clear f b;try simp only [Act.put,List.setIfInBounds_toArray]
    refine iw (i:=4) rfl (by kernel_rfl) (by kernel_rfl) (by kernel_rfl) ?_;intro E o;have q:=il o;clear o;go_simp;refine q.out _ _ trivial ?_;clear q;try simp only [Act.put,List.setIfInBounds_toArray]
    refine iw (i:=5) rfl (by kernel_rfl) (by kernel_rfl) (by kernel_rfl) ?_;intro t c;have d:=il c;clear c;go_simp;refine d.out _ _ trivial ?_;clear d m;try simp only [Act.put,List.setIfInBounds_toArray]
    refine ij 9 ?v9c rfl (by kernel_rfl) (fun _ _ _ h=>h) (by kernel_rfl) ?y9c trivial ?_
    case y9c=>(intro u k;go_simp;try rfl)
    simp only [Act.put,List.setIfInBounds_toArray];refine iI rfl (by kernel_rfl) (by kernel_rfl) (by kernel_rfl) ?_;go_simp;go_wp2_with fail
    go_ret;exact⟨by rw [p.out];rfl,ir r.out⟩
theorem D8(a b:Nat)(ha:a<4294967296)(hb:b<4294967296):bits .xor .i64 (a:Int) (b:Int)=((a ^^^ b:Nat):Int):=by
 have hx:a ^^^ b<2 ^ 32:=Nat.xor_lt_two_pow (by omega) (by omega);have c:(BitVec.ofInt 64 (a:Int)).toNat=a:=by
  rw [BitVec.ofInt_natCast,BitVec.toNat_ofNat];exact Nat.mod_eq_of_lt (by omega)
 have d:(BitVec.ofInt 64 (b:Int)).toNat=b:=by
  rw [BitVec.ofInt_natCast,BitVec.toNat_ofNat];exact Nat.mod_eq_of_lt (by omega)
 show IntKind.i64.wrap ((BitVec.ofInt 64 (a:Int) ^^^ BitVec.ofInt 64 (b:Int)).toNat:Int)=_
 rw [BitVec.toNat_xor,c,d];simp only [IntKind.wrap,IntKind.signed,IntKind.bits];simp;omega
theorem AK(n:Int)(w:World)(h0: -9223372036854775808<=n)(h1:n<=9223372036854775807):Calls Tryz.prog 67 #[.int .i64 n] w fun e w'=>e= .returned (.int .u64 (zig n:Nat))/\w'=w:=by
 go_enter Tryz.func67,Tryz.ntmps67
 by_cases h:n<0
 ·have a:Hid (((zig n:Nat):Int)= -2*n - 1):=by unfold Hid zig;rw [if_pos h];omega
  go_wp2_with fail
  go_ret;exact⟨by rw [a.out,show -2*n - 1=2* -(n+1)+1 by omega];rfl,rfl⟩
 ·have a:Hid (((zig n:Nat):Int)=2*n):=by unfold Hid zig;rw [if_neg h];omega
  go_wp2_with fail
  go_ret;exact⟨by rw [a.out];rfl,rfl⟩
theorem CJ(s:ByteArray)(w:World)(hs:s.size<=9223372036854775806):Calls Tryz.prog 69 #[.string s] w fun e w'=>e= .returned (.int .i64 (lq (byt s):Nat))/\w'=w:=by
 have q0:(s.size:Int)<=9223372036854775806:=by omega
 have q:Hid ((byt s).length=s.size):=iT s;have HB256:Hid (∀ b∈byt s,b<256):=fun b hb=>vB s b hb
 have r:Hid (rQ 4294967295 ((byt s).take 0)=4294967295):=rfl;go_enter Tryz.func69,Tryz.ntmps69
 go_wp2_with fail
 go_loopw [3,4] (fun vv iv w'=>∃ (i v:Nat),i<=s.size/\v<4294967296/\iv= .int .i64 i/\vv= .int .i64 v/\w'=w/\Hid (rQ 4294967295 ((byt s).take i)=v)) (fun _ iv _=>s.size - (intOf iv).toNat)
 case atStart=>exact⟨0,4294967295,Nat.zero_le _,by omega,rfl,rfl,rfl,r⟩
 case round=>
  clear r;obtain⟨i,v,hi,l,rfl,rfl,h,p⟩:=hrel;subst h;by_cases C:i<s.size
  ·have t0:(0:Int)<=(i:Int):=by omega
   have A:(i:Int)<s.size:=by omega
   obtain⟨c,hc⟩:∃ c,c=s[i].toNat:=⟨_,rfl⟩;have j:c<256:=by rw [hc];exact UInt8.toNat_lt _
   have E:Hid (rQ 4294967295 ((byt s).take (i+1))=(me 8 (v,c)).1):=by
    unfold Hid;have z:i<(byt s).length:=by rw [q.out];exact C
    rw [List.take_succ_eq_append_getElem z,ry,p.out,wV v c j];have:(byt s)[i]=c:=by rw [hc];simp [byt];rfl
    simp [rQ,this]
   have y:s[i].toNat=c:=hc.symm;clear hc;go_upto_region 6 with fail
   clear y;go_wp2_with fail
   go_loopw [3,5,6] (fun vv cv kv w'=>∃ k:Nat,k<=8/\kv= .int .i64 k/\vv= .int .i64 ((me k (v,c)).1:Nat)/\cv= .int .i64 ((me k (v,c)).2:Nat)/\w'=wr) (fun _ _ kv _=>8 - (intOf kv).toNat)
   case atStart=>exact⟨0,Nat.zero_le _,rfl,rfl,rfl,rfl⟩
   case round=>
    obtain⟨k,hk,rfl,rfl,rfl,h⟩:=hrel;subst h;by_cases hk8:k<8
    ·have u:(k:Int)<8:=by omega
     obtain⟨m,F⟩:=xx k v c l j;have f:Hid (me (k+1) (v,c)=tT (me k (v,c))):=rfl;generalize me k (v,c)=x at*;obtain⟨x1,x2⟩:=x;simp only at m F ⊢;by_cases d:(x1+x2) % 2=1
     ·have D:Int.tmod ((x1:Int)+(x2:Int)) 2=1:=by rw [Int.tmod_eq_emod_of_nonneg (by omega)];omega
      have hxr:bits .xor .i64 ((x1:Int) / 2) 3988292384=(((x1 / 2) ^^^ 3988292384:Nat):Int):=by
       have:=D8 (x1 / 2) 3988292384 (by omega) (by omega);rw [<-this];congr 1<;>omega
      have a:Hid (tT (x1,x2)=((x1 / 2) ^^^ 3988292384,x2 / 2)):=by unfold Hid tT;simp only;rw [if_pos d]
      clear d;go_wp2_with fail
      go_roundw
      case rel=>exact⟨k+1,by omega,by go_num,by rw [f.out,a.out],by rw [f.out,a.out];simp,by first | rfl | trivial⟩
      case measure=>simp [intOf];omega
     ·have D:Int.tmod ((x1:Int)+(x2:Int)) 2=0:=by rw [Int.tmod_eq_emod_of_nonneg (by omega)];omega
      have a:Hid (tT (x1,x2)=(x1 / 2,x2 / 2)):=by unfold Hid tT;simp only;rw [if_neg d]
      clear d;go_wp2_with fail
      go_roundw
      case rel=>exact⟨k+1,by omega,by go_num,by rw [f.out,a.out];simp,by rw [f.out,a.out];simp,by first | rfl | trivial⟩
      case measure=>simp [intOf];omega
    ·have u:(8:Int)<=(k:Int):=by omega
     have B:k=8:=by omega
     subst B;have m:=(xx 8 v c l j).1;go_wp2_with fail
     go_roundw
     case rel=>exact⟨i+1,(me 8 (v,c)).1,by omega,m,by go_num,by first | rfl | trivial,by first | rfl | trivial,E⟩
     case measure=>simp [intOf];omega
  ·have A:(s.size:Int)<=(i:Int):=by omega
   have o:i=s.size:=by omega
   have t:Hid (((lq (byt s):Nat):Int)=4294967295 - (v:Int)):=by
    have n:=p.out;rw [o,List.take_of_length_le (by rw [q.out];omega)]at n;unfold Hid lq;rw [n,Bu v l];omega
   clear o;go_wp2_with fail
   go_ret;exact⟨by rw [t.out];rfl,rfl⟩
def RdG(w:World)(b:Nat)(s:ByteArray)(l:List Nat)(bad:Bool):Prop:=
 ∃ k:Nat,w.heap[b]?=some (.cells #[.string s,.int .i64 (k:Int),.bool bad] 180 (0,0))/\l=(byt s).drop k/\k<=s.size+3
theorem RdG.step{w w':World}{b:Nat}{s:ByteArray}{l:List Nat}{bad:Bool}(h:RdG w b s l bad)(e:w'.heap[b]?=w.heap[b]?):RdG w' b s l bad:=by
 obtain⟨k,c,d,a⟩:=h;exact⟨k,by rw [e];exact c,d,a⟩
theorem RdG.bad{w:World}{b:Nat}{s:ByteArray}{l:List Nat}{bad:Bool}(h:RdG w b s l bad):w.cell? ⟨b,2,none⟩=some (.bool bad):=by
 obtain⟨k,a,h2,h3⟩:=h;simp [World.cell?,a]
theorem sO{w:World}{b:Nat}{x0 x1 x2:Value}{t:TypeId}(h:w.heap[b]?=some (.cells #[x0,x1,x2] t (0,0))):w.cell? ⟨b,0,none⟩=some x0/\w.cell? ⟨b,1,none⟩=some x1/\w.cell? ⟨b,2,none⟩=some x2/\w.frozen? ⟨b,1,none⟩=false/\w.frozen? ⟨b,2,none⟩=false:=by
 simp [World.cell?,World.frozen?,h]
theorem jO(w:World)(b o:Nat)(v:Value):w.grownBy (w.setCell ⟨b,o,none⟩ v) (some b):=
 ⟨rfl,rfl,rfl,by simp,fun k _ hk=>Below.heap_setCell _ _ _ _ (fun e=>hk (by simp only at e;rw [e]))⟩
theorem E8(w:World)(b:Nat)(s:ByteArray)(l:List Nat)(bad:Bool)(h:RdG w b s l bad)(hs:s.size<=9223372036854775000):
  Calls Tryz.prog 99 #[pt b] w fun e w'=>e= .returned (.int .u64 ((mp 10 1 0 l).1:Nat))/\RdG w' b s (mp 10 1 0 l).2.1 (bad || (mp 10 1 0 l).2.2)/\w.grownBy w' (some b):=by
 have G:=il h;have C:pt b= .pointer (some ⟨b,0,none⟩):=rfl;rw [C];clear h C;go_enter Tryz.func99,Tryz.ntmps99
 go_wp2_with fail
 go_loopw [3,4,5] (fun vv uv kv w'=>∃ (k v u:Nat) (o:List Nat),k<=10/\v<18446744073709551616/\u<18446744073709551616/\kv= .int .i64 k/\vv= .int .u64 v/\uv= .int .u64 u/\Hid (RdG w' b s o bad/\mp (10 - k) u v o=mp 10 1 0 l/\w.grownBy w' (some b))) (fun _ _ kv _=>10 - (intOf kv).toNat)
 case atStart=>exact⟨0,0,1,l,by omega,by omega,by omega,rfl,rfl,rfl,⟨G.out,rfl,iu _ _⟩⟩
 case round=>
  clear G;obtain⟨k,v,u,o,hk,hv,hu,rfl,rfl,rfl,m⟩:=hrel;obtain⟨f,B⟩:∃ f,f=wr:=⟨_,rfl⟩;rw [<-B]at m ⊢;clear B;obtain⟨a,x,r,E⟩:=m.out.1;obtain⟨c0,c1,c2,f1,f2⟩:=sO x;have HB:=il x;clear x;have qa:(a:Int)<=9223372036854775003:=by omega
  by_cases hk10:k<10
  ·have L:(k:Int)<10:=by omega
   obtain⟨j,D⟩:∃ j,10 - k=j+1:=⟨9 - k,by omega⟩;by_cases M:a<s.size
   ·have K:(a:Int)<s.size:=by omega
    have t2:(0:Int)<=(a:Int):=by omega
    have p:Hid (o=s[a].toNat::(byt s).drop (a+1)):=by
     unfold Hid;rw [r];have J:a<(byt s).length:=by rw [iT];exact M
     rw [List.drop_eq_getElem_cons J];congr 1
     simp [byt];rfl
    obtain⟨c,hc⟩:∃ c,s[a].toNat=c:=⟨_,rfl⟩;have hc256:c<256:=by rw [<-hc];exact UInt8.toNat_lt _
    rw [hc]at p;have hm:Int.tmod (c:Int) 128=((c % 128:Nat):Int):=by rw [Int.tmod_eq_emod_of_nonneg (by omega)];omega
    have F:Hid (∀ w2,ju w2 f->RdG (w2.setCell ⟨b,1,none⟩ (.int .i64 ((a:Int)+1))) b s ((byt s).drop (a+1)) bad/\w.grownBy (w2.setCell ⟨b,1,none⟩ (.int .i64 ((a:Int)+1))) (some b)):=fun w2 hl2=>by
     refine⟨⟨a+1,?_,rfl,by omega⟩,ip (ji m.out.2.2 hl2) (jO _ _ _ _)⟩;rw [heap_setCell_same w2 b 1 _ _ _ (by rw [hl2.1];exact HB.out)];rfl
    have q:IntKind.u64.wrap ((v:Int)+IntKind.u64.wrap ((u:Int)*((c:Int) % 128)))=(((v+u*(c % 128)) % 18446744073709551616:Nat):Int):=by
     have i:(u:Int)*((c:Int) % 128)=((u*(c % 128):Nat):Int):=by push_cast;rfl
     rw [i,IntKind.wrap_u64,IntKind.wrap_u64];omega
    have y:IntKind.u64.wrap ((u:Int)*128)=((u*128 % 18446744073709551616:Nat):Int):=by
     rw [IntKind.wrap_u64];omega
    have d:=il m.out.2.1;rw [D,p.out,mp]at d;have I:(v+u*(c % 128)) % 18446744073709551616<18446744073709551616:=Nat.mod_lt _ (by omega);have N:u*128 % 18446744073709551616<18446744073709551616:=Nat.mod_lt _ (by omega);generalize (v+u*(c % 128)) % 18446744073709551616=V at*;generalize u*128 % 18446744073709551616=U at*;by_cases A:c<128
    ·rw [if_pos A]at d;have O:(c:Int)<128:=by omega
     have z:=il q;clear q y;go_upto_region 6 with fail
     go_quiet (fail)
     go_wp2_with fail
     go_quiet (fail)
     go_wp2_with fail
     go_ret;obtain⟨i,n⟩:=F.out _ (lj f _);refine⟨?_,?_,n⟩
     ·rw [<-d.out];simp only;rw [<-z.out];rfl
     ·rw [<-d.out];simp only [Bool.or_false];exact i
    ·rw [if_neg A]at d;have O:(128:Int)<=(c:Int):=by omega
     have z:=il q;have H:=il y;clear q y;go_upto_region 6 with fail
     go_quiet (fail)
     go_wp2_with fail
     go_quiet (fail)
     go_wp2_with fail
     go_roundw
     case rel=>
      obtain⟨i,n⟩:=F.out _ (lj f _);exact⟨k+1,V,U,(byt s).drop (a+1),by omega,I,N,by go_num,by rw [<-z.out],by rw [<-H.out],⟨i,by rw [show 10 - (k+1)=j by omega];exact d.out,n⟩⟩
     case measure=>simp [intOf];omega
   ·have K:(s.size:Int)<=(a:Int):=by omega
    have p:Hid (o=[]):=by unfold Hid;rw [r];exact List.drop_eq_nil_of_le (by rw [iT];omega)
    have t:Hid (∀ w2,ju w2 f->RdG (w2.setCell ⟨b,2,none⟩ (.bool true)) b s [] true/\w.grownBy (w2.setCell ⟨b,2,none⟩ (.bool true)) (some b)):=fun w2 hl2=>by
     refine⟨⟨a,?_,by rw [<-r,p.out],E⟩,ip (ji m.out.2.2 hl2) (jO _ _ _ _)⟩;rw [heap_setCell_same w2 b 2 _ _ _ (by rw [hl2.1];exact HB.out)];rfl
    have d:=il m.out.2.1;rw [D,p.out,mp]at d;go_upto_region 6 with fail
    go_quiet (fail)
    go_wp2_with fail
    go_ret;obtain⟨i,n⟩:=t.out _ (lj f _);refine⟨?_,?_,n⟩
    ·rw [<-d.out];rfl
    ·rw [<-d.out];simp only [Bool.or_true];exact i
  ·have L:(10:Int)<=(k:Int):=by omega
   have t:Hid (RdG (f.setCell ⟨b,2,none⟩ (.bool true)) b s o true/\w.grownBy (f.setCell ⟨b,2,none⟩ (.bool true)) (some b)):=by
    refine⟨⟨a,?_,r,E⟩,ip m.out.2.2 (jO _ _ _ _)⟩;rw [heap_setCell_same f b 2 _ _ _ HB.out];rfl
   have d:=il m.out.2.1;rw [show 10 - k=0 by omega,mp]at d;go_wp2_with fail
   go_ret;obtain⟨i,n⟩:=t.out;refine⟨?_,?_,n⟩
   ·rw [<-d.out];rfl
   ·rw [<-d.out];simp only [Bool.or_true];exact i
theorem nl(w:World)(b:Nat)(s:ByteArray)(l:List Nat)(bad:Bool)(c:Nat)(hmost:c<=1000)(h:RdG w b s l bad)(C:s.size<=9223372036854775000):
  Calls Tryz.prog 98 #[pt b,.int .i64 (c:Int)] w fun e w'=>e= .returned (.int .i64 ((iQ c l).1:Nat))/\RdG w' b s (iQ c l).2.1 (bad || (iQ c l).2.2)/\w.grownBy w' (some b):=by
 have j:=il (E8 w b s l bad h C);have o:pt b= .pointer (some ⟨b,0,none⟩):=rfl;rw [o]at j ⊢;clear h o;have y:=rX 10 1 0 l;go_enter Tryz.func98,Tryz.ntmps98
 go_wp2_with fail
 refine j.out.mono ?_;clear j;rintro e f ⟨rfl,k,p⟩;have m:=il k;have t:=il p;obtain⟨a,i,q,D⟩:=k;obtain⟨c0,c1,B,f1,f2⟩:=sO i;have HB:=il i;clear i p;have qm:(c:Int)<=1000:=by omega
 have d:Hid (iQ c l=if c<(mp 10 1 0 l).1 then (0,(mp 10 1 0 l).2.1,true) else mp 10 1 0 l):=rfl;generalize mp 10 1 0 l=X at*;obtain⟨v,r,bd⟩:=X;simp only at y q HB m d B ⊢;by_cases n:c<v
 ·have x:(c:Int)<(v:Int):=by omega
  rw [if_pos n]at d;have z:Hid (RdG (f.setCell ⟨b,2,none⟩ (.bool true)) b s r true/\w.grownBy (f.setCell ⟨b,2,none⟩ (.bool true)) (some b)):=by
   refine⟨⟨a,?_,q,D⟩,ip t.out (jO _ _ _ _)⟩;rw [heap_setCell_same f b 2 _ _ _ HB.out];rfl
  go_wp2_with fail
  go_ret;rw [d.out];obtain⟨A,u⟩:=z.out;exact⟨rfl,by simp only [Bool.or_true];exact A,u⟩
 ·have x:(v:Int)<=(c:Int):=by omega
  rw [if_neg n]at d;go_wp2_with fail
  go_ret;rw [d.out];exact⟨rfl,m.out,t.out⟩
end
section
open Go.RowKit
structure GuS(W w:World)(b n5 n2 L:Nat)(s:ByteArray)(l:List Nat)(bad:Bool)(tv sv:Value)(v:Int × Int × Int)(p:List (List Ins))(sch:List Int):Prop where
 rd:RdG w b s l bad
 art:w.heap[n5]?=some (.cells #[tv,sv,.int .i64 v.1,.int .i64 v.2.1,.int .i64 v.2.2] 56 (0,0))
 res:w.heap[n2]?=some (.cells #[.slice none 0 0,.slice none 0 0,.int .i64 0,.int .i64 0,.int .i64 0] 56 (0,0))
 thr:ThrAt L w.heap.size w tv p
 row:w.ownsRow L 3 1 sv sch.length (iM sch)
 base:W.grownBy w none
 ord:W.heap.size<=n2/\n2<b/\b<n5/\L=n5+1
theorem ThrAt.same{L B:Nat}{w w':World}{tv:Value}{p:List (List Ins)}(h:ThrAt L B w tv p)(b:∀ k cs t,w.heap[k]?=some (.cells cs t (0,0))->t≠3->L<=k->w'.heap[k]?=w.heap[k]?):ThrAt L B w' tv p:=by
 obtain⟨rows,d,i,f,l⟩:=h;refine⟨rows,iN d (fun g e=>?_),i,fun j hj=>?_,l⟩
 ·rcases d.2 with ⟨a,_⟩ | ⟨g',cap,cur,hv,hlo,hh,_⟩
  ·rw [a]at e;cases e
  ·rw [hv]at e;simp only [Value.ownBlock,Option.some.injEq]at e;subst e;exact b _ _ _ hh (by decide) hlo
 ·obtain⟨rv,a,c,m⟩:=f j hj;refine⟨rv,a,iN c (fun g e=>?_),m⟩;rcases c.2 with ⟨e4,_⟩ | ⟨g',cap,cur,hv,hlo,hh,_⟩
  ·rw [e4]at e;cases e
  ·rw [hv]at e;simp only [Value.ownBlock,Option.some.injEq]at e;subst e;exact b _ _ _ hh (by decide) hlo
section
variable {W w w' w6 : World} {b n5 n2 L : Nat} {s : ByteArray} {l l' : List Nat} {bad bad' : Bool} {tv sv : Value} {v : Int × Int × Int} {p : List (List Ins)} {sch : List Int}
theorem GuS.lt(h:GuS W w b n5 n2 L s l bad tv sv v p sch):b<w.heap.size/\n5<w.heap.size/\n2<w.heap.size:=by
 obtain⟨k,a,_⟩:=h.rd;exact⟨(Array.getElem?_eq_some_iff.1 a).1,(Array.getElem?_eq_some_iff.1 h.art).1,(Array.getElem?_eq_some_iff.1 h.res).1⟩
theorem GuS.acell(h:GuS W w b n5 n2 L s l bad tv sv v p sch):w.cell? ⟨n5,0,none⟩=some tv/\w.cell? ⟨n5,1,none⟩=some sv/\w.cell? ⟨n5,2,none⟩=some (.int .i64 v.1)/\w.cell? ⟨n5,3,none⟩=some (.int .i64 v.2.1)/\w.cell? ⟨n5,4,none⟩=some (.int .i64 v.2.2)/\∀ o,w.frozen? ⟨n5,o,none⟩=false:=by
 simp [World.cell?,World.frozen?,h.art]
theorem GuS.rcell(h:GuS W w b n5 n2 L s l bad tv sv v p sch):∀ o,w.frozen? ⟨n2,o,none⟩=false:=by
 simp [World.frozen?,h.res]
theorem GuS.call(h:GuS W w b n5 n2 L s l bad tv sv v p sch)(c:RdG w' b s l' bad')(a:w.grownBy w' (some b)):GuS W w' b n5 n2 L s l' bad' tv sv v p sch:=by
 obtain⟨o1,o2,o3,o4⟩:=h.ord;refine⟨c,?_,?_,?_,?_,?_,h.ord⟩
 ·rw [a.block n5 h.lt.2.1 (by simp only [ne_eq,Option.some.injEq];omega)];exact h.art
 ·rw [a.block n2 h.lt.2.2 (by simp only [ne_eq,Option.some.injEq];omega)];exact h.res
 ·exact(h.thr.step a (fun q e=>by simp only [Option.some.injEq]at e;omega)).mono a.size
 ·exact kA h.row a (fun k e e2=>by simp only [Option.some.injEq]at e;have:=iB h.row k e2;omega)
 ·exact⟨a.os.trans h.base.os,a.tape.trans h.base.tape,a.output.trans h.base.output,Nat.le_trans h.base.size a.size,fun k hk _=>by
   rw [a.block k (Nat.lt_of_lt_of_le hk h.base.size) (fun e=>by simp only [Option.some.injEq]at e;omega)];exact h.base.block k hk (by simp)⟩
theorem GuS.like(h:GuS W w b n5 n2 L s l bad tv sv v p sch)(hl:ju w' w):GuS W w' b n5 n2 L s l bad tv sv v p sch:=
 h.call (h.rd.step (by rw [hl.1])) (iL hl)
theorem GuS.setA(h:GuS W w b n5 n2 L s l bad tv sv v p sch)(j:Nat)(x:Int)(a:Int × Int × Int)(d:(j=2/\a=(x,v.2.1,v.2.2))\/(j=3/\a=(v.1,x,v.2.2))\/(j=4/\a=(v.1,v.2.1,x))):GuS W (w.setCell ⟨n5,j,none⟩ (.int .i64 x)) b n5 n2 L s l bad tv sv a p sch:=by
 obtain⟨o1,o2,o3,o4⟩:=h.ord;have c:=jO w n5 j (.int .i64 x);refine⟨h.rd.step (Below.heap_setCell _ _ _ _ (by simp only;omega)),?_,?_,?_,?_,?_,h.ord⟩
 ·rw [heap_setCell_same w n5 j _ _ _ h.art];rcases d with ⟨rfl,rfl⟩ | ⟨rfl,rfl⟩ | ⟨rfl,rfl⟩<;>rfl
 ·rw [Below.heap_setCell _ _ _ _ (by simp only;omega)];exact h.res
 ·exact(h.thr.step c (fun q e=>by simp only [Option.some.injEq]at e;omega)).mono c.size
 ·exact kA h.row c (fun k e e2=>by simp only [Option.some.injEq]at e;have:=iB h.row k e2;omega)
 ·exact iG h.base (by omega)
theorem GuS.push(h:GuS W w b n5 n2 L s l bad tv sv v p sch){t:Int}{o:Obj}{g6 c6 N:Nat}(y:N=sch.length)
  (j:w6.ownsRow L 3 1 (.slice (some ⟨g6,0,none⟩) (N+1) c6) (N+1) (iM sch++[.int .i64 t]))
  (key:(sv.ownBlock=some g6/\(w.alloc o).grownBy w6 (some g6))\/(g6=w.heap.size+1/\(w.alloc o).grownBy w6 none)):
  (w6.cell? ⟨n5,1,none⟩=some sv/\w6.frozen? ⟨n5,1,none⟩=false)/\GuS W (w6.setCell ⟨n5,1,none⟩ (.slice (some ⟨g6,0,none⟩) (N+1) c6)) b n5 n2 L s l bad tv (.slice (some ⟨g6,0,none⟩) (N+1) c6) v p (sch++[t]):=by
 subst y;obtain⟨o1,o2,o3,o4⟩:=h.ord;have hL6:L<=g6:=iB j g6 rfl;have m:w.heap.size<=w6.heap.size:=by
  rcases key with ⟨_,hg⟩ | ⟨_,hg⟩<;>(have:=hg.size;simp at this;omega)
 have c:∀ k,k<w.heap.size->k≠g6->w6.heap[k]?=w.heap[k]?:=fun k hk hne=>by
  rcases key with ⟨_,hg⟩ | ⟨_,hg⟩
  ·rw [hg.block k (by simp;omega) (by simpa using hne),Below.heap_alloc _ _ _ hk]
  ·rw [hg.block k (by simp;omega) (by simp),Below.heap_alloc _ _ _ hk]
 have f:w6.heap[n5]?=some (.cells #[tv,sv,.int .i64 v.1,.int .i64 v.2.1,.int .i64 v.2.2] 56 (0,0)):=by rw [c n5 h.lt.2.1 (by omega)];exact h.art
 have r:W.grownBy w6 none:=by
  rcases key with ⟨_,hg⟩ | ⟨_,hg⟩
  ·exact⟨hg.os.trans h.base.os,hg.tape.trans h.base.tape,hg.output.trans h.base.output,Nat.le_trans h.base.size m,fun k hk _=>by
    rw [c k (Nat.lt_of_lt_of_le hk h.base.size) (by omega)];exact h.base.block k hk (by simp)⟩
  ·exact ip h.base (ip (ir (iu _ _)) hg)
 have x:ThrAt L w6.heap.size w6 tv p:=by
  refine(h.thr.same (fun k cs ty hk hty hlo=>c k (Array.getElem?_eq_some_iff.1 hk).1 (fun e=>?_))).mono m;subst e;rcases key with ⟨e,hg⟩ | ⟨e,hg⟩
  ·rcases h.row.2 with ⟨e4,_⟩ | ⟨g',cap,cur,hv,_,hh,_⟩
   ·rw [e4]at e;cases e
   ·rw [hv]at e;simp only [Value.ownBlock,Option.some.injEq]at e;subst e;rw [hh]at hk;simp only [Option.some.injEq,Obj.cells.injEq]at hk;exact hty hk.2.1.symm
  ·have:=(Array.getElem?_eq_some_iff.1 hk).1;omega
 have i:=jO w6 n5 1 (.slice (some ⟨g6,0,none⟩) (sch.length+1) c6);refine⟨⟨by simp [World.cell?,f],by simp [World.frozen?,f]⟩,⟨?_,?_,?_,?_,?_,?_,h.ord⟩⟩
 ·refine(h.rd.step (c b h.lt.1 (by omega))).step (Below.heap_setCell _ _ _ _ (by simp only;omega))
 ·rw [heap_setCell_same w6 n5 1 _ _ _ f];rfl
 ·rw [Below.heap_setCell _ _ _ _ (by simp only;omega),c n2 h.lt.2.2 (by omega)];exact h.res
 ·exact(x.step i (fun q e=>by simp only [Option.some.injEq]at e;omega)).mono i.size
 ·have n:=kA j i (fun k e d=>by simp only [Option.some.injEq]at e;simp only [Value.ownBlock,Option.some.injEq]at d;omega);have u:(sch++[t]).length=sch.length+1:=by simp
  have d:iM (sch++[t])=iM sch++[.int .i64 t]:=by simp [iM]
  rw [u,d];exact n
 ·exact iG r (by omega)
end
end
end Go.Proofs.YtklenjmfalljgabGreatDoor
