/- The texts Wqa Wqb Wqc Rga Rgb Rgc. -/
import Derived.Test.YtklenjmfalljgabGreatDoorM07
import Derived.Test.YtklenjmfalljgabGreatDoorM18
import Derived.Lib.ConvBytes
namespace Go.Proofs.YtklenjmfalljgabGreatDoor
set_option maxRecDepth 100000
set_option maxHeartbeats 8000000
section
theorem ql(l:List Nat):∀ (a d x:Nat) (r:List Nat),(∀ b∈l,b<256)->rdN a d l=some (x,r)->∃ n,l=numB n++r/\x=d+n*2 ^ a/\(0<n\/a=0):=by
 induction l with
 | nil=>intro a d x r _ h;cases h
 | cons b l ih=>
  intro a d x r i h;unfold rdN at h;split at h
  ·rename_i h1
   split at h
   ·rename_i h2
    split at h
    ·rename_i h3
     simp only [Option.some.injEq,Prod.mk.injEq]at h;obtain⟨rfl,rfl⟩:=h;have e:b % 128=b:=Nat.mod_eq_of_lt h2;exact⟨b,by rw [jO h2];rfl,by rw [e],h3⟩
    ·cases h
   ·rename_i h2
    obtain⟨n,j,k,f⟩:=ih _ _ _ _ (fun c hc=>i c (by simp [hc])) h;have hb:=i b (by simp);have hn:0<n:=by rcases f with f | f<;>omega
    refine⟨b % 128+128*n,?_,?_,Or.inl (by omega)⟩
    ·rw [kG (by omega)];have m:(b % 128+128*n) % 128+128=b:=by omega
     have o:(b % 128+128*n) / 128=n:=by omega
     rw [m,o,j];rfl
    ·rw [k,Nat.pow_add,Nat.add_mul,Nat.add_assoc];congr 2
     rw [Nat.mul_comm 128 n,Nat.mul_assoc,Nat.mul_comm 128]
  ·cases h
theorem je{l r:List Nat}{x:Int}(d:∀ b∈l,b<256)(h:rdWhole l=some (x,r)):l=wInt x++r:=by
 unfold rdWhole at h;split at h
 ·rename_i n r' e
  split at h
  ·simp only [Option.some.injEq,Prod.mk.injEq]at h;obtain⟨rfl,rfl⟩:=h;obtain⟨m,c,a,_⟩:=ql l _ _ _ _ d e;simp at a;subst a;unfold wInt;simpa using c
  ·cases h
 ·cases h
theorem Bp(n:Nat):zig (zag n)=n:=by
 unfold zig zag;split<;>split<;>omega
theorem oX{l r:List Nat}{x:Int}(d:∀ b∈l,b<256)(h:rdSigned l=some (x,r)):l=numB (zig x)++r:=by
 unfold rdSigned at h;split at h
 ·rename_i n r' e
  simp only [Option.some.injEq,Prod.mk.injEq]at h;obtain⟨rfl,rfl⟩:=h;obtain⟨m,c,a,_⟩:=ql l _ _ _ _ d e;simp at a;subst a;rw [Bp];exact c
 ·cases h
theorem ku{b:Int}{l r:List Nat}{x:Int}(a:∀ b∈l,b<256)(h:rdMost b l=some (x,r)):l=wInt x++r/\x<=b/\0<=x:=by
 unfold rdMost at h;split at h
 ·rename_i n r' e
  split at h
  ·rename_i hb
   simp only [Option.some.injEq,Prod.mk.injEq]at h;obtain⟨rfl,rfl⟩:=h;refine⟨je a e,hb,?_⟩;unfold rdWhole at e;split at e
   ·split at e
    ·simp only [Option.some.injEq,Prod.mk.injEq]at e;omega
    ·cases e
   ·cases e
  ·cases h
 ·cases h
theorem sN{l r:List Nat}{x:Ins}(f:∀ b∈l,b<256)(h:rdIns l=some (x,r)):l=insB x++r:=by
 unfold rdIns at h;split at h
 ·cases h
 ·rename_i o l1 e1
  have i:=je f e1;split at h
  ·cases h
  ·rename_i a l2 e2
   have d:∀ b∈l1,b<256:=fun b hb=>f b (by rw [i];simp [hb])
   have j:=je d e2;split at h
   ·cases h
   ·rename_i c l3 e3
    have e:∀ b∈l2,b<256:=fun b hb=>d b (by rw [j];simp [hb])
    have k:=je e e3;split at h
    ·cases h
    ·rename_i n l4 e4
     have m:∀ b∈l3,b<256:=fun b hb=>e b (by rw [k];simp [hb])
     have p:=oX m e4;simp only [Option.some.injEq,Prod.mk.injEq]at h;obtain⟨rfl,rfl⟩:=h;unfold insB;rw [i,j,k,p];simp
theorem mP{α:Type}{P:List Nat->Option (α × List Nat)}{W:α->List Nat}(d:∀ {l r:List Nat} {x:α},(∀ b∈l,b<256)->P l=some (x,r)->l=W x++r)(k:Nat):
  ∀ {l r:List Nat} {xs:List α},(∀ b∈l,b<256)->rdMany P k l=some (xs,r)->l=xs.flatMap W++r/\xs.length=k:=by
 induction k with
 | zero=>
  intro l r xs a h;simp only [rdMany,Option.some.injEq,Prod.mk.injEq]at h;obtain⟨rfl,rfl⟩:=h;exact⟨rfl,rfl⟩
 | succ k ih=>
  intro l r xs a h;unfold rdMany at h;split at h
  ·cases h
  ·rename_i x r1 e1
   have c:=d a e1;split at h
   ·cases h
   ·rename_i ys r2 e2
    obtain⟨e,f⟩:=ih (fun b hb=>a b (by rw [c];simp [hb])) e2;simp only [Option.some.injEq,Prod.mk.injEq]at h;obtain⟨rfl,rfl⟩:=h;exact⟨by rw [c,e];simp,by simp [f]⟩
theorem oY{l r:List Nat}{x:List Ins}(a:∀ b∈l,b<256)(h:rdThread l=some (x,r)):l=codeB x++r:=by
 unfold rdThread at h;split at h
 ·cases h
 ·rename_i k r1 e1
  obtain⟨c,_,q0⟩:=ku a e1;obtain⟨d,q3⟩:=mP (W:=insB) (fun a h=>sN a h) _ (fun b hb=>a b (by rw [c];simp [hb])) h;unfold codeB;have:(x.length:Int)=k:=by omega
  rw [c,d,this];simp
theorem rA{l r:List Nat}{x:List (List Ins)}(a:∀ b∈l,b<256)(h:rdProg l=some (x,r)):l=progB x++r:=by
 unfold rdProg at h;split at h
 ·cases h
 ·rename_i k r1 e1
  obtain⟨c,_,q0⟩:=ku a e1;obtain⟨d,q3⟩:=mP (W:=codeB) (fun a h=>oY a h) _ (fun b hb=>a b (by rw [c];simp [hb])) h;unfold progB;have:(x.length:Int)=k:=by omega
  rw [c,d,this];simp
theorem rB(k:Nat):∀ {a:List Int} {l r:List Nat} {s:List Int},(∀ b∈l,b<256)->rdRuns k a l=some (s,r)->∃ q,l=q.flatMap runB++r/\q.length=k/\s=a++expand q/\Sep a.getLast? q/\∀ x∈q,0<x.2:=by
 induction k with
 | zero=>
  intro a l r s d h;simp only [rdRuns,Option.some.injEq,Prod.mk.injEq]at h;obtain⟨rfl,rfl⟩:=h;exact⟨[],rfl,rfl,by simp [expand],trivial,fun x hx=>by cases hx⟩
 | succ k ih=>
  intro a l r s d h;unfold rdRuns at h;split at h
  ·cases h
  ·rename_i t r1 e1
   have i:=je d e1;split at h
   ·cases h
   ·rename_i c r2 e2
    have e:∀ b∈r1,b<256:=fun b hb=>d b (by rw [i];simp [hb])
    obtain⟨j,_,_⟩:=ku e e2;split at h
    ·rename_i h3
     obtain⟨q,m,n,o,f,p⟩:=ih (fun b hb=>e b (by rw [j];simp [hb])) h;rw [nK _ _ _ (by omega)]at f;refine⟨(t,c)::q,by rw [i,j,m];simp [runB],by simp [n],by rw [o];simp [expand],⟨h3.2,f⟩,fun x hx=>?_⟩;rcases List.mem_cons.1 hx with rfl | hx
     ·exact h3.1
     ·exact p x hx
    ·cases h
theorem Ae(t:Int)(n:Nat)(s:List Int)(q:List (Int × Int))(a:grp s=q)(b:Sep (some t) q):grp (List.replicate (n+1) t++s)=(t,((n+1:Nat):Int))::q:=by
 induction n with
 | zero=>
  simp only [Nat.zero_add,List.replicate_one,List.singleton_append,grp,a];cases q with
  | nil=>rfl
  | cons x q=>
   simp only;rw [if_neg (fun e=>b.1 (by rw [e]))];rfl
 | succ n ih=>
  rw [List.replicate_succ,List.cons_append,grp,ih];simp
theorem px(q:List (Int × Int)):∀ p,Sep p q->(∀ x∈q,0<x.2)->grp (expand q)=q:=by
 induction q with
 | nil=>intro p _ _;rfl
 | cons x q ih=>
  intro p b a;have h0:=a x (by simp);obtain⟨n,c⟩:∃ n:Nat,x.2.toNat=n+1:=⟨x.2.toNat - 1,by omega⟩;have e:expand (x::q)=List.replicate (n+1) x.1++expand q:=by simp [expand,c]
  rw [e,Ae x.1 n _ q (ih _ b.2 (fun y hy=>a y (by simp [hy]))) b.2];congr 1
  have:((n+1:Nat):Int)=x.2:=by omega
  rw [this]
theorem pF{l r:List Nat}{s:List Int}(a:∀ b∈l,b<256)(h:rdSched l=some (s,r)):l=schB s++r:=by
 unfold rdSched at h;split at h
 ·cases h
 ·rename_i k r1 e1
  obtain⟨d,_,q0⟩:=ku a e1;obtain⟨q,e,p2,c,f,i⟩:=rB _ (fun b hb=>a b (by rw [d];simp [hb])) h;simp only [List.nil_append]at c;unfold schB;rw [c,px q _ f i];have:(q.length:Int)=k:=by omega
  rw [d,e,this];simp
theorem sQ{l r:List Nat}{v:Int × Int × Int}(e:∀ b∈l,b<256)(h:rdVer l=some (v,r)):l=verB v++r:=by
 unfold rdVer at h;split at h
 ·cases h
 ·rename_i a l1 e1
  have f:=je e e1;split at h
  ·cases h
  ·rename_i b l2 e2
   have d:∀ b∈l1,b<256:=fun b hb=>e b (by rw [f];simp [hb])
   have i:=je d e2;split at h
   ·cases h
   ·rename_i c l3 e3
    have j:∀ b∈l2,b<256:=fun b hb=>d b (by rw [i];simp [hb])
    have k:=je j e3;simp only [Option.some.injEq,Prod.mk.injEq]at h;obtain⟨rfl,rfl⟩:=h;unfold verB;rw [f,i,k];simp
theorem sM{l r:List Nat}{a:Art}(j:∀ b∈l,b<256)(h:rdArt l=some (a,r)):l=bodyB a++r:=by
 obtain⟨m,rfl⟩:=mt h;simp only [rdArt]at h;have c:∀ b∈m,b<256:=fun b hb=>j b (by simp [hb])
 split at h
 ·cases h
 ·rename_i p r1 e1
  have e:=rA c e1;have d:∀ b∈r1,b<256:=fun b hb=>c b (by rw [e];simp [hb])
  split at h
  ·cases h
  ·rename_i s r2 e2
   have f:=pF d e2;have i:∀ b∈r2,b<256:=fun b hb=>d b (by rw [f];simp [hb])
   split at h
   ·cases h
   ·rename_i v r3 e3
    have k:=sQ i e3;simp only [Option.some.injEq,Prod.mk.injEq]at h;obtain⟨rfl,rfl⟩:=h;unfold bodyB;rw [e,f,k];simp
theorem pU{l:List Nat}{a:Art}(d:∀ b∈l,b<256)(h:decB l=some a):l=encB a/\artE a=0:=by
 unfold decB at h;split at h
 ·cases h
 ·rename_i a' r e
  split at h
  ·rename_i h1
   simp only [Option.some.injEq]at h;subst h;have q:=sM d e;refine⟨?_,h1.2⟩;have c:=h1.1;have:l.take (l.length - r.length)=bodyB a':=by rw [q];simp
   rw [this]at c;unfold encB;rw [<-c];exact q
  ·cases h
def bigG:Nat->Nat->Nat->List Nat->Nat × List Nat × Bool
 | 0,_,_,l=>(0,l,true)
 | _+1,_,_,[]=>(0,[],true)
 | k+1,unit,v,c::r=>if c<128 then ((v+unit*(c % 128)) % 18446744073709551616,r,false) else bigG k (unit*128 % 18446744073709551616) ((v+unit*(c % 128)) % 18446744073709551616) r
def numG(most:Nat)(l:List Nat):Nat × List Nat × Bool:=if most<(bigG 10 1 0 l).1 then (0,(bigG 10 1 0 l).2.1,true) else bigG 10 1 0 l
def insG(l:List Nat):Ins × List Nat × Bool:=
 let o:=numG 11 l
 let a:=numG 3 o.2.1
 let b:=numG 3 a.2.1
 let n:=bigG 10 1 0 b.2.1
 (⟨o.1,a.1,b.1,zag n.1⟩,n.2.1,o.2.2 || a.2.2 || b.2.2 || n.2.2)
def codeG:Nat->List Ins->List Nat->Bool->List Ins × List Nat × Bool
 | 0,c,l,b=>(c,l,b)
 | _+1,c,l,true=>(c,l,true)
 | k+1,c,l,false=>codeG k (c++[(insG l).1]) (insG l).2.1 (insG l).2.2
def progG:Nat->List (List Ins)->List Nat->Bool->List (List Ins) × List Nat × Bool
 | 0,p,l,b=>(p,l,b)
 | _+1,p,l,true=>(p,l,true)
 | k+1,p,l,false=>
  let n:=numG 16 l
  let c:=codeG n.1 [] n.2.1 n.2.2
  progG k (p++[c.1]) c.2.1 c.2.2
def fillG:Nat->Int->List Int->List Int
 | 0,_,s=>s
 | n+1,t,s=>if s.length<=500 then fillG n t (s++[t]) else s
def runsG:Nat->List Int->List Nat->Bool->List Int × List Nat × Bool
 | 0,s,l,b=>(s,l,b)
 | _+1,s,l,true=>(s,l,true)
 | k+1,s,l,false=>
  let t:=numG 63 l
  let n:=numG 500 t.2.1
  runsG k (fillG n.1 t.1 s) n.2.1 (t.2.2 || n.2.2)
def guessG(l:List Nat):Art × Bool:=
 let t:=numG 4 (l.drop 3)
 let p:=progG t.1 [] t.2.1 t.2.2
 let k:=numG 500 p.2.1
 let s:=runsG k.1 [] k.2.1 (p.2.2 || k.2.2)
 let a:=numG 5 s.2.1
 let b:=numG 3 a.2.1
 let c:=numG 500 b.2.1
 (⟨p.1,s.1,(a.1,b.1,c.1)⟩,!(s.2.2 || a.2.2 || b.2.2 || c.2.2))
theorem xw(n:Nat):∀ (k a b:Nat) (r:List Nat),a+7*k=70->1<=k->b+n*2 ^ a<18446744073709551616->bigG k (2 ^ a) b (numB n++r)=(b+n*2 ^ a,r,false):=by
 induction n using Nat.strongRecOn with
 | ind n ih=>
  intro k a b r hk h1 h;obtain⟨j,rfl⟩:∃ j,k=j+1:=⟨k - 1,by omega⟩;by_cases c:n<128
  ·rw [jO c];have e:n % 128=n:=Nat.mod_eq_of_lt c;simp only [List.cons_append,List.nil_append,bigG,e];rw [if_pos c,Nat.mul_comm (2 ^ a) n,Nat.mod_eq_of_lt h]
  ·rw [kG c];have e:(n % 128+128) % 128=n % 128:=by omega
   simp only [List.cons_append,bigG,e];rw [if_neg (by omega)];have d:2 ^ (a+7)=2 ^ a*128:=by rw [Nat.pow_add]
   have l:n*2 ^ a=2 ^ a*(n % 128)+(n / 128)*2 ^ (a+7):=by
    have:n=n % 128+128*(n / 128):=by omega
    rw [d];conv=>lhs;rw [this]
    rw [Nat.add_mul,Nat.mul_comm (n % 128),Nat.mul_comm 128,Nat.mul_assoc,Nat.mul_comm 128]
   have f:1<=n / 128:=by omega
   have hge:2 ^ (a+7)<=(n / 128)*2 ^ (a+7):=Nat.le_mul_of_pos_left _ f;have i:2 ^ (a+7)<18446744073709551616:=by omega
   have hpl:a+7<64:=by
    apply Nat.lt_of_not_le;intro hc;have:(2:Nat) ^ 64<=2 ^ (a+7):=Nat.pow_le_pow_right (by omega) hc;omega
   rw [Nat.mod_eq_of_lt (by omega:b+2 ^ a*(n % 128)<18446744073709551616),<-d,Nat.mod_eq_of_lt i,ih (n / 128) (by omega) j (a+7) _ r (by omega) (by omega) (by omega),Nat.add_assoc,<-l]
theorem Br(n:Nat)(r:List Nat)(h:n<18446744073709551616):bigG 10 1 0 (numB n++r)=(n,r,false):=by
 have:=xw n 10 0 0 r (by omega) (by omega) (by simpa using h);simpa using this
theorem lF(a:Nat)(n:Int)(r:List Nat)(_h0:0<=n)(h1:n<=a)(hm:a<=1000):numG a (wInt n++r)=(n.toNat,r,false):=by
 unfold numG wInt;rw [Br _ _ (by omega),if_neg (by simp only;omega)]
theorem BI(i:Ins)(r:List Nat)(f:0<=i.op/\i.op<=11)(h:0<=i.a/\i.a<=3)(j:0<=i.b/\i.b<=3)(h4: -9223372036854775808<=i.n/\i.n<=9223372036854775807):insG (insB i++r)=(i,r,false):=by
 unfold insG insB;simp only [List.append_assoc];rw [lF 11 _ _ f.1 (by omega) (by omega)];simp only;rw [lF 3 _ _ h.1 (by omega) (by omega)];simp only;rw [lF 3 _ _ j.1 (by omega) (by omega)];simp only;have k:zig i.n<18446744073709551616:=by unfold zig;split<;>omega
 rw [Br _ _ k];simp only [vm,Bool.or_self];have c:((i.op.toNat:Nat):Int)=i.op:=by omega
 have d:((i.a.toNat:Nat):Int)=i.a:=by omega
 have e:((i.b.toNat:Nat):Int)=i.b:=by omega
 rw [c,d,e]
def smallIns(i:Ins):Prop:=(0<=i.op/\i.op<=11)/\(0<=i.a/\i.a<=3)/\(0<=i.b/\i.b<=3)/\(-9223372036854775808<=i.n/\i.n<=9223372036854775807)
theorem zS(c:List Ins):∀ (d:List Ins) (r:List Nat),(∀ i∈c,smallIns i)->codeG c.length d (c.flatMap insB++r) false=(d++c,r,false):=by
 induction c with
 | nil=>intro d r _;simp [codeG]
 | cons i c ih=>
  intro d r h;obtain⟨a,b,e,f⟩:=h i (by simp);rw [List.length_cons,List.flatMap_cons,List.append_assoc,codeG,BI i _ a b e f];simp only;rw [ih _ _ (fun j hj=>h j (by simp [hj]))];simp
theorem AK(p:List (List Ins)):∀ (d:List (List Ins)) (r:List Nat),(∀ c∈p,c.length<=16/\∀ i∈c,smallIns i)->progG p.length d (p.flatMap codeB++r) false=(d++p,r,false):=by
 induction p with
 | nil=>intro d r _;simp [progG]
 | cons c p ih=>
  intro d r h;obtain⟨h1,a⟩:=h c (by simp);rw [List.length_cons,List.flatMap_cons,progG];unfold codeB;simp only [List.append_assoc];rw [lF 16 _ _ (by omega) (by omega) (by omega)];simp only [Int.toNat_natCast];rw [zS c [] _ a];have:=ih (d++[c]) r (fun x hx=>h x (by simp [hx]));unfold codeB at this;simp only [List.nil_append];rw [this];simp
theorem xU(n:Nat)(t:Int):∀ s:List Int,s.length+n<=501->fillG n t s=s++List.replicate n t:=by
 induction n with
 | zero=>intro s _;simp [fillG]
 | succ n ih=>
  intro s h;rw [fillG,if_pos (by omega),ih _ (by simp;omega),List.append_assoc];rfl
theorem AU(q:List (Int × Int)):∀ (s:List Int) (r:List Nat),(∀ x∈q,0<=x.1/\x.1<=63/\1<=x.2/\x.2<=500)->s.length+(expand q).length<=500->runsG q.length s (q.flatMap runB++r) false=(s++expand q,r,false):=by
 induction q with
 | nil=>intro s r _ _;simp [runsG,expand]
 | cons x q ih=>
  intro s r h a;obtain⟨c,h2,h3,h4⟩:=h x (by simp);have d:expand (x::q)=List.replicate x.2.toNat x.1++expand q:=by simp [expand]
  rw [d]at a ⊢;simp only [List.length_append,List.length_replicate]at a;rw [List.flatMap_cons,List.length_cons,runsG];unfold runB;simp only [List.append_assoc];rw [lF 63 _ _ c (by omega) (by omega)];simp only;rw [lF 500 _ _ (by omega) (by omega) (by omega)];simp only [Bool.or_self];have b:((x.1.toNat:Nat):Int)=x.1:=by omega
  rw [b,xU _ _ _ (by omega)];have:=ih (s++List.replicate x.2.toNat x.1) r (fun y hy=>h y (by simp [hy])) (by simp;omega);unfold runB at this;rw [this];simp
theorem mw{i:Ins}{len:Int}(h:vIns i len=true):(0<=i.op/\i.op<=11)/\(0<=i.a/\i.a<=3)/\(0<=i.b/\i.b<=3):=by
 simp only [vIns,Bool.and_eq_true,decide_eq_true_eq]at h;obtain⟨h1,f,d,e,_⟩:=h;refine⟨⟨by omega,f⟩,?_,?_⟩
 ·obtain⟨o,c⟩:∃ o:Nat,i.op.toNat=o:=⟨_,rfl⟩;rw [c]at d;have:o=1\/o=2\/o=3\/o=4\/o=5\/o=6\/o=7\/o=8\/o=9\/o=10\/o=11:=by omega
  rcases this with rfl | rfl | rfl | rfl | rfl | rfl | rfl | rfl | rfl | rfl | rfl<;>simp [shp,fitsB,belowB]at d<;>omega
 ·obtain⟨o,c⟩:∃ o:Nat,i.op.toNat=o:=⟨_,rfl⟩;rw [c]at e;have:o=1\/o=2\/o=3\/o=4\/o=5\/o=6\/o=7\/o=8\/o=9\/o=10\/o=11:=by omega
  rcases this with rfl | rfl | rfl | rfl | rfl | rfl | rfl | rfl | rfl | rfl | rfl<;>simp [shp,fitsB,belowB]at e<;>omega
theorem m8{a:Art}(h:artE a=0):vProg a.prog=true/\validS a.sch=true/\verOk a.ver=true:=by
 unfold artE at h;split at h
 ·split at h
  ·rename_i h1 h2;exact⟨h1,h2⟩
  ·omega
 ·omega
theorem vX(a:Art)(h:artE a=0)(v:∀ c∈a.prog,∀ i∈c,insInt i):guessG (encB a)=(a,true):=by
 obtain⟨e,k,l⟩:=m8 h;have w:=iW e;have hc:∀ c∈a.prog,c.length<=16/\∀ i∈c,smallIns i:=by
  intro c hc;simp only [vProg,Bool.and_eq_true,List.all_eq_true]at e;have d:=e.2.2 c hc;have b:=d;simp only [vCode,Bool.and_eq_true,List.all_eq_true,decide_eq_true_eq]at b;refine⟨b.1,fun i hi'=>?_⟩;obtain⟨y,z,A⟩:=mw (b.2 i hi');exact⟨y,z,A,(v c hc i hi').2.2.2⟩
 have f:=k;simp only [validS,Bool.and_eq_true,decide_eq_true_eq,List.all_eq_true]at f;have u:=lN a.sch;have j:∀ x∈grp a.sch,0<=x.1/\x.1<=63/\1<=x.2/\x.2<=500:=fun x hx=>by
  have d:=mI a.sch x hx;have b:=f.2 x.1 d.1;exact⟨b.1,b.2,d.2.1,by omega⟩
 simp only [verOk,Bool.and_eq_true,decide_eq_true_eq]at l;obtain⟨p,s,m,n,o⟩:=a;simp only at e k w hc f u j l ⊢;unfold guessG encB bodyB progB schB verB;simp only [List.cons_append,List.nil_append,List.drop_succ_cons,List.drop_zero,List.append_assoc];rw [lF 4 _ _ (by omega) (by omega) (by omega)];simp only [Int.toNat_natCast];rw [AK p [] _ hc];simp only [List.nil_append];rw [lF 500 _ _ (by omega) (by omega) (by omega)];simp only [Int.toNat_natCast,Bool.or_self];rw [AU (grp s) [] _ j (by rw [lh];simpa using f.1)];simp only [List.nil_append,lh];rw [lF 5 _ _ (by omega) (by omega) (by omega)];simp only;rw [lF 3 _ _ (by omega) (by omega) (by omega)];simp only;rw [lF 500 _ _ (by omega) (by omega) (by omega)];simp only [Bool.or_self,Bool.not_false];have q:((m.toNat:Nat):Int)=m:=by omega
 have r:((n.toNat:Nat):Int)=n:=by omega
 have t:((o.toNat:Nat):Int)=o:=by omega
 rw [q,r,t]
def refDec(l:List Nat):Option Art:=if (guessG l).2=true/\artE (guessG l).1=0/\encB (guessG l).1=l then some (guessG l).1 else none
theorem wP{l:List Nat}(n:∀ b∈l,b<256)(k:∀ a,decB l=some a->∀ c∈a.prog,∀ i∈c,insInt i)(m:∀ c∈(guessG l).1.prog,∀ i∈c,insInt i):refDec l=decB l:=by
 unfold refDec;cases hd:decB l with
 | none=>
  rw [if_neg];rintro⟨_,h,j⟩;have:=zU _ h m;rw [j,hd]at this;cases this
 | some a=>
  obtain⟨d,e⟩:=pU n hd;have f:=vX a e (k a hd);rw [<-d]at f;rw [f];simp only [true_and];rw [if_pos ⟨e,d.symm⟩]
theorem nW:∀ (k u v:Nat) (l:List Nat),(bigG k u v l).1<18446744073709551616
 | 0,_,_,_=>by simp [bigG]
 | _+1,_,_,[]=>by simp [bigG]
 | k+1,u,v,c::r=>by
  rw [bigG];split
  ·exact Nat.mod_lt _ (by omega)
  ·exact nW k _ _ r
theorem jm(m:Nat)(l:List Nat):(numG m l).1<=m:=by
 unfold numG;split
 ·simp
 ·omega
theorem vl(n:Nat)(h:n<18446744073709551616): -9223372036854775808<=zag n/\zag n<=9223372036854775807:=by
 unfold zag;split<;>omega
theorem tX(l:List Nat):smallIns (insG l).1:=by
 unfold insG;have h1:=jm 11 l;have h2:=jm 3 (numG 11 l).2.1;have h3:=jm 3 (numG 3 (numG 11 l).2.1).2.1;refine⟨⟨?_,?_⟩,⟨?_,?_⟩,⟨?_,?_⟩,vl _ (nW _ _ _ _)⟩<;>simp only<;>omega
theorem nG:∀ (k:Nat) (c:List Ins) (l:List Nat) (b:Bool),(∀ i∈c,smallIns i)->(∀ i∈(codeG k c l b).1,smallIns i)/\(codeG k c l b).1.length<=c.length+k
 | 0,c,l,b,h=>⟨h,by simp [codeG]⟩
 | k+1,c,l,true,h=>⟨h,by simp [codeG]⟩
 | k+1,c,l,false,h=>by
  rw [codeG];obtain⟨h1,h2⟩:=nG k (c++[(insG l).1]) (insG l).2.1 (insG l).2.2 (fun i hi=>by
   rcases List.mem_append.1 hi with hi | hi
   ·exact h i hi
   ·simp at hi;subst hi;exact tX l)
  exact⟨h1,by simp at h2;omega⟩
theorem nP:∀ (k:Nat) (p:List (List Ins)) (l:List Nat) (b:Bool),(∀ c∈p,c.length<=16/\∀ i∈c,smallIns i)->(∀ c∈(progG k p l b).1,c.length<=16/\∀ i∈c,smallIns i)/\(progG k p l b).1.length<=p.length+k
 | 0,p,l,b,h=>⟨h,by simp [progG]⟩
 | k+1,p,l,true,h=>⟨h,by simp [progG]⟩
 | k+1,p,l,false,h=>by
  rw [progG];have hc:=nG (numG 16 l).1 [] (numG 16 l).2.1 (numG 16 l).2.2 (fun i hi=>by cases hi);have hn:=jm 16 l;obtain⟨h1,h2⟩:=nP k (p++[(codeG (numG 16 l).1 [] (numG 16 l).2.1 (numG 16 l).2.2).1]) (codeG (numG 16 l).1 [] (numG 16 l).2.1 (numG 16 l).2.2).2.1 (codeG (numG 16 l).1 [] (numG 16 l).2.1 (numG 16 l).2.2).2.2 (fun c hi=>by
   rcases List.mem_append.1 hi with hi | hi
   ·exact h c hi
   ·simp at hi;subst hi;exact⟨by have:=hc.2;simp at this;omega,hc.1⟩)
  exact⟨h1,by simp at h2;omega⟩
theorem nL(l:List Nat):(∀ c∈(guessG l).1.prog,c.length<=16/\∀ i∈c,smallIns i)/\(guessG l).1.prog.length<=4:=by
 unfold guessG;have h:=nP (numG 4 (l.drop 3)).1 [] (numG 4 (l.drop 3)).2.1 (numG 4 (l.drop 3)).2.2 (fun c hc=>by cases hc);have hn:=jm 4 (l.drop 3);exact⟨h.1,by have:=h.2;simp at this;simp only;omega⟩
theorem qr{i:Ins}(h:smallIns i):insInt i:=by
 obtain⟨a,b,c,d⟩:=h;exact⟨⟨a.1,by omega⟩,⟨b.1,by omega⟩,⟨c.1,by omega⟩,d⟩
theorem Bc(n x a:Nat)(hn:n<2 ^ a)(h:x % 128*2 ^ a<18446744073709551616)(hp:a<64):n+x % 128*2 ^ a<18446744073709551616/\n+x % 128*2 ^ a<2 ^ (a+7):=by
 constructor
 ·have e:18446744073709551616=2 ^ (64 - a)*2 ^ a:=by rw [<-Nat.pow_add,show 64 - a+a=64 by omega]
  rw [e]at h ⊢;have b:x % 128<2 ^ (64 - a):=Nat.lt_of_mul_lt_mul_right h;have c:(x % 128+1)*2 ^ a<=2 ^ (64 - a)*2 ^ a:=Nat.mul_le_mul_right _ b;rw [Nat.add_mul,Nat.one_mul]at c;omega
 ·have b:2 ^ (a+7)=128*2 ^ a:=by rw [Nat.pow_add,Nat.mul_comm]
  have c:x % 128*2 ^ a<=127*2 ^ a:=Nat.mul_le_mul_right _ (by omega);omega
theorem AM(l:List Nat):∀ (c a x:Nat) (r:List Nat),a<2 ^ c->rdN c a l=some (x,r)->x<18446744073709551616:=by
 induction l with
 | nil=>intro c a x r _ h;cases h
 | cons b l ih=>
  intro c a x r e h;rw [rdN]at h;split at h
  ·rename_i h1
   have d:=Bc a b c e h1.2 h1.1;split at h
   ·split at h
    ·simp only [Option.some.injEq,Prod.mk.injEq]at h;rw [<-h.1];exact d.1
    ·cases h
   ·exact ih _ _ _ _ d.2 h
  ·cases h
theorem lG{l r:List Nat}{x:Int}(h:rdWhole l=some (x,r)):0<=x/\x<=9223372036854775807:=by
 unfold rdWhole at h;split at h
 ·split at h
  ·simp only [Option.some.injEq,Prod.mk.injEq]at h;omega
  ·cases h
 ·cases h
theorem rC{l r:List Nat}{x:Int}(h:rdSigned l=some (x,r)): -9223372036854775808<=x/\x<=9223372036854775807:=by
 unfold rdSigned at h;split at h
 ·rename_i n r' e
  simp only [Option.some.injEq,Prod.mk.injEq]at h;rw [<-h.1];exact vl n (AM l 0 0 n r' (by simp) e)
 ·cases h
theorem wN{l r:List Nat}{x:Ins}(h:rdIns l=some (x,r)):insInt x:=by
 unfold rdIns at h;split at h
 ·cases h
 ·rename_i o l1 e1
  split at h
  ·cases h
  ·rename_i a l2 e2
   split at h
   ·cases h
   ·rename_i c l3 e3
    split at h
    ·cases h
    ·rename_i n l4 e4
     simp only [Option.some.injEq,Prod.mk.injEq]at h;rw [<-h.1];exact⟨lG e1,lG e2,lG e3,rC e4⟩
theorem oV{α:Type}{P:List Nat->Option (α × List Nat)}{Q:α->Prop}(b:∀ {l r:List Nat} {x:α},P l=some (x,r)->Q x)(k:Nat):
  ∀ {l r:List Nat} {xs:List α},rdMany P k l=some (xs,r)->∀ x∈xs,Q x:=by
 induction k with
 | zero=>
  intro l r xs h;simp only [rdMany,Option.some.injEq,Prod.mk.injEq]at h;rw [<-h.1];intro x c;cases c
 | succ k ih=>
  intro l r xs h;unfold rdMany at h;split at h
  ·cases h
  ·rename_i x r1 e1
   split at h
   ·cases h
   ·rename_i ys r2 e2
    simp only [Option.some.injEq,Prod.mk.injEq]at h;rw [<-h.1];intro y a;rcases List.mem_cons.1 a with rfl | a
    ·exact b e1
    ·exact ih e2 y a
theorem rD{l r:List Nat}{x:List Ins}(h:rdThread l=some (x,r)):∀ i∈x,insInt i:=by
 unfold rdThread at h;split at h
 ·cases h
 ·exact oV (fun h=>wN h) _ h
theorem uk{l r:List Nat}{x:List (List Ins)}(h:rdProg l=some (x,r)):∀ c∈x,∀ i∈c,insInt i:=by
 unfold rdProg at h;split at h
 ·cases h
 ·exact oV (fun h=>rD h) _ h
theorem zV{l:List Nat}{a:Art}(h:decB l=some a):∀ c∈a.prog,∀ i∈c,insInt i:=by
 unfold decB at h;split at h
 ·cases h
 ·rename_i a' r e
  split at h
  ·simp only [Option.some.injEq]at h;subst h;obtain⟨r0,rfl⟩:=mt e;simp only [rdArt]at e;split at e
   ·cases e
   ·rename_i p r1 e1
    split at e
    ·cases e
    ·split at e
     ·cases e
     ·simp only [Option.some.injEq,Prod.mk.injEq]at e;rw [<-e.1];exact uk e1
  ·cases h
theorem un{l:List Nat}(hl:∀ b∈l,b<256):refDec l=decB l:=
 wP hl (fun _ h=>zV h) (fun c hc i hi=>qr (((nL l).1 c hc).2 i hi))
def bitR(x:Nat × Nat):Nat × Nat:=(if (x.1+x.2) % 2=1 then (x.1 / 2) ^^^ 3988292384 else x.1 / 2,x.2 / 2)
def bitsR:Nat->Nat × Nat->Nat × Nat
 | 0,x=>x
 | k+1,x=>bitR (bitsR k x)
theorem zN(x:Nat × Nat):(bitR x).1 ^^^ (bitR x).2=shN (x.1 ^^^ x.2):=by
 unfold bitR shN;simp only;rw [Bn,zE];split
 ·rw [Nat.xor_assoc,Nat.xor_comm 3988292384,<-Nat.xor_assoc]
 ·rfl
theorem xx(k:Nat)(x:Nat × Nat):(bitsR k x).1 ^^^ (bitsR k x).2=shK k (x.1 ^^^ x.2):=by
 induction k with
 | zero=>rfl
 | succ k ih=>rw [bitsR,zN,ih,ve k 1];rfl
theorem vu(k:Nat)(x:Nat × Nat):(bitsR k x).2=x.2 / 2 ^ k:=by
 induction k with
 | zero=>simp [bitsR]
 | succ k ih=>rw [bitsR];show (bitsR k x).2 / 2=_;rw [ih,Nat.div_div_eq_div_mul,Nat.pow_succ]
theorem rS(v c:Nat)(hc:c<256):(bitsR 8 (v,c)).1=shK 8 (v ^^^ c):=by
 have a:=xx 8 (v,c);have b:=vu 8 (v,c);have d:c / 2 ^ 8=0:=Nat.div_eq_of_lt hc;simp only at a b;rw [b,d,Nat.xor_zero]at a;exact a
theorem rT(k:Nat)(v c:Nat)(a:v<4294967296)(hc:c<256):(bitsR k (v,c)).1<4294967296/\(bitsR k (v,c)).2<256:=by
 induction k with
 | zero=>exact⟨a,hc⟩
 | succ k ih=>
  rw [bitsR];refine⟨?_,?_⟩
  ·unfold bitR;simp only;split
   ·exact Nat.xor_lt_two_pow (n:=32) (by omega) (by omega)
   ·omega
  ·show (bitsR k (v,c)).2 / 2<256
   omega
theorem xI(v:Nat)(h:v<4294967296):4294967295 ^^^ v=4294967295 - v:=by
 apply Nat.eq_of_testBit_eq;intro i;have e:4294967295 - v=2 ^ 32 - (v+1):=by omega
 rw [e,Nat.testBit_two_pow_sub_succ (by omega),Nat.testBit_xor,show (4294967295:Nat)=2 ^ 32 - 1 from rfl,Nat.testBit_two_pow_sub_one];by_cases a:i<32
 ·simp [a]
 ·have:v.testBit i=false:=Nat.testBit_lt_two_pow (Nat.lt_of_lt_of_le (by omega:v<2 ^ 32) (Nat.pow_le_pow_right (by omega) (by omega)));simp [a,this]
end
section
open Go.RowKit
attribute [local go_sem] Go.World.cell?_alloc_some
section
variable {P : Program} {ops : Array Oper} {Q : Exit -> Act -> World -> Prop} {S : World -> Prop} {n : Nat}
theorem nS{i j:Nat}{e l:Oper}{f:Nat}{b:Array Bool}{a:Act}{w:World}(q:ops[i]?=some e)(r:ops[j]?=some l)
  (d:Region.ready .any ops b=[i,j]) (c:(decide (i<n) && decide (j<n))=true) (s:Region.wanted e (yielded ops a.tmps)=true) (t:Region.wanted l (yielded ops a.tmps)=true)
  (o:∀ K:Act->World->Prop,(∀ a' w',S w'->(HeadInv .any ops n (b.setIfInBounds i true)->wpHead P ops Q S n f (b.setIfInBounds i true) a' w')->K a' w')->e.wp P a w K Q)
  (p:∀ K:Act->World->Prop,(∀ a' w',S w'->(HeadInv .any ops n (b.setIfInBounds j true)->wpHead P ops Q S n f (b.setIfInBounds j true) a' w')->K a' w')->l.wp P a w K Q):
  HeadInv .any ops n b->wpHead P ops Q S n (f+1) b a w:=by
 intro m;simp only [Bool.and_eq_true,decide_eq_true_eq]at c;refine⟨fun h=>(by rw [d]at h;cases h),fun k hk=>?_⟩;rw [d]at hk;simp only [List.mem_cons,List.not_mem_nil,or_false]at hk;rcases hk with rfl | rfl
 ·refine⟨c.1,?_⟩;unfold wpOp;simp only [q,s,if_true];exact Or.inl (o _ (fun a' w' hS hh=>⟨hS,hh (m.set (by rw [d];simp) c.1)⟩))
 ·refine⟨c.2,?_⟩;unfold wpOp;simp only [r,t,if_true];exact Or.inl (p _ (fun a' w' hS hh=>⟨hS,hh (m.set (by rw [d];simp) c.2)⟩))
end
theorem nY{w:World}{g:Nat}{x:Nat}(h:w.cell? ⟨g,0,none⟩=some (.int .u8 (x:Int))):(convert 147 9 (.slice (some ⟨g,0,none⟩) 1 1)).run Tryz.prog w= .ok (.string (bs [x])) w:=
 run_convert_bytes_arg w _ _ Tryz.underlying147 Tryz.underlying5 g 0 1 1 _ (by simp) (fun i hi=>by
  have hi':i=0:=by simp at hi;omega
  subst hi';rw [Nat.add_zero,h];simp) _ Tryz.underlying9
theorem jo{w w':World}(h:w.drew.grownBy w' none):w.grownBy w' none:=⟨h.os,h.tape,h.output,h.size,h.block⟩
theorem ui(w:World)(x:Nat):(match (w.alloc (.cells #[.int .u8 (x:Int)] 5)).heap[w.heap.size]? with | some (.cells cs _ _)=>cs[0]? | _=>none)=some (.int .u8 (x:Int)):=by rw [heap_alloc_new];rfl
theorem Bx(l m:List Nat):bs l++bs m=bs (l++m):=by
 apply ByteArray.ext;apply Array.ext';simp [bs,strOfNums_data]
theorem xG(l m:List Nat)(h:l.length+m.length<=9223372036854775807):Op.stringOp .add (bs l) (bs m)=pure (.string (bs (l++m))):=by
 unfold Op.stringOp;have:=nX l;have:=nX m;rw [if_neg (by simp only [IntKind.max,IntKind.signed,IntKind.bits];simp;omega),Bx]
theorem i6(n:Nat):∀ (w:World),n<18446744073709551616->Calls Tryz.prog 66 #[.int .u64 n] w fun e w'=>e= .returned (.string (bs (numB n)))/\w.grownBy w' none:=by
 induction n using Nat.strongRecOn with
 | ind n ih=>
  intro w hn;have A:=ij ih;clear ih;go_enter Tryz.func66,Tryz.ntmps66
  by_cases h:n<128
  ·have E:(n:Int)<128:=by omega
   have hmod:(n:Int) % 256=n:=by omega
   have m:(convert 147 9 (.slice (some ⟨w.heap.size,0,none⟩) 1 1)).run Tryz.prog (w.alloc (.cells #[.int .u8 (n:Int)] 5))= .ok (.string (bs [n])) (w.alloc (.cells #[.int .u8 (n:Int)] 5)):=nY (by simp only [World.cell?,heap_alloc_new];rfl);have q:Hid (numB n=[n]):=jO h;go_wp2_with fail
   go_ret;exact⟨by rw [q.out];rfl,iq (ir _ _)⟩
  ·have E:¬(n:Int)<128:=by omega
   have q:Hid (numB n=(n % 128+128)::numB (n / 128)):=kG h;have s:=ij (fun w'=>A.out (n / 128) (by omega) w' (by omega));go_wp2_with fail
   refine iz (fun _=>True) 10 (by kernel_rfl) (by kernel_rfl) trivial ?_;intro hHeld;refine ie 0 ?v0 rfl (by kernel_rfl) (fun _ _ _ h=>h) (by kernel_rfl) ?y0 trivial ?_
   case y0=>(intro u l;go_simp;try rfl)
   simp only [Act.put,List.setIfInBounds_toArray];refine ie 1 ?v1 rfl (by kernel_rfl) (fun _ _ _ h=>h) (by kernel_rfl) ?y1 trivial ?_
   case y1=>(intro u l;go_simp;try rfl)
   simp only [Act.put];refine ie 2 ?v2 rfl (by kernel_rfl) (fun _ _ _ h=>h) (by kernel_rfl) ?y2 trivial ?_
   case y2=>(intro u l;go_simp;try rfl)
   simp only [Act.put];refine ie 3 ?v3 rfl (by kernel_rfl) (fun _ _ _ h=>h) (by kernel_rfl) ?y3 trivial ?_
   case y3=>(intro u l;go_simp;try rfl)
   simp only [Act.put];refine ie 6 ?v6 rfl (by kernel_rfl) (fun _ _ _ h=>h) (by kernel_rfl) ?y6 trivial ?_
   case y6=>(intro u l;go_simp;try rfl)
   simp only [Act.put];refine ie 7 ?v7 rfl (by kernel_rfl) (fun _ _ _ h=>h) (by kernel_rfl) ?y7 trivial ?_
   case y7=>(intro u l;go_simp;try rfl)
   simp only [Act.put];have y:IntKind.u8.wrap (IntKind.u64.wrap (128+(n:Int).tmod 128))=((n % 128+128:Nat):Int):=by
    have D:(n:Int).tmod 128=((n % 128:Nat):Int):=by rw [Int.tmod_eq_emod_of_nonneg (by omega)];omega
    rw [D];simp only [IntKind.wrap,IntKind.signed,IntKind.bits];simp;omega
   have z:IntKind.u64.wrap ((n:Int) / 128)=((n / 128:Nat):Int):=by
    simp only [IntKind.wrap,IntKind.signed,IntKind.bits];simp;omega
   simp only [y,z];have hx:n % 128+128<256:=by omega
   have B:Hid ((numB (n / 128)).length<=10):=kn (by omega);clear y z;generalize hxx:n % 128+128=x at*;have hcat:=xG [x] (numB (n / 128)) (by have:=B.out;simp;omega);refine nS (i:=4) (j:=8) rfl rfl (by kernel_rfl) (by kernel_rfl) (by kernel_rfl) (by kernel_rfl) ?_ ?_
   ·intro C r;have p:=ij r;clear r;go_simp;refine p.out _ _ trivial ?_;clear p;try simp only [Act.put,List.setIfInBounds_toArray]
    have m:(convert 147 9 (.slice (some ⟨w.heap.size,0,none⟩) 1 1)).run Tryz.prog (w.alloc (.cells #[.int .u8 (x:Int)] 5)).drew= .ok (.string (bs [x])) (w.alloc (.cells #[.int .u8 (x:Int)] 5)).drew:=nY (by simp only [World.cell?];exact ui w x);refine nS (i:=5) (j:=8) rfl rfl (by kernel_rfl) (by kernel_rfl) (by kernel_rfl) (by kernel_rfl) ?_ ?_
    ·intro t f;have c:=ij f;clear f;go_simp;refine c.out _ _ trivial ?_;clear c m;try simp only [Act.put,List.setIfInBounds_toArray]
     refine iu (i:=8) rfl (by kernel_rfl) (by kernel_rfl) (by kernel_rfl) ?_;intro v k;have d:=ij k;clear k;go_simp;refine(s.out _).mono ?_;rintro e a ⟨rfl,b⟩;have o:Hid (w.grownBy a none):=il (iq (ir _ _)) (jo b);refine d.out _ _ trivial ?_;clear d b;try simp only [Act.put,List.setIfInBounds_toArray]
     refine ie 9 ?v9a rfl (by kernel_rfl) (fun _ _ _ h=>h) (by kernel_rfl) ?y9a trivial ?_
     case y9a=>(intro u l;go_simp;try rfl)
     simp only [Act.put,List.setIfInBounds_toArray];refine iF rfl (by kernel_rfl) (by kernel_rfl) (by kernel_rfl) ?_;go_simp;go_wp2_with fail
     go_ret;exact⟨by rw [q.out];rfl,o.out⟩
    ·intro v k;have d:=ij k;clear k;go_simp;refine(s.out _).mono ?_;rintro e a ⟨rfl,b⟩;have o:Hid (w.grownBy a none):=il (iq (ir _ _)) (jo b);have m:(convert 147 9 (.slice (some ⟨w.heap.size,0,none⟩) 1 1)).run Tryz.prog a= .ok (.string (bs [x])) a:=nY (ip (jo b) _ _ (by simp only [World.cell?];exact ui w x));refine d.out _ _ trivial ?_;clear d b;try simp only [Act.put,List.setIfInBounds_toArray]
     refine iu (i:=5) rfl (by kernel_rfl) (by kernel_rfl) (by kernel_rfl) ?_;intro t f;have c:=ij f;clear f;go_simp;refine c.out _ _ trivial ?_;clear c m;try simp only [Act.put,List.setIfInBounds_toArray]
     refine ie 9 ?v9b rfl (by kernel_rfl) (fun _ _ _ h=>h) (by kernel_rfl) ?y9b trivial ?_
     case y9b=>(intro u l;go_simp;try rfl)
     simp only [Act.put,List.setIfInBounds_toArray];refine iF rfl (by kernel_rfl) (by kernel_rfl) (by kernel_rfl) ?_;go_simp;go_wp2_with fail
     go_ret;exact⟨by rw [q.out];rfl,o.out⟩
   ·intro v k;have d:=ij k;clear k;go_simp;refine(s.out _).mono ?_;rintro e a ⟨rfl,b⟩;have o:Hid (w.grownBy a none):=jo b;have m:(convert 147 9 (.slice (some ⟨a.heap.size,0,none⟩) 1 1)).run Tryz.prog (a.alloc (.cells #[.int .u8 (x:Int)] 5))= .ok (.string (bs [x])) (a.alloc (.cells #[.int .u8 (x:Int)] 5)):=nY (by simp only [World.cell?];exact ui a x);refine d.out _ _ trivial ?_;clear d b;try simp only [Act.put,List.setIfInBounds_toArray]
    refine iu (i:=4) rfl (by kernel_rfl) (by kernel_rfl) (by kernel_rfl) ?_;intro C r;have p:=ij r;clear r;go_simp;refine p.out _ _ trivial ?_;clear p;try simp only [Act.put,List.setIfInBounds_toArray]
    refine iu (i:=5) rfl (by kernel_rfl) (by kernel_rfl) (by kernel_rfl) ?_;intro t f;have c:=ij f;clear f;go_simp;refine c.out _ _ trivial ?_;clear c m;try simp only [Act.put,List.setIfInBounds_toArray]
    refine ie 9 ?v9c rfl (by kernel_rfl) (fun _ _ _ h=>h) (by kernel_rfl) ?y9c trivial ?_
    case y9c=>(intro u l;go_simp;try rfl)
    simp only [Act.put,List.setIfInBounds_toArray];refine iF rfl (by kernel_rfl) (by kernel_rfl) (by kernel_rfl) ?_;go_simp;go_wp2_with fail
    go_ret;exact⟨by rw [q.out];rfl,iq o.out⟩
theorem Bm(a b:Nat)(ha:a<4294967296)(hb:b<4294967296):bits .xor .i64 (a:Int) (b:Int)=((a ^^^ b:Nat):Int):=by
 have hx:a ^^^ b<2 ^ 32:=Nat.xor_lt_two_pow (by omega) (by omega);have c:(BitVec.ofInt 64 (a:Int)).toNat=a:=by
  rw [BitVec.ofInt_natCast,BitVec.toNat_ofNat];exact Nat.mod_eq_of_lt (by omega)
 have d:(BitVec.ofInt 64 (b:Int)).toNat=b:=by
  rw [BitVec.ofInt_natCast,BitVec.toNat_ofNat];exact Nat.mod_eq_of_lt (by omega)
 show IntKind.i64.wrap ((BitVec.ofInt 64 (a:Int) ^^^ BitVec.ofInt 64 (b:Int)).toNat:Int)=_
 rw [BitVec.toNat_xor,c,d];simp only [IntKind.wrap,IntKind.signed,IntKind.bits];simp;omega
theorem wS(n:Int)(w:World)(h0: -9223372036854775808<=n)(h1:n<=9223372036854775807):Calls Tryz.prog 67 #[.int .i64 n] w fun e w'=>e= .returned (.int .u64 (zig n:Nat))/\w'=w:=by
 go_enter Tryz.func67,Tryz.ntmps67
 by_cases h:n<0
 ·have a:Hid (((zig n:Nat):Int)= -2*n - 1):=by unfold Hid zig;rw [if_pos h];omega
  go_wp2_with fail
  go_ret;exact⟨by rw [a.out,show -2*n - 1=2* -(n+1)+1 by omega];rfl,rfl⟩
 ·have a:Hid (((zig n:Nat):Int)=2*n):=by unfold Hid zig;rw [if_neg h];omega
  go_wp2_with fail
  go_ret;exact⟨by rw [a.out];rfl,rfl⟩
theorem yQ(s:ByteArray)(w:World)(hs:s.size<=9223372036854775806):Calls Tryz.prog 69 #[.string s] w fun e w'=>e= .returned (.int .i64 (crcN (byt s):Nat))/\w'=w:=by
 have q0:(s.size:Int)<=9223372036854775806:=by omega
 have o:Hid ((byt s).length=s.size):=iL s;have HB256:Hid (∀ b∈byt s,b<256):=fun b hb=>qJ s b hb
 have n:Hid (crcF 4294967295 ((byt s).take 0)=4294967295):=rfl;go_enter Tryz.func69,Tryz.ntmps69
 go_wp2_with fail
 go_loopw [3,4] (fun vv iv w'=>∃ (i v:Nat),i<=s.size/\v<4294967296/\iv= .int .i64 i/\vv= .int .i64 v/\w'=w/\Hid (crcF 4294967295 ((byt s).take i)=v)) (fun _ iv _=>s.size - (intOf iv).toNat)
 case atStart=>exact⟨0,4294967295,Nat.zero_le _,by omega,rfl,rfl,rfl,n⟩
 case round=>
  clear n;obtain⟨i,v,hi,j,rfl,rfl,l,p⟩:=hrel;subst l;by_cases B:i<s.size
  ·have t0:(0:Int)<=(i:Int):=by omega
   have E:(i:Int)<s.size:=by omega
   obtain⟨c,hc⟩:∃ c,c=s[i].toNat:=⟨_,rfl⟩;have h:c<256:=by rw [hc];exact UInt8.toNat_lt _
   have u:Hid (crcF 4294967295 ((byt s).take (i+1))=(bitsR 8 (v,c)).1):=by
    unfold Hid;have y:i<(byt s).length:=by rw [o.out];exact B
    rw [List.take_succ_eq_append_getElem y,nH,p.out,rS v c h];have:(byt s)[i]=c:=by rw [hc];simp [byt];rfl
    simp [crcF,this]
   have C:s[i].toNat=c:=hc.symm;clear hc;go_upto_region 6 with fail
   clear C;go_wp2_with fail
   go_loopw [3,5,6] (fun vv cv kv w'=>∃ k:Nat,k<=8/\kv= .int .i64 k/\vv= .int .i64 ((bitsR k (v,c)).1:Nat)/\cv= .int .i64 ((bitsR k (v,c)).2:Nat)/\w'=wr) (fun _ _ kv _=>8 - (intOf kv).toNat)
   case atStart=>exact⟨0,Nat.zero_le _,rfl,rfl,rfl,rfl⟩
   case round=>
    obtain⟨k,hk,rfl,rfl,rfl,l⟩:=hrel;subst l;by_cases hk8:k<8
    ·have F:(k:Int)<8:=by omega
     obtain⟨m,D⟩:=rT k v c j h;have d:Hid (bitsR (k+1) (v,c)=bitR (bitsR k (v,c))):=rfl;generalize bitsR k (v,c)=x at*;obtain⟨x1,x2⟩:=x;simp only at m D ⊢;by_cases f:(x1+x2) % 2=1
     ·have A:Int.tmod ((x1:Int)+(x2:Int)) 2=1:=by rw [Int.tmod_eq_emod_of_nonneg (by omega)];omega
      have hxr:bits .xor .i64 ((x1:Int) / 2) 3988292384=(((x1 / 2) ^^^ 3988292384:Nat):Int):=by
       have:=Bm (x1 / 2) 3988292384 (by omega) (by omega);rw [<-this];congr 1<;>omega
      have a:Hid (bitR (x1,x2)=((x1 / 2) ^^^ 3988292384,x2 / 2)):=by unfold Hid bitR;simp only;rw [if_pos f]
      clear f;go_wp2_with fail
      go_roundw
      case rel=>exact⟨k+1,by omega,by go_num,by rw [d.out,a.out],by rw [d.out,a.out];simp,by first | rfl | trivial⟩
      case measure=>simp [intOf];omega
     ·have A:Int.tmod ((x1:Int)+(x2:Int)) 2=0:=by rw [Int.tmod_eq_emod_of_nonneg (by omega)];omega
      have a:Hid (bitR (x1,x2)=(x1 / 2,x2 / 2)):=by unfold Hid bitR;simp only;rw [if_neg f]
      clear f;go_wp2_with fail
      go_roundw
      case rel=>exact⟨k+1,by omega,by go_num,by rw [d.out,a.out];simp,by rw [d.out,a.out];simp,by first | rfl | trivial⟩
      case measure=>simp [intOf];omega
    ·have F:(8:Int)<=(k:Int):=by omega
     have z:k=8:=by omega
     subst z;have m:=(rT 8 v c j h).1;go_wp2_with fail
     go_roundw
     case rel=>exact⟨i+1,(bitsR 8 (v,c)).1,by omega,m,by go_num,by first | rfl | trivial,by first | rfl | trivial,u⟩
     case measure=>simp [intOf];omega
  ·have E:(s.size:Int)<=(i:Int):=by omega
   have r:i=s.size:=by omega
   have t:Hid (((crcN (byt s):Nat):Int)=4294967295 - (v:Int)):=by
    have q:=p.out;rw [r,List.take_of_length_le (by rw [o.out];omega)]at q;unfold Hid crcN;rw [q,xI v j];omega
   clear r;go_wp2_with fail
   go_ret;exact⟨by rw [t.out];rfl,rfl⟩
def RdG(w:World)(b:Nat)(s:ByteArray)(l:List Nat)(bad:Bool):Prop:=
 ∃ k:Nat,w.heap[b]?=some (.cells #[.string s,.int .i64 (k:Int),.bool bad] 180 (0,0))/\l=(byt s).drop k/\k<=s.size+3
theorem RdG.step{w w':World}{b:Nat}{s:ByteArray}{l:List Nat}{bad:Bool}(h:RdG w b s l bad)(e:w'.heap[b]?=w.heap[b]?):RdG w' b s l bad:=by
 obtain⟨k,a,c,d⟩:=h;exact⟨k,by rw [e];exact a,c,d⟩
theorem RdG.bad{w:World}{b:Nat}{s:ByteArray}{l:List Nat}{bad:Bool}(h:RdG w b s l bad):w.cell? ⟨b,2,none⟩=some (.bool bad):=by
 obtain⟨k,a,h2,h3⟩:=h;simp [World.cell?,a]
theorem pl{w:World}{b:Nat}{x0 x1 x2:Value}{t:TypeId}(h:w.heap[b]?=some (.cells #[x0,x1,x2] t (0,0))):w.cell? ⟨b,0,none⟩=some x0/\w.cell? ⟨b,1,none⟩=some x1/\w.cell? ⟨b,2,none⟩=some x2/\w.frozen? ⟨b,1,none⟩=false/\w.frozen? ⟨b,2,none⟩=false:=by
 simp [World.cell?,World.frozen?,h]
theorem ja(w:World)(b o:Nat)(v:Value):w.grownBy (w.setCell ⟨b,o,none⟩ v) (some b):=
 ⟨rfl,rfl,rfl,by simp,fun k _ hk=>Below.heap_setCell _ _ _ _ (fun e=>hk (by simp only at e;rw [e]))⟩
theorem Bq(w:World)(b:Nat)(s:ByteArray)(l:List Nat)(bad:Bool)(h:RdG w b s l bad)(hs:s.size<=9223372036854775000):
  Calls Tryz.prog 99 #[pt b] w fun e w'=>e= .returned (.int .u64 ((bigG 10 1 0 l).1:Nat))/\RdG w' b s (bigG 10 1 0 l).2.1 (bad || (bigG 10 1 0 l).2.2)/\w.grownBy w' (some b):=by
 have A:=ij h;have F:pt b= .pointer (some ⟨b,0,none⟩):=rfl;rw [F];clear h F;go_enter Tryz.func99,Tryz.ntmps99
 go_wp2_with fail
 go_loopw [3,4,5] (fun vv uv kv w'=>∃ (k v u:Nat) (o:List Nat),k<=10/\v<18446744073709551616/\u<18446744073709551616/\kv= .int .i64 k/\vv= .int .u64 v/\uv= .int .u64 u/\Hid (RdG w' b s o bad/\bigG (10 - k) u v o=bigG 10 1 0 l/\w.grownBy w' (some b))) (fun _ _ kv _=>10 - (intOf kv).toNat)
 case atStart=>exact⟨0,0,1,l,by omega,by omega,by omega,rfl,rfl,rfl,⟨A.out,rfl,ir _ _⟩⟩
 case round=>
  clear A;obtain⟨k,v,u,o,hk,hv,hu,rfl,rfl,rfl,m⟩:=hrel;obtain⟨f,G⟩:∃ f,f=wr:=⟨_,rfl⟩;rw [<-G]at m ⊢;clear G;obtain⟨a,z,r,D⟩:=m.out.1;obtain⟨c0,c1,c2,f1,f2⟩:=pl z;have HB:=ij z;clear z;have qa:(a:Int)<=9223372036854775003:=by omega
  by_cases hk10:k<10
  ·have M:(k:Int)<10:=by omega
   obtain⟨j,E⟩:∃ j,10 - k=j+1:=⟨9 - k,by omega⟩;by_cases J:a<s.size
   ·have N:(a:Int)<s.size:=by omega
    have t2:(0:Int)<=(a:Int):=by omega
    have p:Hid (o=s[a].toNat::(byt s).drop (a+1)):=by
     unfold Hid;rw [r];have I:a<(byt s).length:=by rw [iL];exact J
     rw [List.drop_eq_getElem_cons I];congr 1
     simp [byt];rfl
    obtain⟨c,hc⟩:∃ c,s[a].toNat=c:=⟨_,rfl⟩;have hc256:c<256:=by rw [<-hc];exact UInt8.toNat_lt _
    rw [hc]at p;have hm:Int.tmod (c:Int) 128=((c % 128:Nat):Int):=by rw [Int.tmod_eq_emod_of_nonneg (by omega)];omega
    have B:Hid (∀ w2,Like w2 f->RdG (w2.setCell ⟨b,1,none⟩ (.int .i64 ((a:Int)+1))) b s ((byt s).drop (a+1)) bad/\w.grownBy (w2.setCell ⟨b,1,none⟩ (.int .i64 ((a:Int)+1))) (some b)):=fun w2 hl2=>by
     refine⟨⟨a+1,?_,rfl,by omega⟩,il (iR m.out.2.2 hl2) (ja _ _ _ _)⟩;rw [heap_setCell_same w2 b 1 _ _ _ (by rw [hl2.1];exact HB.out)];rfl
    have q:IntKind.u64.wrap ((v:Int)+IntKind.u64.wrap ((u:Int)*((c:Int) % 128)))=(((v+u*(c % 128)) % 18446744073709551616:Nat):Int):=by
     have i:(u:Int)*((c:Int) % 128)=((u*(c % 128):Nat):Int):=by push_cast;rfl
     rw [i,IntKind.wrap_u64,IntKind.wrap_u64];omega
    have y:IntKind.u64.wrap ((u:Int)*128)=((u*128 % 18446744073709551616:Nat):Int):=by
     rw [IntKind.wrap_u64];omega
    have d:=ij m.out.2.1;rw [E,p.out,bigG]at d;have L:(v+u*(c % 128)) % 18446744073709551616<18446744073709551616:=Nat.mod_lt _ (by omega);have K:u*128 % 18446744073709551616<18446744073709551616:=Nat.mod_lt _ (by omega);generalize (v+u*(c % 128)) % 18446744073709551616=V at*;generalize u*128 % 18446744073709551616=U at*;by_cases C:c<128
    ·rw [if_pos C]at d;have O:(c:Int)<128:=by omega
     have t:=ij q;clear q y;go_upto_region 6 with fail
     go_quiet (fail)
     go_wp2_with fail
     go_quiet (fail)
     go_wp2_with fail
     go_ret;obtain⟨i,n⟩:=B.out _ (jB f _);refine⟨?_,?_,n⟩
     ·rw [<-d.out];simp only;rw [<-t.out];rfl
     ·rw [<-d.out];simp only [Bool.or_false];exact i
    ·rw [if_neg C]at d;have O:(128:Int)<=(c:Int):=by omega
     have t:=ij q;have H:=ij y;clear q y;go_upto_region 6 with fail
     go_quiet (fail)
     go_wp2_with fail
     go_quiet (fail)
     go_wp2_with fail
     go_roundw
     case rel=>
      obtain⟨i,n⟩:=B.out _ (jB f _);exact⟨k+1,V,U,(byt s).drop (a+1),by omega,L,K,by go_num,by rw [<-t.out],by rw [<-H.out],⟨i,by rw [show 10 - (k+1)=j by omega];exact d.out,n⟩⟩
     case measure=>simp [intOf];omega
   ·have N:(s.size:Int)<=(a:Int):=by omega
    have p:Hid (o=[]):=by unfold Hid;rw [r];exact List.drop_eq_nil_of_le (by rw [iL];omega)
    have x:Hid (∀ w2,Like w2 f->RdG (w2.setCell ⟨b,2,none⟩ (.bool true)) b s [] true/\w.grownBy (w2.setCell ⟨b,2,none⟩ (.bool true)) (some b)):=fun w2 hl2=>by
     refine⟨⟨a,?_,by rw [<-r,p.out],D⟩,il (iR m.out.2.2 hl2) (ja _ _ _ _)⟩;rw [heap_setCell_same w2 b 2 _ _ _ (by rw [hl2.1];exact HB.out)];rfl
    have d:=ij m.out.2.1;rw [E,p.out,bigG]at d;go_upto_region 6 with fail
    go_quiet (fail)
    go_wp2_with fail
    go_ret;obtain⟨i,n⟩:=x.out _ (jB f _);refine⟨?_,?_,n⟩
    ·rw [<-d.out];rfl
    ·rw [<-d.out];simp only [Bool.or_true];exact i
  ·have M:(10:Int)<=(k:Int):=by omega
   have x:Hid (RdG (f.setCell ⟨b,2,none⟩ (.bool true)) b s o true/\w.grownBy (f.setCell ⟨b,2,none⟩ (.bool true)) (some b)):=by
    refine⟨⟨a,?_,r,D⟩,il m.out.2.2 (ja _ _ _ _)⟩;rw [heap_setCell_same f b 2 _ _ _ HB.out];rfl
   have d:=ij m.out.2.1;rw [show 10 - k=0 by omega,bigG]at d;go_wp2_with fail
   go_ret;obtain⟨i,n⟩:=x.out;refine⟨?_,?_,n⟩
   ·rw [<-d.out];rfl
   ·rw [<-d.out];simp only [Bool.or_true];exact i
theorem kH(w:World)(b:Nat)(s:ByteArray)(l:List Nat)(bad:Bool)(c:Nat)(hmost:c<=1000)(h:RdG w b s l bad)(B:s.size<=9223372036854775000):
  Calls Tryz.prog 98 #[pt b,.int .i64 (c:Int)] w fun e w'=>e= .returned (.int .i64 ((numG c l).1:Nat))/\RdG w' b s (numG c l).2.1 (bad || (numG c l).2.2)/\w.grownBy w' (some b):=by
 have f:=ij (Bq w b s l bad h B);have q:pt b= .pointer (some ⟨b,0,none⟩):=rfl;rw [q]at f ⊢;clear h q;have C:=nW 10 1 0 l;go_enter Tryz.func98,Tryz.ntmps98
 go_wp2_with fail
 refine f.out.mono ?_;clear f;rintro e j ⟨rfl,t,n⟩;have m:=ij t;have k:=ij n;obtain⟨a,i,o,A⟩:=t;obtain⟨c0,c1,x,f1,f2⟩:=pl i;have HB:=ij i;clear i n;have qm:(c:Int)<=1000:=by omega
 have d:Hid (numG c l=if c<(bigG 10 1 0 l).1 then (0,(bigG 10 1 0 l).2.1,true) else bigG 10 1 0 l):=rfl;generalize bigG 10 1 0 l=X at*;obtain⟨v,r,bd⟩:=X;simp only at C o HB m d x ⊢;by_cases p:c<v
 ·have D:(c:Int)<(v:Int):=by omega
  rw [if_pos p]at d;have u:Hid (RdG (j.setCell ⟨b,2,none⟩ (.bool true)) b s r true/\w.grownBy (j.setCell ⟨b,2,none⟩ (.bool true)) (some b)):=by
   refine⟨⟨a,?_,o,A⟩,il k.out (ja _ _ _ _)⟩;rw [heap_setCell_same j b 2 _ _ _ HB.out];rfl
  go_wp2_with fail
  go_ret;rw [d.out];obtain⟨y,z⟩:=u.out;exact⟨rfl,by simp only [Bool.or_true];exact y,z⟩
 ·have D:(v:Int)<=(c:Int):=by omega
  rw [if_neg p]at d;go_wp2_with fail
  go_ret;rw [d.out];exact⟨rfl,m.out,k.out⟩
end
section
open Go.RowKit
structure GuS(W w:World)(b n5 n2 L:Nat)(s:ByteArray)(l:List Nat)(bad:Bool)(tv sv:Value)(v:Int × Int × Int)(p:List (List Ins))(sch:List Int):Prop where
 rd:RdG w b s l bad
 art:w.heap[n5]?=some (.cells #[tv,sv,.int .i64 v.1,.int .i64 v.2.1,.int .i64 v.2.2] 56 (0,0))
 res:w.heap[n2]?=some (.cells #[.slice none 0 0,.slice none 0 0,.int .i64 0,.int .i64 0,.int .i64 0] 56 (0,0))
 thr:ThrAt L w.heap.size w tv p
 row:w.ownsRow L 3 1 sv sch.length (ints sch)
 base:W.grownBy w none
 ord:W.heap.size<=n2/\n2<b/\b<n5/\L=n5+1
theorem ThrAt.same{L B:Nat}{w w':World}{tv:Value}{p:List (List Ins)}(h:ThrAt L B w tv p)(d:∀ k cs t,w.heap[k]?=some (.cells cs t (0,0))->t≠3->L<=k->w'.heap[k]?=w.heap[k]?):ThrAt L B w' tv p:=by
 obtain⟨rows,c,i,l,m⟩:=h;refine⟨rows,iI c (fun g e=>?_),i,fun j hj=>?_,m⟩
 ·rcases c.2 with ⟨a,_⟩ | ⟨g',cap,cur,hv,hlo,hh,_⟩
  ·rw [a]at e;cases e
  ·rw [hv]at e;simp only [Value.ownBlock,Option.some.injEq]at e;subst e;exact d _ _ _ hh (by decide) hlo
 ·obtain⟨rv,a,b,f⟩:=l j hj;refine⟨rv,a,iI b (fun g e=>?_),f⟩;rcases b.2 with ⟨e4,_⟩ | ⟨g',cap,cur,hv,hlo,hh,_⟩
  ·rw [e4]at e;cases e
  ·rw [hv]at e;simp only [Value.ownBlock,Option.some.injEq]at e;subst e;exact d _ _ _ hh (by decide) hlo
section
variable {W w w' w6 : World} {b n5 n2 L : Nat} {s : ByteArray} {l l' : List Nat} {bad bad' : Bool} {tv sv : Value} {v : Int × Int × Int} {p : List (List Ins)} {sch : List Int}
theorem GuS.lt(h:GuS W w b n5 n2 L s l bad tv sv v p sch):b<w.heap.size/\n5<w.heap.size/\n2<w.heap.size:=by
 obtain⟨k,a,_⟩:=h.rd;exact⟨(Array.getElem?_eq_some_iff.1 a).1,(Array.getElem?_eq_some_iff.1 h.art).1,(Array.getElem?_eq_some_iff.1 h.res).1⟩
theorem GuS.acell(h:GuS W w b n5 n2 L s l bad tv sv v p sch):w.cell? ⟨n5,0,none⟩=some tv/\w.cell? ⟨n5,1,none⟩=some sv/\w.cell? ⟨n5,2,none⟩=some (.int .i64 v.1)/\w.cell? ⟨n5,3,none⟩=some (.int .i64 v.2.1)/\w.cell? ⟨n5,4,none⟩=some (.int .i64 v.2.2)/\∀ o,w.frozen? ⟨n5,o,none⟩=false:=by
 simp [World.cell?,World.frozen?,h.art]
theorem GuS.rcell(h:GuS W w b n5 n2 L s l bad tv sv v p sch):∀ o,w.frozen? ⟨n2,o,none⟩=false:=by
 simp [World.frozen?,h.res]
theorem GuS.call(h:GuS W w b n5 n2 L s l bad tv sv v p sch)(c:RdG w' b s l' bad')(a:w.grownBy w' (some b)):GuS W w' b n5 n2 L s l' bad' tv sv v p sch:=by
 obtain⟨o1,o2,o3,o4⟩:=h.ord;refine⟨c,?_,?_,?_,?_,?_,h.ord⟩
 ·rw [a.block n5 h.lt.2.1 (by simp only [ne_eq,Option.some.injEq];omega)];exact h.art
 ·rw [a.block n2 h.lt.2.2 (by simp only [ne_eq,Option.some.injEq];omega)];exact h.res
 ·exact(h.thr.step a (fun q e=>by simp only [Option.some.injEq]at e;omega)).mono a.size
 ·exact jq h.row a (fun k e e2=>by simp only [Option.some.injEq]at e;have:=iA h.row k e2;omega)
 ·exact⟨a.os.trans h.base.os,a.tape.trans h.base.tape,a.output.trans h.base.output,Nat.le_trans h.base.size a.size,fun k hk _=>by
   rw [a.block k (Nat.lt_of_lt_of_le hk h.base.size) (fun e=>by simp only [Option.some.injEq]at e;omega)];exact h.base.block k hk (by simp)⟩
theorem GuS.like(h:GuS W w b n5 n2 L s l bad tv sv v p sch)(hl:Like w' w):GuS W w' b n5 n2 L s l bad tv sv v p sch:=
 h.call (h.rd.step (by rw [hl.1])) (iH hl)
theorem GuS.setA(h:GuS W w b n5 n2 L s l bad tv sv v p sch)(j:Nat)(x:Int)(a:Int × Int × Int)(d:(j=2/\a=(x,v.2.1,v.2.2))\/(j=3/\a=(v.1,x,v.2.2))\/(j=4/\a=(v.1,v.2.1,x))):GuS W (w.setCell ⟨n5,j,none⟩ (.int .i64 x)) b n5 n2 L s l bad tv sv a p sch:=by
 obtain⟨o1,o2,o3,o4⟩:=h.ord;have c:=ja w n5 j (.int .i64 x);refine⟨h.rd.step (Below.heap_setCell _ _ _ _ (by simp only;omega)),?_,?_,?_,?_,?_,h.ord⟩
 ·rw [heap_setCell_same w n5 j _ _ _ h.art];rcases d with ⟨rfl,rfl⟩ | ⟨rfl,rfl⟩ | ⟨rfl,rfl⟩<;>rfl
 ·rw [Below.heap_setCell _ _ _ _ (by simp only;omega)];exact h.res
 ·exact(h.thr.step c (fun q e=>by simp only [Option.some.injEq]at e;omega)).mono c.size
 ·exact jq h.row c (fun k e e2=>by simp only [Option.some.injEq]at e;have:=iA h.row k e2;omega)
 ·exact iD h.base (by omega)
theorem GuS.push(h:GuS W w b n5 n2 L s l bad tv sv v p sch){t:Int}{o:Obj}{g6 c6 N:Nat}(u:N=sch.length)
  (j:w6.ownsRow L 3 1 (.slice (some ⟨g6,0,none⟩) (N+1) c6) (N+1) (ints sch++[.int .i64 t]))
  (key:(sv.ownBlock=some g6/\(w.alloc o).grownBy w6 (some g6))\/(g6=w.heap.size+1/\(w.alloc o).grownBy w6 none)):
  (w6.cell? ⟨n5,1,none⟩=some sv/\w6.frozen? ⟨n5,1,none⟩=false)/\GuS W (w6.setCell ⟨n5,1,none⟩ (.slice (some ⟨g6,0,none⟩) (N+1) c6)) b n5 n2 L s l bad tv (.slice (some ⟨g6,0,none⟩) (N+1) c6) v p (sch++[t]):=by
 subst u;obtain⟨o1,o2,o3,o4⟩:=h.ord;have hL6:L<=g6:=iA j g6 rfl;have m:w.heap.size<=w6.heap.size:=by
  rcases key with ⟨_,hg⟩ | ⟨_,hg⟩<;>(have:=hg.size;simp at this;omega)
 have c:∀ k,k<w.heap.size->k≠g6->w6.heap[k]?=w.heap[k]?:=fun k hk hne=>by
  rcases key with ⟨_,hg⟩ | ⟨_,hg⟩
  ·rw [hg.block k (by simp;omega) (by simpa using hne),Below.heap_alloc _ _ _ hk]
  ·rw [hg.block k (by simp;omega) (by simp),Below.heap_alloc _ _ _ hk]
 have f:w6.heap[n5]?=some (.cells #[tv,sv,.int .i64 v.1,.int .i64 v.2.1,.int .i64 v.2.2] 56 (0,0)):=by rw [c n5 h.lt.2.1 (by omega)];exact h.art
 have x:W.grownBy w6 none:=by
  rcases key with ⟨_,hg⟩ | ⟨_,hg⟩
  ·exact⟨hg.os.trans h.base.os,hg.tape.trans h.base.tape,hg.output.trans h.base.output,Nat.le_trans h.base.size m,fun k hk _=>by
    rw [c k (Nat.lt_of_lt_of_le hk h.base.size) (by omega)];exact h.base.block k hk (by simp)⟩
  ·exact il h.base (il (iq (ir _ _)) hg)
 have y:ThrAt L w6.heap.size w6 tv p:=by
  refine(h.thr.same (fun k cs ty hk hty hlo=>c k (Array.getElem?_eq_some_iff.1 hk).1 (fun e=>?_))).mono m;subst e;rcases key with ⟨e,hg⟩ | ⟨e,hg⟩
  ·rcases h.row.2 with ⟨e4,_⟩ | ⟨g',cap,cur,hv,_,hh,_⟩
   ·rw [e4]at e;cases e
   ·rw [hv]at e;simp only [Value.ownBlock,Option.some.injEq]at e;subst e;rw [hh]at hk;simp only [Option.some.injEq,Obj.cells.injEq]at hk;exact hty hk.2.1.symm
  ·have:=(Array.getElem?_eq_some_iff.1 hk).1;omega
 have i:=ja w6 n5 1 (.slice (some ⟨g6,0,none⟩) (sch.length+1) c6);refine⟨⟨by simp [World.cell?,f],by simp [World.frozen?,f]⟩,⟨?_,?_,?_,?_,?_,?_,h.ord⟩⟩
 ·refine(h.rd.step (c b h.lt.1 (by omega))).step (Below.heap_setCell _ _ _ _ (by simp only;omega))
 ·rw [heap_setCell_same w6 n5 1 _ _ _ f];rfl
 ·rw [Below.heap_setCell _ _ _ _ (by simp only;omega),c n2 h.lt.2.2 (by omega)];exact h.res
 ·exact(y.step i (fun q e=>by simp only [Option.some.injEq]at e;omega)).mono i.size
 ·have r:=jq j i (fun k e d=>by simp only [Option.some.injEq]at e;simp only [Value.ownBlock,Option.some.injEq]at d;omega);have n:(sch++[t]).length=sch.length+1:=by simp
  have d:ints (sch++[t])=ints sch++[.int .i64 t]:=by simp [ints]
  rw [n,d];exact r
 ·exact iD x (by omega)
end
end
end Go.Proofs.YtklenjmfalljgabGreatDoor
