/- The texts Hge Hgf Hgg Hgh Hgi. -/
import Derived.Test.YtklenjmfalljgabGreatDoorM07
namespace Go.Proofs.YtklenjmfalljgabGreatDoor
set_option maxRecDepth 100000
set_option maxHeartbeats 8000000
section
open Go.RowKit
attribute [local go_sem] Go.World.cell?_alloc_some
def HsK(B:Nat)(w:World)(b:Nat)(who:Nat->Role)(n:Int)(f:Nat->Value)(K:Nat->List (Value × Int)):Prop:=
 Hs B w b who n f K (jp K)/\∀ c',c'<5->∀ x∈K c',∀ g,x.1.ownBlock=some g->who g= .kept
structure oB(c:Nat)(w w':World)(who who':Nat->Role)(f f':Nat->Value)(K K':Nat->List (Value × Int))(ex:Nat->Prop):Prop where
 fr:Fr w w' who who' ex
 lent:∀ o,o<5->f' o=f o
 len:(K' c).length=(K c).length+4
 oth:∀ c',c'≠c->K' c'=K c'
structure WrG(B c:Nat)(w0 w:World)(b:Nat)(who:Nat->Role)(n:Int)(f0 f:Nat->Value)(K:Nat->List (Value × Int))(lv:Value)(len:Nat)(xs:List Value)(m:Int)(k:Nat):Prop where
 hs:HsK B w b who n f K
 row:w.ownsRow B (teC c) (elC m c).length lv len ((List.replicate k (elC m c)).flatten++xs.drop (k*(elC m c).length))
 fr:Fr w0 w who who (fun g=>lv.ownBlock=some g)
 lent:∀ o,o<5->f o=f0 o
structure KpG(B c:Nat)(w0 w:World)(b:Nat)(who0 who:Nat->Role)(n m:Int)(f0 f:Nat->Value)(K0 K:Nat->List (Value × Int))(lv:Value)(len k:Nat)(ex:Nat->Prop):Prop where
 hs:Hs B w b who n f K (jp K)
 cu:Cur B w who m c lv len K
 fr:Fr w0 w who0 who ex
 lent:∀ o,o<5->f o=f0 o
 len:(K c).length=(K0 c).length+k
 oth:∀ c',c'≠c->K c'=K0 c'
structure KpA(B c:Nat)(w0 w:World)(b:Nat)(who0 who:Nat->Role)(n m:Int)(f0 f:Nat->Value)(K0 K:Nat->List (Value × Int))(lv:Value)(len k:Nat)(ex:Nat->Prop):Prop where
 hs:Hs B w b who n f (oD K c (K c++[(lv,m)])) (jp K)
 cu:Cur B w who m c lv len (oD K c (K c++[(lv,m)]))
 fr:Fr w0 w who0 who ex
 lent:∀ o,o<5->f o=f0 o
 len:(K c).length=(K0 c).length+k
 oth:∀ c',c'≠c->K c'=K0 c'
theorem lO{w:World}{B:Nat}{e:TypeId}{z g n a:Nat}{xs:List Value}{i:Nat}(h:w.ownsRow B e z (.slice (some ⟨g,0,none⟩) n a) n xs)(b:i<n*z):∃ u,w.cell? ⟨g,i,none⟩=some u:=by
 have h1:=h.1;exact⟨xs[i]'(by omega),by rw [h.cellAt i b,List.getElem?_eq_getElem]⟩
theorem lL{w:World}{B:Nat}{e:TypeId}{z g n a:Nat}{xs:List Value}{i:Nat}(h:w.ownsRow B e z (.slice (some ⟨g,0,none⟩) n a) n xs):w.frozen? ⟨g,i,none⟩=false:=by
 rcases h.2 with ⟨e,_⟩ | ⟨g',cap',cur,hv,_,hh,_⟩
 ·cases e
 ·simp only [Value.slice.injEq,Option.some.injEq,Addr.mk.injEq,true_and,and_true]at hv;obtain⟨rfl,rfl⟩:=hv;simp [World.frozen?,hh]
section
variable {B c : Nat} {w0 w w6 : World} {b : Nat} {who0 who : Nat -> Role} {n m : Int} {f0 f : Nat -> Value} {K0 K : Nat -> List (Value × Int)} {M : Nat -> List Int} {lv : Value} {len k : Nat} {ex : Nat -> Prop} {xs : List Value}
theorem HsK.setOther(h:HsK B w b who n f K){g o:Nat}{v:Value}(hg:who g= .other):HsK B (w.setCell ⟨g,o,none⟩ v) b who n f K:=
 ⟨h.1.same (by simp) (fun g' _ h2 _=>Below.heap_setCell _ _ _ _ (fun e=>by simp only at e;subst e;exact h2 hg)),h.2⟩
theorem HsK.grown{w':World}(h:HsK B w b who n f K)(hg:w.grownBy w' none):HsK B w' b who n f K:=⟨h.1.grown hg,h.2⟩
theorem HsK.like{w':World}(h:HsK B w b who n f K)(hl:ju w' w):HsK B w' b who n f K:=⟨h.1.like hl,h.2⟩
theorem ti(K:Nat->List (Value × Int))(c:Nat)(v:Value)(m:Int):jp (oD K c (K c++[(v,m)]))=vT (jp K) c (jp K c++[m]):=by
 funext k
 unfold jp oD vT;by_cases e:k=c
 ·subst e;simp
 ·simp [e]
theorem WrG.kp(h:WrG B c w0 w b who n f0 f K lv len xs m len)(hc:c<4)(p:xs.length=len*(elC m c).length)(k:len<=1000)(o:∀ g,lv.ownBlock=some g->who g= .other):
  ∃ who1,KpG B c w0 w b who who1 n m f0 f K K lv len 0 (fun g=>lv.ownBlock=some g):=by
 have d:=h.row;rw [List.drop_eq_nil_of_le (by rw [p];exact Nat.le_refl _),List.append_nil]at d;obtain⟨i,l,j,e⟩:=h.hs.1.begin hc h.hs.2 d k o;refine⟨i,l,j,⟨h.fr.os,h.fr.tape,h.fr.output,h.fr.size,fun g q1 q2 q3=>?_⟩,h.lent,rfl,fun _ _=>rfl⟩;obtain⟨a,b⟩:=h.fr.oth g q1 q2 q3;exact⟨a,by rw [e g q3];exact b⟩
theorem KpG.push(h:KpG B c w0 w b who0 who n m f0 f K0 K lv len k ex)(hc:c<4){o:Obj}{g6 c6:Nat}
  (i:w6.ownsRow B (tlC c) 1 (.slice (some ⟨g6,0,none⟩) ((K c).length+1) c6) ((K c).length+1) ((K c).map (·.1)++[lv]))
  (key:((f (6+2*c)).ownBlock=some g6/\(w.alloc o).grownBy w6 (some g6))\/(g6=w.heap.size+1/\(w.alloc o).grownBy w6 none)):
  HB w6 b f/\∃ who' f',KpA B c w0 (w6.setCell ⟨b,6+2*c,none⟩ (.slice (some ⟨g6,0,none⟩) ((K c).length+1) c6)) b who0 who' n m f0 f' K0 K lv len k ex/\f' (7+2*c)=f (7+2*c):=by
 obtain⟨hsz,l,hsr,h6r⟩:=kB key (fun g e=>(h.hs.dom g e).2) (r:= .lst c) (by simp) (h.hs.wl c (by omega));have d:HB w6 b f:=h.hs.blk.same (l b (by rw [h.hs.wb];simp) (by rw [h.hs.wb];simp)).1;obtain⟨a,j⟩:=h.hs.push h.cu hc i key;refine⟨d,_,_,⟨a,j,?_,fun o ho=>by rw [iX _ _ (by omega)];exact h.lent o ho,h.len,h.oth⟩,iX _ _ (by omega)⟩;refine(h.fr.trans (Fr.key (r:= .lst c) (fun g e=>by rw [h.hs.wl c (by omega) g e];simp) key)).trans (Fr.set (Or.inl ?_));have:=a.wb;rw [this];simp
theorem KpA.tell(h:KpA B c w0 w b who0 who n m f0 f K0 K lv len k ex)(hc:c<4){M1:Option Addr}{N M3:Nat}(l:f (7+2*c)= .slice M1 N M3)(q:(K c).length=N){o:Obj}{g6 c6:Nat}
  (p:w6.ownsRow B 3 1 (.slice (some ⟨g6,0,none⟩) (N+1) c6) (N+1) (iM ((K c).map (·.2))++[.int .i64 m]))
  (key:((Value.slice M1 N M3).ownBlock=some g6/\(w.alloc o).grownBy w6 (some g6))\/(g6=w.heap.size+1/\(w.alloc o).grownBy w6 none)):
  HB w6 b f/\∃ who' f',KpG B c w0 (w6.setCell ⟨b,7+2*c,none⟩ (.slice (some ⟨g6,0,none⟩) (N+1) c6)) b who0 who' n m f0 f' K0 (oD K c (K c++[(lv,m)])) lv len (k+1) ex:=by
 rw [<-l]at key;obtain⟨hsz,s,hsr,h6r⟩:=kB key (fun g e=>(h.hs.dom g e).2) (r:= .mrk c) (by simp) (h.hs.wm c (by omega));have j:HB w6 b f:=h.hs.blk.same (s b (by rw [h.hs.wb];simp) (by rw [h.hs.wb];simp)).1;have i:(jp K c).length=N:=by simp [jp,q]
 obtain⟨a,d⟩:=h.hs.tell h.cu hc (w6:=w6) (g6:=g6) (c6:=c6) (o:=o) (by rw [i];exact p) key;rw [i]at a d;refine⟨j,_,_,⟨by rw [ti];exact a,d,?_,fun o ho=>by rw [iX _ _ (by omega)];exact h.lent o ho,by rw [nC,List.length_append,h.len];simp;omega,fun c' hc'=>by rw [nH _ _ hc'];exact h.oth c' hc'⟩⟩;refine(h.fr.trans (Fr.key (r:= .mrk c) (fun g e=>by rw [h.hs.wm c (by omega) g e];simp) key)).trans (Fr.set (Or.inl ?_));have:=a.wb;rw [this];simp
theorem KpG.grow(h:KpG B c w0 w b who0 who n m f0 f K0 K lv len k ex)(hc:c<4)(d:len+1<=1000){o:Obj}{g6 c6:Nat}
  (i:w6.ownsRow B (teC c) (elC m c).length (.slice (some ⟨g6,0,none⟩) (len+1) c6) (len+1) ((List.replicate len (elC m c)).flatten++elC m c))
  (key:(lv.ownBlock=some g6/\(w.alloc o).grownBy w6 (some g6))\/(g6=w.heap.size+1/\(w.alloc o).grownBy w6 none)):
  ∃ who',KpG B c w0 w6 b who0 who' n m f0 f K0 K (.slice (some ⟨g6,0,none⟩) (len+1) c6) (len+1) k ex:=by
 obtain⟨a,j⟩:=h.hs.grow h.cu hc d i key;exact⟨_,a,j,h.fr.trans (Fr.key (fun g e=>by rw [h.cu.wc g e];simp) key),h.lent,h.len,h.oth⟩
theorem KpG.done(h:KpG B c w0 w b who0 who n m f0 f K0 K lv len 4 ex):∃ who' f' K',HsK B w b who' n f' K'/\oB c w0 w who0 who' f0 f' K0 K' ex:=
 ⟨mH who,f,K,⟨h.hs.settled.1,h.hs.settled.2⟩,⟨h.fr.settled,h.lent,h.len,h.oth⟩⟩
end
theorem sR{B:Nat}{w:World}{b:Nat}{who:Nat->Role}{n:Int}{f:Nat->Value}{K:Nat->List (Value × Int)}{M:Nat->List Int}(h:Hs B w b who n f K M)(h0:0<=n)(h1:n<=10000000000000):
  Calls Tryz.prog 55 #[pt b] w fun e w'=>e= .returned (.int .i64 (-77000000 - (n+1)))/\w'=w.setCell ⟨b,5,none⟩ (.int .i64 (n+1)):=by
 have c5:w.cell? ⟨b,5,none⟩=some (.int .i64 n):=by rw [h.blk.cell (by omega),h.cnt]
 have f5:=h.blk.frozen 5;have c6:(w.setCell ⟨b,5,none⟩ (.int .i64 (n+1))).cell? ⟨b,5,none⟩=some (.int .i64 (n+1)):=by rw [(h.blk.set (by omega) (.int .i64 (n+1))).cell (by omega),lJ]
 have a:pt b= .pointer (some ⟨b,0,none⟩):=rfl;rw [a];clear h a;go_enter Tryz.func55,Tryz.ntmps55
 go_wp2_with fail
 go_ret;exact⟨rfl,rfl⟩
end
section
open Go.RowKit
def tR:Nat->TypeId
 | 0=>39
 | 1=>39
 | 2=>66
 | 3=>66
 | _=>35
structure Lr(B:Nat)(w:World)(who:Nat->Role)(f:Nat->Value)(E:Nat->List Value):Prop where
 r:∀ k,k<5->w.ownsRow B (tR k) 1 (f k) (E k).length (E k)
 wr:∀ k,k<5->∀ g,(f k).ownBlock=some g->who g= .lrow k
def kF(E:Nat->List Value)(k:Nat)(l:List Value):Nat->List Value:=fun j=>if j=k then l else E j
theorem Ea(E:Nat->List Value)(k:Nat)(l:List Value):kF E k l k=l:=by simp [kF]
theorem vP(E:Nat->List Value){k j:Nat}(l:List Value)(h:j≠k):kF E k l j=E j:=by simp [kF,h]
section
variable {B : Nat} {w w6 w' : World} {b : Nat} {who who' : Nat -> Role} {n : Int} {f : Nat -> Value} {K : Nat -> List (Value × Int)} {M : Nat -> List Int} {E : Nat -> List Value}
theorem Lr.same(h:Lr B w who f E)(hb:∀ g k,who g= .lrow k->w'.heap[g]?=w.heap[g]?):Lr B w' who f E:=
 ⟨fun k hk=>iN (h.r k hk) (fun g e=>hb g k (h.wr k hk g e)),h.wr⟩
theorem Lr.grown(h:Lr B w who f E)(hg:w.grownBy w' none):Lr B w' who f E:=
 ⟨fun k hk=>iN (h.r k hk) (fun g e=>hg.block g (i6 (h.r k hk) g e) (by simp)),h.wr⟩
theorem Lr.more(h:Lr B w who f E)(hw:∀ g,who g≠ .other->who' g=who g):Lr B w who' f E:=
 ⟨h.r,fun k hk g e=>by have:=h.wr k hk g e;rw [hw g (by rw [this];simp),this]⟩
theorem Lr.push(h:Lr B w who f E)(c:Hs B w b who n f K M){k:Nat}(p:k<5){v:Value}{o:Obj}{g6 c6:Nat}
  (q:w6.ownsRow B (tR k) 1 (.slice (some ⟨g6,0,none⟩) ((E k).length+1) c6) ((E k).length+1) (E k++[v]))
  (key:((f k).ownBlock=some g6/\(w.alloc o).grownBy w6 (some g6))\/(g6=w.heap.size+1/\(w.alloc o).grownBy w6 none)):
  HB w6 b f/\Hs B (w6.setCell ⟨b,k,none⟩ (.slice (some ⟨g6,0,none⟩) ((E k).length+1) c6)) b (setW who g6 (.lrow k)) n (lw f k (.slice (some ⟨g6,0,none⟩) ((E k).length+1) c6)) K M/\
  Lr B (w6.setCell ⟨b,k,none⟩ (.slice (some ⟨g6,0,none⟩) ((E k).length+1) c6)) (setW who g6 (.lrow k)) (lw f k (.slice (some ⟨g6,0,none⟩) ((E k).length+1) c6)) (kF E k (E k++[v]))/\
  Fr w (w6.setCell ⟨b,k,none⟩ (.slice (some ⟨g6,0,none⟩) ((E k).length+1) c6)) who (setW who g6 (.lrow k)) (fun _=>False)/\
  (∀ g,who g= .lent->(w6.setCell ⟨b,k,none⟩ (.slice (some ⟨g6,0,none⟩) ((E k).length+1) c6)).heap[g]?=w.heap[g]?/\setW who g6 (.lrow k) g= .lent)/\(∀ g,who g≠ .other->setW who g6 (.lrow k) g=who g):=by
 obtain⟨F,l,hsr,G⟩:=kB key (fun g e=>(c.dom g e).2) (r:= .lrow k) (by simp) (h.wr k p);have A:g6≠b:=(l b (by rw [c.wb];simp) (by rw [c.wb];simp)).2;have u:HB w6 b f:=c.blk.same (l b (by rw [c.wb];simp) (by rw [c.wb];simp)).1;have y:Hs B w6 b who n f K M:=c.same F (fun g _ h2 h3=>(l g h2 (fun e=>by rw [e]at h3;cases h3)).1);have m:∀ g,who g≠ .other->setW who g6 (.lrow k) g=who g:=fun g h1=>by
  by_cases e:g=g6
  ·subst e;rw [jD];exact(G (c.dom g h1).2).symm
  ·exact iO _ _ e
 have s:Hs B w6 b (setW who g6 (.lrow k)) n f K M:=y.more m (fun g e=>by
  by_cases d:g=g6
  ·subst d;exact⟨iB q g rfl,i6 q g rfl⟩
  ·rw [iO _ _ d]at e;have:=c.dom g e;exact⟨this.1,by omega⟩)
 have D:Fr w w6 who (setW who g6 (.lrow k)) (fun _=>False):=Fr.key (fun g e=>by rw [h.wr k p g e];simp) key;generalize z:Value.slice (some ⟨g6,0,none⟩) ((E k).length+1) c6=V at*;have t:V.ownBlock=some g6:=by rw [<-z];rfl
 have C:setW who g6 (.lrow k) b= .hands:=s.wb;refine⟨u,s.setLent p V,⟨fun j hj=>?_,fun j hj g e=>?_⟩,D.trans (Fr.set (Or.inl (by rw [C];simp))),fun g e=>⟨?_,by rw [m g (by rw [e];simp)];exact e⟩,m⟩
 ·by_cases e:j=k
  ·subst e;rw [lJ,Ea];have:=ownsRow_setCell_other (a:=⟨b,j,none⟩) q (show V.ownBlock≠some b by rw [t];simpa using A) V;simpa using this
  ·rw [iX _ _ e,vP _ _ e];refine iN (h.r j hj) (fun g d=>?_);have i:=h.wr j hj g d;rw [Below.heap_setCell _ _ _ _ (fun e3=>by simp only at e3;subst e3;rw [c.wb]at i;cases i)];exact(l g (by rw [i];simp) (by rw [i];simpa using e)).1
 ·by_cases d:j=k
  ·subst d;rw [lJ,t]at e;simp only [Option.some.injEq]at e;subst e;exact jD _ _ _
  ·rw [iX _ _ d]at e;have i:=h.wr j hj g e;rw [m g (by rw [i];simp),i]
 ·rw [Below.heap_setCell _ _ _ _ (fun e3=>by simp only at e3;subst e3;rw [c.wb]at e;cases e)];exact(l g (by rw [e];simp) (by rw [e];simp)).1
end
def sl2(g n:Nat):Value:= .slice (some ⟨g,0,none⟩) (n+2) (n+2)
def nK:List Value:=[.int .i64 (-77000000),.int .i64 0,.int .i64 0,.int .i64 0]
def tX(i:Ins):List Value:=[.int .i64 i.op,.int .i64 i.a,.int .i64 i.b,.int .i64 i.n]
def kd(c:List Ins):Array Value:=(c.flatMap tX++(nK++nK)).toArray
def slC(x:Nat × List Ins × Value):Value:= .slice (some ⟨x.1,0,none⟩) x.2.1.length (x.2.1.length+2)
def jC(l:List (Nat × List Ins × Value)):Array Value:=(l.map slC++[Value.slice none 0 0,Value.slice none 0 0]).toArray
def valOther(who:Nat->Role)(v:Value):Prop:=∀ g o l c,v= .slice (some ⟨g,o,none⟩) l c->0<l->who g= .other
structure Le(w:World)(who:Nat->Role)(LI:List (Nat × List Int × Value))(LC:List (Nat × List Ins × Value))(LR:List (Nat × Nat))(tail:Nat):Prop where
 li:∀ x∈LI,w.heap[x.1]?=some (.cells (kt x.2.1) 3 (0,0))/\who x.1= .lent/\IntsAt w.heap.size w x.2.2 x.2.1/\valOther who x.2.2/\x.2.1.length<=17592186043904
 lc:∀ x∈LC,w.heap[x.1]?=some (.cells (kd x.2.1) 65 (0,0))/\who x.1= .lent/\CodeAt w x.2.2 x.2.1/\valOther who x.2.2/\x.2.1.length<=4398046510976
 lr:∀ j (hj:j<LR.length),w.heap[LR[j].1]?=some (.cells (jC ((LC.drop ((LR.take j).map (·.2)).sum).take LR[j].2)) 66 (0,0))/\who LR[j].1= .lent/\LR[j].2<=5864062014634
 sum:(LR.map (·.2)).sum+tail=LC.length
 nd:(LI.map (·.1)++(LC.map (·.1)++LR.map (·.1))).Nodup
theorem valOther.mono{who who':Nat->Role}{v:Value}(h:valOther who v)(hw:∀ g,who g= .other->∀ o l c,v= .slice (some ⟨g,o,none⟩) l c->0<l->who' g= .other):valOther who' v:=fun g o l c e hl=>hw g (h g o l c e hl) o l c e hl
theorem sV{w w':World}{who:Nat->Role}{v:Value}{l:List Int}(h:IntsAt w.heap.size w v l)(i:valOther who v)(hs:w.heap.size<=w'.heap.size)(a:∀ g,g<w.heap.size->who g= .other->w'.heap[g]?=w.heap[g]?):IntsAt w'.heap.size w' v l:=by
 obtain⟨c,j,rfl,f,b⟩:=h;refine⟨c,j,rfl,f,fun k hk=>?_⟩;obtain⟨g,o,rfl,e,d⟩:=b k hk;exact⟨g,o,rfl,by omega,by rw [World.cell?_of_block (a g e (i g o _ _ rfl (by omega)))];exact d⟩
theorem pR{w w':World}{who:Nat->Role}{v:Value}{c:List Ins}(h:CodeAt w v c)(l:valOther who v)(d:∀ g,g<w.heap.size->who g= .other->w'.heap[g]?=w.heap[g]?):CodeAt w' v c:=by
 obtain⟨f,m,rfl,e⟩:=h;refine⟨f,m,rfl,fun k hk=>?_⟩;obtain⟨g,o,rfl,b,i,n,j⟩:=e k hk;have a:w'.heap[g]?=w.heap[g]?:=d g (World.block_lt_of_cell? w _ b) (l g o _ _ rfl (by omega));exact⟨g,o,rfl,by rw [World.cell?_of_block a];exact b,by rw [World.cell?_of_block a];exact i,by rw [World.cell?_of_block a];exact n,by rw [World.cell?_of_block a];exact j⟩
section
variable {w w' : World} {who who' : Nat -> Role} {LI : List (Nat × List Int × Value)} {LC : List (Nat × List Ins × Value)} {LR : List (Nat × Nat)} {tail : Nat}
theorem Le.keep(h:Le w who LI LC LR tail)(m:Fr w w' who who' (fun _=>False))(i:∀ g,who g= .lent->w'.heap[g]?=w.heap[g]?/\who' g= .lent):Le w' who' LI LC LR tail:=by
 have v:∀ g,g<w.heap.size->who g= .other->w'.heap[g]?=w.heap[g]?:=fun g u k=>(m.oth g u k (fun e=>e)).1
 refine⟨fun x hx=>?_,fun x hx=>?_,fun j hj=>?_,h.sum,h.nd⟩
 ·obtain⟨a,b,c,d,e⟩:=h.li x hx;refine⟨by rw [(i _ b).1];exact a,(i _ b).2,sV c d m.size v,?_,e⟩;obtain⟨B,z,q,u,k⟩:=c;intro g o l r f n;have p:=d g o l r f n;rw [q]at f;simp only [Value.slice.injEq]at f;obtain⟨y,A,s,t,_⟩:=k 0 (by omega);rw [s]at f;simp only [Option.some.injEq,Addr.mk.injEq,and_true]at f;obtain⟨⟨rfl,_⟩,_⟩:=f;exact(m.oth _ t p (fun e=>e)).2
 ·obtain⟨a,b,c,d,e⟩:=h.lc x hx;refine⟨by rw [(i _ b).1];exact a,(i _ b).2,pR c d v,?_,e⟩;obtain⟨B,z,q,k⟩:=c;intro g o l r f n;have p:=d g o l r f n;rw [q]at f;simp only [Value.slice.injEq]at f;obtain⟨y,A,s,t,_⟩:=k 0 (by omega);rw [s]at f;simp only [Option.some.injEq,Addr.mk.injEq,and_true]at f;obtain⟨⟨rfl,_⟩,_⟩:=f;exact(m.oth _ (World.block_lt_of_cell? w _ t) p (fun e=>e)).2
 ·obtain⟨a,b,c⟩:=h.lr j hj;exact⟨by rw [(i _ b).1];exact a,(i _ b).2,c⟩
end
def EL(LI:List (Nat × List Int × Value))(LC:List (Nat × List Ins × Value))(LR:List (Nat × Nat)):Nat->List Value
 | 0=>LI.map fun x=>sl2 x.1 x.2.1.length
 | 1=>LI.map fun x=>x.2.2
 | 2=>LC.map fun x=>sl2 x.1 x.2.1.length
 | 3=>LC.map fun x=>x.2.2
 | 4=>LR.map fun x=>sl2 x.1 x.2
 | _=>[]
structure Lx(B:Nat)(w:World)(b:Nat)(who:Nat->Role)(n:Int)(f:Nat->Value)(K:Nat->List (Value × Int))(E:Nat->List Value)(LI:List (Nat × List Int × Value))(LC:List (Nat × List Ins × Value))(LR:List (Nat × Nat))(tail:Nat):Prop where
 hs:HsK B w b who n f K
 lr:Lr B w who f E
 le:Le w who LI LC LR tail
section
variable {B : Nat} {w w6 w' : World} {b : Nat} {who who' : Nat -> Role} {n : Int} {f : Nat -> Value} {K : Nat -> List (Value × Int)} {E : Nat -> List Value} {LI : List (Nat × List Int × Value)} {LC : List (Nat × List Ins × Value)} {LR : List (Nat × Nat)} {tail : Nat}
theorem Lx.cell(h:Lx B w b who n f K E LI LC LR tail){o:Nat}(ho:o<16):w.cell? ⟨b,o,none⟩=some (f o):=h.hs.1.blk.cell ho
theorem Lx.low(h:Lx B w b who n f K E LI LC LR tail):B<=b/\b<w.heap.size:=h.hs.1.dom b (by rw [h.hs.1.wb];simp)
theorem Le.lt(h:Le w who LI LC LR tail):∀ g∈LI.map (·.1)++(LC.map (·.1)++LR.map (·.1)),g<w.heap.size/\who g= .lent:=by
 intro g c;rcases List.mem_append.1 c with c | c
 ·obtain⟨x,d,rfl⟩:=List.mem_map.1 c;obtain⟨a,b,_⟩:=h.li x d;exact⟨(Array.getElem?_eq_some_iff.1 a).1,b⟩
 ·rcases List.mem_append.1 c with c | c
  ·obtain⟨x,d,rfl⟩:=List.mem_map.1 c;obtain⟨a,b,_⟩:=h.lc x d;exact⟨(Array.getElem?_eq_some_iff.1 a).1,b⟩
  ·obtain⟨x,d,rfl⟩:=List.mem_map.1 c;obtain⟨j,e,rfl⟩:=List.getElem_of_mem d;obtain⟨a,b,_⟩:=h.lr j e;exact⟨(Array.getElem?_eq_some_iff.1 a).1,b⟩
theorem Lx.grown(h:Lx B w b who n f K E LI LC LR tail)(hg:w.grownBy w' none):Lx B w' b who n f K E LI LC LR tail:=
 ⟨h.hs.grown hg,h.lr.grown hg,h.le.keep (Fr.grown hg) (fun g e=>⟨hg.block g (h.hs.1.dom g (by rw [e];simp)).2 (by simp),e⟩)⟩
theorem Lx.new(h:Lx B w b who n f K E LI LC LR tail)(d:w.grownBy w' none){g:Nat}(k:w.heap.size<=g)(l:g<w'.heap.size):Lx B w' b (setW who g .lent) n f K E LI LC LR tail/\Fr w w' who (setW who g .lent) (fun _=>False):=by
 have a:∀ g',who g'≠ .other->setW who g .lent g'=who g':=fun g' e=>iO _ _ (fun i=>by subst i;have:=(h.hs.1.dom g' e).2;omega)
 have j:=h.grown d;have hb:=h.low;refine⟨⟨⟨j.hs.1.more a (fun g' e=>?_),fun c hc x hx g' e=>?_⟩,j.lr.more a,?_⟩,Fr.setW (Fr.grown d) (Or.inl k)⟩
 ·by_cases i:g'=g
  ·subst i;exact⟨by omega,l⟩
  ·rw [iO _ _ i]at e;exact j.hs.1.dom g' e
 ·have:=h.hs.2 c hc x hx g' e;rw [a g' (by rw [this];simp),this]
 ·exact h.le.keep (Fr.setW (Fr.grown d) (Or.inl k)) (fun g' e=>⟨d.block g' (h.hs.1.dom g' (by rw [e];simp)).2 (by simp),by rw [a g' (by rw [e];simp)];exact e⟩)
theorem Lx.push(h:Lx B w b who n f K E LI LC LR tail){k:Nat}(l:k<5){v:Value}{o:Obj}{g6 c6:Nat}
  (m:w6.ownsRow B (tR k) 1 (.slice (some ⟨g6,0,none⟩) ((E k).length+1) c6) ((E k).length+1) (E k++[v]))
  (key:((f k).ownBlock=some g6/\(w.alloc o).grownBy w6 (some g6))\/(g6=w.heap.size+1/\(w.alloc o).grownBy w6 none)):
  HB w6 b f/\∃ who' f',Lx B (w6.setCell ⟨b,k,none⟩ (.slice (some ⟨g6,0,none⟩) ((E k).length+1) c6)) b who' n f' K (kF E k (E k++[v])) LI LC LR tail/\
   Fr w (w6.setCell ⟨b,k,none⟩ (.slice (some ⟨g6,0,none⟩) ((E k).length+1) c6)) who who' (fun _=>False)/\(∀ j,j≠k->f' j=f j)/\(∀ g,who g= .lent->(w6.setCell ⟨b,k,none⟩ (.slice (some ⟨g6,0,none⟩) ((E k).length+1) c6)).heap[g]?=w.heap[g]?/\who' g= .lent):=by
 obtain⟨r,p,i,d,a,q⟩:=h.lr.push h.hs.1 l m key;refine⟨r,_,_,⟨⟨p,fun c hc x hx g e=>?_⟩,i,h.le.keep d a⟩,d,fun j hj=>iX _ _ hj,a⟩;have:=h.hs.2 c hc x hx g e;rw [q g (by rw [this];simp),this]
theorem Le.addInts(h:Le w who LI LC LR tail){g:Nat}{l:List Int}{c:Value}(k:w.heap[g]?=some (.cells (kt l) 3 (0,0)))(j:who g= .lent)(p:IntsAt w.heap.size w c l)(i:valOther who c)(n:l.length<=17592186043904)
  (b:g∉LI.map (·.1)++(LC.map (·.1)++LR.map (·.1))):Le w who (LI++[(g,l,c)]) LC LR tail:=by
 refine⟨fun x a=>?_,h.lc,h.lr,h.sum,?_⟩
 ·rcases List.mem_append.1 a with a | a
  ·exact h.li x a
  ·simp at a;subst a;exact⟨k,j,p,i,n⟩
 ·have:=h.nd;simp only [List.map_append,List.map_cons,List.map_nil,List.append_assoc,List.singleton_append];rw [List.nodup_append]at this ⊢;obtain⟨m,o,f⟩:=this;simp only [List.mem_append,not_or]at b;refine⟨m,?_,?_⟩
  ·rw [List.nodup_cons];exact⟨by simp only [List.mem_append,not_or];exact⟨b.2.1,b.2.2⟩,o⟩
  ·intro x a y d;rcases List.mem_cons.1 d with rfl | d
   ·intro e;subst e;exact b.1 a
   ·exact f x a y d
theorem EJ(a:List (Nat × List Int × Value))(b:List (Nat × List Ins × Value))(c:List (Nat × Nat))(g:Nat)(l:List Int)(d:Value):
  kF (kF (EL a b c) 0 (EL a b c 0++[sl2 g l.length])) 1 (kF (EL a b c) 0 (EL a b c 0++[sl2 g l.length]) 1++[d])=EL (a++[(g,l,d)]) b c:=by
 funext k
 match k with
 | 0=>simp [kF,EL]
 | 1=>simp [kF,EL]
 | 2=>simp [kF,EL]
 | 3=>simp [kF,EL]
 | 4=>simp [kF,EL]
 | k+5=>simp [kF,EL]
end
end
section
open Go.RowKit
attribute [local go_sem] Go.World.cell?_alloc_some
theorem mF{w w':World}{who b:Nat->Role}{v:Value}{l:List Int}(h:IntsAt w.heap.size w v l)(c:valOther who v)(a:Fr w w' who b (fun _=>False)):IntsAt w'.heap.size w' v l/\valOther b v:=by
 refine⟨sV h c a.size (fun g h1 h2=>(a.oth g h1 h2 (fun e=>e)).1),c.mono (fun g e o l' c' e2 hl'=>?_)⟩;obtain⟨ao',cap',i,_,f⟩:=h;rw [i]at e2;simp only [Value.slice.injEq]at e2;obtain⟨g',o',d,e6,_⟩:=f 0 (by omega);rw [e2.1]at d;simp only [Option.some.injEq,Addr.mk.injEq,and_true]at d;exact(a.oth g (by omega) e (fun e=>e)).2
theorem lT(B:Nat)(w:World)(b:Nat)(who:Nat->Role)(n:Int)(f:Nat->Value)(K:Nat->List (Value × Int))(c:List (Nat × List Int × Value))(m:List (Nat × List Ins × Value))(p:List (Nat × Nat))(tail:Nat)(F:Value)(l:List Int)
  (h:Lx B w b who n f K (EL c m p) c m p tail) (hI:IntsAt w.heap.size w F l) (aX:valOther who F) (bu:l.length<=17592186043904) (aS:c.length<=1000):
  Calls Tryz.prog 20 #[pt b,F] w fun e w'=>∃ g who' f',e= .returned (.slice (some ⟨g,0,none⟩) l.length (l.length+2))/\Lx B w' b who' n f' K (EL (c++[(g,l,F)]) m p) (c++[(g,l,F)]) m p tail/\Fr w w' who who' (fun _=>False):=by
 obtain⟨i0,av,bo,aT,bc⟩:=info_parts kn;obtain⟨i1,aN,a1,au,aA⟩:=info_parts uh;have HH:=il h;have Q:=il hI;have HV:=il aX;have hb:=h.low;obtain⟨i,d,rfl⟩:=hI.form;have aH:pt b= .pointer (some ⟨b,0,none⟩):=rfl;rw [aH];clear h hI aH aX;have q0:(l.length:Int)<=17592186043904:=by omega
 have q1:(0:Int)<=(l.length:Int):=by omega
 have bF:(Tryz.prog.info? 3).map (·.size)=some 1:=by rw [av];simp [aT]
 go_enter Tryz.func20,Tryz.ntmps20
 go_upto_region 3 with (at_make;refine wpList_make_full _ rfl _ _ _ rfl w.heap.size 3 i0 _ 1 Tryz.underlying39 av bo aT .i64 .i64 _ _ (l.length+2) rfl rfl (by simp) (by simp) (by rw [bc];omega) (by unfold maxLen;omega) (by simp) ?_;intro C aE M)
 have bi:∃ cur,C.heap[w.heap.size]?=some (.cells cur 3 (0,0))/\cur.size=l.length+2:=by
  rcases aE.2 with ⟨e,_⟩ | ⟨g',bp,cur,hv,_,hh,_,_,hcs,_⟩
  ·cases e
  ·simp only [Value.slice.injEq,Option.some.injEq,Addr.mk.injEq,true_and,and_true]at hv;obtain⟨rfl,rfl⟩:=hv;exact⟨cur,hh,by simpa using hcs⟩
 obtain⟨cur,aF,bz⟩:=bi;have z:=il M;have bv:Hid (IntsAt C.heap.size C (.slice i l.length d) l):=(Q.out.pres (iq M)).mono M.size;have bE:=il aF;clear aE M aF;obtain⟨q,bA,v,y⟩:=tG C 39 3 3 Tryz.underlying39 bF w.heap.size (l.length+2) (l.length+2) (.slice i l.length d) C.heap.size l bv.out cur 3 bE.out (by omega) (by omega);go_upto_region 4 with fail
 clear bA;have bJ:Hid (w.grownBy q none):=⟨y.os.trans z.out.os,y.tape.trans z.out.tape,y.output.trans z.out.output,Nat.le_trans z.out.size y.size,fun k hk _=>by
  rw [y.block k (Nat.lt_of_lt_of_le hk z.out.size) (by simp;omega)];exact z.out.block k hk (by simp)⟩
 have bH:w.heap.size<q.heap.size:=(Array.getElem?_eq_some_iff.1 v).1;obtain⟨R,O⟩:∃ R:Array Value,R=(iM l++cur.toList.drop l.length).toArray:=⟨_,rfl⟩;rw [<-O]at v;have hRs:R.size=l.length+2:=by rw [O];simp [j0];omega
 have a5:Hid ((R.setIfInBounds l.length ink).setIfInBounds (l.length+1) ink=kt l):=by unfold Hid;rw [O];exact D7 l cur bz
 have L:=heap_setCell_same q w.heap.size l.length R 3 ink v;have am:=heap_setCell_same _ w.heap.size (l.length+1) _ 3 ink L;rw [a5.out]at am;have Z:∃ u,q.cell? ⟨w.heap.size,l.length,none⟩=some u:=by
  refine⟨R[l.length]'(by omega),?_⟩;simp [World.cell?,v]
 have S:∃ u,(q.setCell ⟨w.heap.size,l.length,none⟩ ink).cell? ⟨w.heap.size,l.length+1,none⟩=some u:=by
  refine⟨(R.setIfInBounds l.length ink)[l.length+1]'(by simp;omega),?_⟩;simp only [World.cell?,L];exact Array.getElem?_eq_getElem _
 obtain⟨u0,Z⟩:=Z;obtain⟨u1,S⟩:=S;have f0:q.frozen? ⟨w.heap.size,l.length,none⟩=false:=by simp [World.frozen?,v]
 have f1:(q.setCell ⟨w.heap.size,l.length,none⟩ ink).frozen? ⟨w.heap.size,l.length+1,none⟩=false:=by simp [World.frozen?,L]
 obtain⟨a,s⟩:∃ a,a=(q.setCell ⟨w.heap.size,l.length,none⟩ ink).setCell ⟨w.heap.size,l.length+1,none⟩ ink:=⟨_,rfl⟩;have I:w.grownBy a none:=by rw [s];exact iG (iG bJ.out (Nat.le_refl _)) (Nat.le_refl _)
 have ba:Hid (a.heap[w.heap.size]?=some (.cells (kt l) 3 (0,0))):=by rw [s];exact am
 have bx:w.heap.size<a.heap.size:=by rw [s];simpa using bH
 have bt:ink= .int .i64 (-77000000):=rfl;rw [bt]at s S f1;have aL:=il s;obtain⟨aw,a0⟩:=HH.out.new I (Nat.le_refl _) bx;have be:Hid (w.heap.size∉c.map (·.1)++(m.map (·.1)++p.map (·.1))):=fun e=>by have:=(HH.out.le.lt _ e).1;omega
 have aG:Hid (IntsAt a.heap.size a (.slice i l.length d) l):=(Q.out.pres (iq I)).mono I.size;have aQ:Hid (valOther (setW who w.heap.size .lent) (.slice i l.length d)):=by
  refine HV.out.mono (fun g e o l' c' e2 hl'=>?_);rw [iO]
  ·exact e
  ·intro e3;subst e3;obtain⟨ao',bp,e4,_,h5⟩:=Q.out;simp only [Value.slice.injEq]at e2 e4;obtain⟨g',o',e5,e6,_⟩:=h5 0 (by omega);rw [<-e4.1,e2.1]at e5;simp only [Option.some.injEq,Addr.mk.injEq,and_true]at e5;omega
 have A:=il aw;have a2:=il a0;have HW:Hid (setW who w.heap.size .lent w.heap.size= .lent):=jD _ _ _;have bf:=il (EJ c m p w.heap.size l (.slice i l.length d));have hE0:(EL c m p 0).length<=1000:=by simp only [EL,List.length_map];exact aS
 have bl:(EL c m p 1).length<=1000:=by simp only [EL,List.length_map];exact aS
 clear v y O L am s aw a0 I Q HV HH;generalize setW who w.heap.size .lent=who5 at*;generalize EL c m p=E at*;generalize aC:w.heap.size=g0 at*;have HG0:=il aC;clear aC;go_upto_region 6 with fail
 rw [<-aL.out];clear aL Z S f0 f1;have D:a.ownsRow B 39 1 (f 0) (E 0).length (E 0):=A.out.lr.r 0 (by omega);have c0:a.cell? ⟨b,0,none⟩=some (f 0):=A.out.cell (by omega);obtain⟨V,o2,Y,N⟩:=iy D;rw [N]at D c0;have bG:=iC D;subst bG;have aj:Hid (∀ {o:Obj} {g6 c6:Nat} {w6:World},w6.ownsRow B 39 1 (.slice (some ⟨g6,0,none⟩) ((E 0).length+1) c6) ((E 0).length+1) (E 0++[sl2 g0 l.length])->
   (((Value.slice V (E 0).length Y).ownBlock=some g6/\(a.alloc o).grownBy w6 (some g6))\/(g6=a.heap.size+1/\(a.alloc o).grownBy w6 none))->
   HB w6 b f/\∃ who' f',Lx B (w6.setCell ⟨b,0,none⟩ (.slice (some ⟨g6,0,none⟩) ((E 0).length+1) c6)) b who' n f' K (kF E 0 (E 0++[sl2 g0 l.length])) c m p tail/\
   Fr a (w6.setCell ⟨b,0,none⟩ (.slice (some ⟨g6,0,none⟩) ((E 0).length+1) c6)) who5 who' (fun _=>False)/\(∀ j,j≠0->f' j=f j)/\(∀ g,who5 g= .lent->(w6.setCell ⟨b,0,none⟩ (.slice (some ⟨g6,0,none⟩) ((E 0).length+1) c6)).heap[g]?=a.heap[g]?/\who' g= .lent)):=by
  intro o g6 c6 w6 ag key;rw [<-N]at key;exact A.out.push (by omega) ag key
 have hbase:B<=a.heap.size:=by have:=A.out.low;omega
 have aU:=il D;have aP:=il N;have bg:(E 0).length+1<=maxLen:=by unfold maxLen;omega
 have aO:(E 1).length+1<=maxLen:=by unfold maxLen;omega
 clear D N;have aR:Hid (kF E 0 (E 0++[sl2 g0 l.length]) 1=E 1):=vP _ _ (by omega);generalize bw:(E 0).length=N0 at*;generalize br:E 0=L0 at*;clear bw br;go_upto_region 7 with (at_builtin;go_must (refine iH rfl _ _ _ rfl B 39 i1 _ 1 24 Tryz.underlying23 aN a1 au aA rfl (by omega) (.slice V N0 Y) N0 L0 rfl (iK aU.out) ⟨a.heap.size,0,none⟩ 1 1 [sl2 g0 l.length] rfl rfl (World.news_of_block (cs:= #[.slice (some ⟨g0,0,none⟩) (l.length+2) (l.length+2)]) (t:=39) (fr:=(0,0)) (heap_alloc_new a _)) (by simp [sl2,Value.oneCell']) (by omega) bg (by omega) (by simp;omega) (a.heap.size+1) (by simp) ?_);intro g8 bB w8 ab ap bL;have ad:=(aj.out ab ap).1;have T:w8.cell? ⟨b,0,none⟩=some (.slice V N0 Y):=(by rw [ad.cell (by omega),aP.out]);have p7:=ad.frozen 0)
 obtain⟨_,ai,H,x,U,bD,aV⟩:=aj.out ab ap;generalize w8.setCell ⟨b,0,none⟩ (.slice (some ⟨g8,0,none⟩) (N0+1) bB)=w9 at*;generalize kF E 0 (L0++[sl2 g0 l.length])=E9 at*;rw [<-aR.out]at bl aO;have G:w9.ownsRow B 39 1 (H 1) (E9 1).length (E9 1):=x.lr.r 1 (by omega);have c1:w9.cell? ⟨b,1,none⟩=some (H 1):=x.cell (by omega);obtain⟨W,m2,X,J⟩:=iy G;rw [J]at G c1;have a8:=iC G;subst a8;have ak:Hid (∀ {o:Obj} {g6 c6:Nat} {w6:World},w6.ownsRow B 39 1 (.slice (some ⟨g6,0,none⟩) ((E9 1).length+1) c6) ((E9 1).length+1) (E9 1++[.slice i l.length d])->
   (((Value.slice W (E9 1).length X).ownBlock=some g6/\(w9.alloc o).grownBy w6 (some g6))\/(g6=w9.heap.size+1/\(w9.alloc o).grownBy w6 none))->
   HB w6 b H/\∃ who' f',Lx B (w6.setCell ⟨b,1,none⟩ (.slice (some ⟨g6,0,none⟩) ((E9 1).length+1) c6)) b who' n f' K (kF E9 1 (E9 1++[.slice i l.length d])) c m p tail/\
   Fr w9 (w6.setCell ⟨b,1,none⟩ (.slice (some ⟨g6,0,none⟩) ((E9 1).length+1) c6)) ai who' (fun _=>False)/\(∀ j,j≠1->f' j=H j)/\(∀ g,ai g= .lent->(w6.setCell ⟨b,1,none⟩ (.slice (some ⟨g6,0,none⟩) ((E9 1).length+1) c6)).heap[g]?=w9.heap[g]?/\who' g= .lent)):=by
  intro o g6 c6 w6 ag key;rw [<-J]at key;exact x.push (by omega) ag key
 have hbase9:B<=w9.heap.size:=by have:=x.low;omega
 have a4:=il G;have az:=il J;have a9:=il x;have aM:=il (a2.out.trans U);have aJ:=il (aV g0 HW.out);have al:Hid (IntsAt w9.heap.size w9 (.slice i l.length d) l/\valOther ai (.slice i l.length d)):=mF aG.out aQ.out U;clear G J ab ap ad T p7 bL c0 x U bD aV aj aU aP A a2 aG aQ aR;generalize a6:(E9 1).length=N1 at*;generalize hL1:E9 1=L1 at*;clear a6;go_upto_region 8 with (at_builtin;go_must (refine iH rfl _ _ _ rfl B 39 i1 _ 1 24 Tryz.underlying23 aN a1 au aA rfl (by omega) (.slice W N1 X) N1 L1 rfl (iK a4.out) ⟨w9.heap.size,0,none⟩ 1 1 [.slice i l.length d] rfl rfl (World.news_of_block (cs:= #[.slice i l.length d]) (t:=39) (fr:=(0,0)) (heap_alloc_new w9 _)) (by simp [Value.oneCell']) (by omega) aO (by omega) (by simp;omega) (w9.heap.size+1) (by simp) ?_);intro a7 bK aW ar aq bC;have af:=(ak.out ar aq).1;have T:aW.cell? ⟨b,1,none⟩=some (.slice W N1 X):=(by rw [af.cell (by omega),az.out]);have p7:=af.frozen 1)
 obtain⟨_,an,ax,P,ah,bn,aK⟩:=ak.out ar aq;generalize aW.setCell ⟨b,1,none⟩ (.slice (some ⟨a7,0,none⟩) (N1+1) bK)=w11 at*;have ay:Hid (Lx B w11 b an n ax K (EL (c++[(g0,l,.slice i l.length d)]) m p) (c++[(g0,l,.slice i l.length d)]) m p tail/\Fr w w11 who an (fun _=>False)):=by
  obtain⟨bm,bq⟩:=mF al.out.1 al.out.2 ah;have hl:=aK g0 aJ.out.2;refine⟨⟨P.hs,?_,P.le.addInts (by rw [hl.1,aJ.out.1];exact ba.out) hl.2 bm bq bu be.out⟩,aM.out.trans ah⟩;have:=P.lr;rw [bf.out]at this;exact this
 clear ar aq af T p7 bC c1 P ah bn aK ak a4 az a9 aM al;have q2:(l.length:Int)<=(l.length:Int)+2:=by omega
 go_wp2_with fail
 go_ret;exact⟨g0,an,ax,rfl,ay.out.1,ay.out.2⟩
end
section
open Go.RowKit
section
variable {P : Program}
theorem sC(w:World)(h s ty f:TypeId)(g d o:Nat)(a:Addr)(c n b:Nat)(cur:Array Value)(t:TypeId)(cs:List Value)
  (x:P.underlying h=some (.slice f)) (l:(P.info? f).map (·.size)=some b)
  (r:w.heap[g]?=some (.cells cur t (0,0))) (y:cs.length=Nat.min c d*b)
  (m:∀ j v,cs[j]?=some v->w.cell? (a.add j)=some v) (hfit:cs.length<=cur.size) (p:∀ v∈cs,v.oneCell'=true):
  (Builtin.copy_ #[h,s] ty #[.slice (some ⟨g,0,none⟩) d o,.slice (some a) c n]).run P w=
   .ok (goInt (Nat.min c d)) (w.setRow g (cs++cur.toList.drop cs.length).toArray):=by
 have u:=run_loadCells_list (P:=P) w a cs m;have k:=run_storeCells_at P g 0 t cs 0 cur w r (by omega) p;have e:(cur.toList.take (0+0)++cs++cur.toList.drop (0+0+cs.length))=cs++cur.toList.drop cs.length:=by simp
 rw [e]at k;cases hq:P.info? f with
 | none=>simp [hq]at l
 | some i=>
  have q:i.size=b:=by simpa [hq]using l
  simp [Builtin.copy_,run_underlying x,Builtin.lenOf,Builtin.firstCells,sizeOf,typeInfo,hq,q,<-y,u,k]
theorem rT{w:World}{o:Oper}{a:Act}{K:Act->World->Prop}{Q:Exit->Act->World->Prop}(s x:Operand)(t:TypeId)
  (V:o.op= .call { callee:= .builtin .append,args:= #[s,x],argTypes:= #[t,t]})
  (base:Nat) (e:TypeId) (i:TypeInfo) (z:Value) (b C:Nat) (E:P.underlying t=some (.slice e)) (B:P.info? e=some i) (F:i.zero=some z)
  (A:i.size=b) (J:i.bytes=C) (Y:z.cells.size=b) (S:0<b)
  (v:Value) (n:Nat) (xs:List Value) (U:a.eval s=v) (p:w.ownsRow base e b v n xs)
  (l:Addr) (m c:Nat) (f:List Value) (hx:a.eval x= .slice (some l) m c) (D:f.length=m*b) (y:∀ j u,f[j]?=some u->w.cell? (l.add j)=some u) (I:∀ u∈f,u.oneCell'=true)
  (Z:0<m) (G:n+m<=maxLen) (M:(n+m)*C<=140737488355328) (T:base<=w.heap.size) (H:Nat) (L:w.heap.size=H)
  (h:∀ g cap w',w'.ownsRow base e b (.slice (some ⟨g,0,none⟩) (n+m) cap) (n+m) (xs++f)->((v.ownBlock=some g/\w.grownBy w' (some g))\/(g=H/\w.grownBy w' none))->g<w'.heap.size->K (a.put o.dst (.slice (some ⟨g,0,none⟩) (n+m) cap)) w'):o.wp P a w K Q:=by
 obtain⟨g,cap,w',r,N,X,q,R⟩:=run_append_lies (P:=P) w t o.type base e i z b C E B F A J Y S v n xs p l m c f D y I Z G M T H L;have key:(v.ownBlock=some g/\w.grownBy w' (some g))\/(g=H/\w.grownBy w' none):=by
  have hsmall:n+m<=9223372036854775807:=by simp only [maxLen]at G;omega
  rcases p.2 with ⟨rfl,rfl⟩ | ⟨g0,cap0,cur,rfl,hbg,hg,hnc,hcm,hcs,htake⟩
  ·rcases q with q | q
   ·cases q
   ·exact Or.inr ⟨q,X⟩
  ·by_cases aa:n+m<=cap0
   ·obtain⟨w2,d,h6,O⟩:=run_append_fits (P:=P) w base t o.type e i b E B A g0 n cap0 xs p l m c f D y I aa;rw [r]at d;simp only [Result.ok.injEq,Value.slice.injEq,Option.some.injEq,Addr.mk.injEq,true_and,and_true]at d;obtain⟨⟨rfl,rfl⟩,rfl⟩:=d;exact Or.inl ⟨rfl,O⟩
   ·subst A;subst J;have W:∀ j u,xs[j]?=some u->w.cell? ((⟨g0,0,none⟩:Addr).add j)=some u:=p.cells (g:=g0) rfl;have d:=run_append_grow (P:=P) w t o.type e i z E B F ⟨g0,0,none⟩ n cap0 xs p.1 W l m c f D y (by omega) (by omega) (growslice_fits (by omega) M);rw [r]at d;simp only [Result.ok.injEq,Value.slice.injEq,Option.some.injEq,Addr.mk.injEq,true_and,and_true]at d;obtain⟨⟨rfl,rfl⟩,rfl⟩:=d;exact Or.inr ⟨L,⟨rfl,rfl,rfl,by simp,fun k hk _=>Below.heap_alloc w.drew _ k hk⟩⟩
 unfold Oper.wp execOp;simp only [V,resolve,invoke,builtin,Sem.run_bind,Sem.run_pure,Result.andThen_ok,List.map_toArray,List.map_cons,List.map_nil,U,hx,r];exact h g cap w' N key R
end
def kI(c:List Ins):List Value:=c.flatMap tX
theorem ly(c:List Ins):(kI c).length=c.length*4:=by
 induction c with
 | nil=>rfl
 | cons i c ih=>simp only [kI,List.flatMap_cons,List.length_append]at*;rw [ih];simp [tX];omega
theorem Ao(c:List Ins):∀ v∈kI c,v.oneCell'=true:=by
 intro v a;simp only [kI,List.mem_flatMap,tX,List.mem_cons,List.not_mem_nil,or_false]at a;obtain⟨i,_,rfl | rfl | rfl | rfl⟩:=a<;>rfl
theorem qM:∀ (c:List Ins) (k:Nat) (hk:k<c.length),(kI c)[k*4]?=some (.int .i64 c[k].op)/\(kI c)[k*4+1]?=some (.int .i64 c[k].a)/\(kI c)[k*4+2]?=some (.int .i64 c[k].b)/\(kI c)[k*4+3]?=some (.int .i64 c[k].n)
 | [],k,hk=>by simp at hk
 | i::c,0,hk=>by simp [kI,tX]
 | i::c,k+1,hk=>by
  have h:=qM c k (by simpa using hk);have e:kI (i::c)=tX i++kI c:=by simp [kI]
  have e4:∀ j,(kI (i::c))[(k+1)*4+j]?=(kI c)[k*4+j]?:=fun j=>by
   rw [e,List.getElem?_append_right (by simp [tX];omega)];congr 1
   simp [tX];omega
  refine⟨?_,?_,?_,?_⟩
  ·have:=e4 0;simp only [Nat.add_zero]at this;rw [this];simpa using h.1
  ·rw [e4 1];simpa using h.2.1
  ·rw [e4 2];simpa using h.2.2.1
  ·rw [e4 3];simpa using h.2.2.2
theorem xG{w:World}{f:Addr}{n:Nat}{c:List Ins}(h:CodeAt w (.slice (some f) c.length n) c):∀ j v,(kI c)[j]?=some v->w.cell? (f.add j)=some v:=by
 intro j v b;have k:=(List.getElem?_eq_some_iff.1 b).1;rw [ly]at k;obtain⟨ao,cap',e,h⟩:=h;have d:j / 4<c.length:=by omega
 obtain⟨g,o,rfl,p,l,r,s⟩:=h (j / 4) d;simp only [Value.slice.injEq,Option.some.injEq]at e;obtain⟨rfl,_⟩:=e;have i:(⟨g,o,none⟩:Addr).add j=⟨g,o+j,none⟩:=by unfold Addr.add;split<;>simp_all
 obtain⟨g1,g2,m,q⟩:=qM c (j / 4) d;rw [i];rcases(by omega:j % 4=0\/j % 4=1\/j % 4=2\/j % 4=3)with h0 | h0 | h0 | h0
 ·have a:j=j / 4*4:=by omega
  rw [a,g1]at b;rw [a];rw [p];exact b
 ·have a:j=j / 4*4+1:=by omega
  rw [a,g2]at b;rw [a,<-Nat.add_assoc];rw [l];exact b
 ·have a:j=j / 4*4+2:=by omega
  rw [a,m]at b;rw [a,<-Nat.add_assoc];rw [r];exact b
 ·have a:j=j / 4*4+3:=by omega
  rw [a,q]at b;rw [a,<-Nat.add_assoc];rw [s];exact b
theorem tV{P:Program}(w:World)(t ty h:TypeId)(m:P.underlying t=some (.slice h))(l:(P.info? h).map (·.size)=some 4)(g f o:Nat)(sv:Value)(c:List Ins)(n:CodeAt w sv c)(cur:Array Value)(b:TypeId)(j:w.heap[g]?=some (.cells cur b (0,0)))(v:c.length<=f)(r:c.length*4<=cur.size):
  ∃ w',(Builtin.copy_ #[t,t] ty #[.slice (some ⟨g,0,none⟩) f o,sv]).run P w= .ok (goInt c.length) w'/\w'.heap[g]?=some (.cells (kI c++cur.toList.drop (c.length*4)).toArray b (0,0))/\w.grownBy w' (some g):=by
 have s:=n;obtain⟨A,u,e,hc⟩:=n;subst e;by_cases x:c.length=0
 ·have z:c=[]:=List.length_eq_zero_iff.1 x;subst z;refine⟨w,?_,?_,iu _ _⟩
  ·cases hq:P.info? h with
   | none=>simp [hq]at l
   | some i=>
    have hi:i.size=4:=by simpa [hq]using l
    cases A with
    | none=>simp [Builtin.copy_,run_underlying m,Builtin.lenOf,Builtin.firstCells,sizeOf,typeInfo,hq,storeCells]
    | some a=>simp [Builtin.copy_,run_underlying m,Builtin.lenOf,Builtin.firstCells,sizeOf,typeInfo,hq,storeCells,loadCells,loadCellsFrom]
  ·rw [j];simp [kI]
 ·obtain⟨q,y,B,_⟩:=hc 0 (by omega);subst B;have p:Nat.min c.length f=c.length:=Nat.min_eq_left v;have d:=sC (P:=P) w t t ty h g f o ⟨q,y,none⟩ c.length u 4 cur b (kI c) m l j (by rw [ly,p]) (xG s) (by rw [ly];exact r) (Ao c);rw [p,ly]at d;exact⟨_,d,setRow_heap w g cur _ b (0,0) j,⟨rfl,rfl,rfl,by simp,fun k hk d=>setRow_other w g k _ (fun e=>d (by rw [e]))⟩⟩
theorem xI(l:List Nat)(j:Nat):(l.take j).sum<=l.sum:=by
 conv=>rhs;rw [<-List.take_append_drop j l,List.sum_append]
 omega
theorem tY(l:List Nat)(j:Nat)(a:j<l.length):(l.take j).sum+l[j]<=l.sum:=by
 have:=xI l (j+1);rw [List.take_succ_eq_append_getElem a,List.sum_append]at this;simpa using this
section
variable {B : Nat} {w w' : World} {b : Nat} {who who' : Nat -> Role} {n : Int} {f : Nat -> Value} {K : Nat -> List (Value × Int)} {E : Nat -> List Value} {LI : List (Nat × List Int × Value)} {LC : List (Nat × List Ins × Value)} {LR : List (Nat × Nat)} {tail : Nat}
theorem Le.row_in(h:Le w who LI LC LR tail)(j:Nat)(b:j<LR.length):((LR.take j).map (·.2)).sum+LR[j].2<=LC.length:=by
 have a:=tY (LR.map (·.2)) j (by simpa using b);have h2:=h.sum;rw [<-List.map_take]at a;simp only [List.getElem_map]at a;omega
theorem Le.addCode(h:Le w who LI LC LR tail){g:Nat}{c:List Ins}{k:Value}(r:w.heap[g]?=some (.cells (kd c) 65 (0,0)))(q:who g= .lent)(m:CodeAt w k c)(o:valOther who k)(t:c.length<=4398046510976)
  (i:g∉LI.map (·.1)++(LC.map (·.1)++LR.map (·.1))):Le w who LI (LC++[(g,c,k)]) LR (tail+1):=by
 refine⟨h.li,fun x a=>?_,fun j hj=>?_,by have:=h.sum;simp;omega,?_⟩
 ·rcases List.mem_append.1 a with a | a
  ·exact h.lc x a
  ·simp at a;subst a;exact⟨r,q,m,o,t⟩
 ·obtain⟨l,f,d⟩:=h.lr j hj;have h1:=h.row_in j hj;refine⟨?_,f,d⟩;rw [l];congr 2
  rw [List.drop_append_of_le_length (by omega),List.take_append_of_le_length (by rw [List.length_drop];omega)]
 ·have:=h.nd;simp only [List.map_append,List.map_cons,List.map_nil,List.append_assoc,List.singleton_append];simp only [List.mem_append,not_or]at i;rw [List.nodup_append]at this ⊢;obtain⟨l,f,d⟩:=this;rw [List.nodup_append]at f;obtain⟨p,s,n⟩:=f;refine⟨l,?_,?_⟩
  ·rw [List.nodup_append];refine⟨p,?_,?_⟩
   ·rw [List.nodup_cons];exact⟨i.2.2,s⟩
   ·intro x a y b;rcases List.mem_cons.1 b with rfl | b
    ·intro e;subst e;exact i.2.1 a
    ·exact n x a y b
  ·intro x a y b;rcases List.mem_append.1 b with b | b
   ·exact d x a y (List.mem_append.2 (Or.inl b))
   ·rcases List.mem_cons.1 b with rfl | b
    ·intro e;subst e;exact i.1 a
    ·exact d x a y (List.mem_append.2 (Or.inr b))
theorem Le.addRow(h:Le w who LI LC LR tail){g:Nat}(p:w.heap[g]?=some (.cells (jC (LC.drop ((LR.map (·.2)).sum))) 66 (0,0)))(o:who g= .lent)(r:tail<=5864062014634)
  (f:g∉LI.map (·.1)++(LC.map (·.1)++LR.map (·.1))):Le w who LI LC (LR++[(g,tail)]) 0:=by
 have hsum:=h.sum;refine⟨h.li,h.lc,fun j hj=>?_,by simp;omega,?_⟩
 ·by_cases e:j<LR.length
  ·obtain⟨i,d,c⟩:=h.lr j e;rw [List.getElem_append_left e,List.take_append_of_le_length (by omega)];exact⟨i,d,c⟩
  ·have n:j=LR.length:=by simp at hj;omega
   subst n;have l:(LR++[(g,tail)])[LR.length]'hj=(g,tail):=by simp
   rw [l,List.take_append_of_le_length (Nat.le_refl _),List.take_length,List.take_of_length_le (by rw [List.length_drop];omega)];exact⟨p,o,r⟩
 ·have:=h.nd;simp only [List.mem_append,not_or]at f;simp only [List.map_append,List.map_cons,List.map_nil];rw [List.nodup_append]at this ⊢;obtain⟨i,d,c⟩:=this;rw [List.nodup_append]at d;obtain⟨m,q,k⟩:=d;refine⟨i,?_,?_⟩
  ·rw [List.nodup_append];refine⟨m,?_,?_⟩
   ·rw [List.nodup_append];refine⟨q,by simp,?_⟩;intro x b y a;simp at a;subst a
    intro e;subst e;exact f.2.2 b
   ·intro x b y a;rcases List.mem_append.1 a with a | a
    ·exact k x b y a
    ·simp at a;subst a
     intro e;subst e;exact f.2.1 b
  ·intro x b y a;rcases List.mem_append.1 a with a | a
   ·exact c x b y (List.mem_append.2 (Or.inl a))
   ·rcases List.mem_append.1 a with a | a
    ·exact c x b y (List.mem_append.2 (Or.inr a))
    ·simp at a;subst a
     intro e;subst e;exact f.1 b
theorem Ds(a:List (Nat × List Int × Value))(b:List (Nat × List Ins × Value))(d:List (Nat × Nat))(g:Nat)(c:List Ins)(e:Value):
  kF (kF (EL a b d) 2 (EL a b d 2++[sl2 g c.length])) 3 (kF (EL a b d) 2 (EL a b d 2++[sl2 g c.length]) 3++[e])=EL a (b++[(g,c,e)]) d:=by
 funext k
 match k with
 | 0=>simp [kF,EL]
 | 1=>simp [kF,EL]
 | 2=>simp [kF,EL]
 | 3=>simp [kF,EL]
 | 4=>simp [kF,EL]
 | k+5=>simp [kF,EL]
theorem Fu(a:List (Nat × List Int × Value))(b:List (Nat × List Ins × Value))(c:List (Nat × Nat))(g t:Nat):
  kF (EL a b c) 4 (EL a b c 4++[sl2 g t])=EL a b (c++[(g,t)]):=by
 funext k
 match k with
 | 0=>simp [kF,EL]
 | 1=>simp [kF,EL]
 | 2=>simp [kF,EL]
 | 3=>simp [kF,EL]
 | 4=>simp [kF,EL]
 | k+5=>simp [kF,EL]
end
theorem oZ{w:World}{g:Nat}{c:List Ins}(h:w.heap[g]?=some (.cells (kd c) 65 (0,0)))(a:Nat):CodeAt w (.slice (some ⟨g,0,none⟩) c.length a) c:=by
 refine⟨some ⟨g,0,none⟩,a,rfl,fun k hk=>⟨g,0,rfl,?_⟩⟩;obtain⟨g1,g2,f,b⟩:=qM c k hk;have hl:=ly c;have key:∀ j v,(kI c)[j]?=some v->w.cell? ⟨g,j,none⟩=some v:=fun j v hj=>by
  have d:=(List.getElem?_eq_some_iff.1 hj).1;simp only [World.cell?,h,kd,List.getElem?_toArray];have e:List.flatMap tX c=kI c:=rfl;rw [e,List.getElem?_append_left d];exact hj
 exact⟨by rw [Nat.zero_add];exact key _ _ g1,by rw [Nat.zero_add];exact key _ _ g2,by rw [Nat.zero_add];exact key _ _ f,by rw [Nat.zero_add];exact key _ _ b⟩
theorem nf{w:World}{who:Nat->Role}{f:List (Nat × List Int × Value)}{LC0 LC1:List (Nat × List Ins × Value)}{j:List (Nat × Nat)}{g:Nat}{p:List (List Ins)}(h:Le w who f (LC0++LC1) j 0)(d:w.heap[g]?=some (.cells (jC LC1) 66 (0,0)))
  (b:LC1.map (·.2.1)=p) (c:Nat):ProgAt w (.agg #[.slice (some ⟨g,0,none⟩) p.length c]) p:=by
 have hl:LC1.length=p.length:=by rw [<-b];simp
 refine⟨some ⟨g,0,none⟩,c,rfl,fun t ht=>⟨g,0,rfl,slC (LC1[t]'(by omega)),?_,?_⟩⟩
 ·rw [Nat.zero_add];simp only [World.cell?,d,jC,List.getElem?_toArray];rw [List.getElem?_append_left (by simp;omega),List.getElem?_map,List.getElem?_eq_getElem (by omega)];rfl
 ·have i:LC1[t]'(by omega)∈LC0++LC1:=List.mem_append.2 (Or.inr (List.getElem_mem _));obtain⟨a,_⟩:=h.lc _ i;have e:p[t]=(LC1[t]'(by omega)).2.1:=by simp [<-b]
  rw [e];exact oZ a _
section
variable {B : Nat} {w w' : World} {b : Nat} {who who' : Nat -> Role} {n : Int} {f : Nat -> Value} {K : Nat -> List (Value × Int)} {E : Nat -> List Value} {LI : List (Nat × List Int × Value)} {LC : List (Nat × List Ins × Value)} {LR : List (Nat × Nat)} {tail : Nat}
theorem Le.keepIn(h:Le w who LI LC LR tail)(n:Fr w w' who who' (fun _=>False))(m:∀ g∈LI.map (·.1)++(LC.map (·.1)++LR.map (·.1)),w'.heap[g]?=w.heap[g]?/\who' g= .lent):Le w' who' LI LC LR tail:=by
 have u:∀ g,g<w.heap.size->who g= .other->w'.heap[g]?=w.heap[g]?:=fun g h1 k=>(n.oth g h1 k (fun e=>e)).1
 refine⟨fun x hx=>?_,fun x hx=>?_,fun j hj=>?_,h.sum,h.nd⟩
 ·obtain⟨a,b,c,d,e⟩:=h.li x hx;have f:=m x.1 (List.mem_append.2 (Or.inl (List.mem_map.2 ⟨x,hx,rfl⟩)));obtain⟨k1,k2⟩:=mF c d n;exact⟨by rw [f.1];exact a,f.2,k1,k2,e⟩
 ·obtain⟨a,b,c,d,e⟩:=h.lc x hx;have f:=m x.1 (List.mem_append.2 (Or.inr (List.mem_append.2 (Or.inl (List.mem_map.2 ⟨x,hx,rfl⟩)))));refine⟨by rw [f.1];exact a,f.2,pR c d u,?_,e⟩;obtain⟨ao,cap,r,k⟩:=c;intro g o l s i p;have q:=d g o l s i p;rw [r]at i;simp only [Value.slice.injEq]at i;obtain⟨g',o',t,v,_⟩:=k 0 (by omega);rw [t]at i;simp only [Option.some.injEq,Addr.mk.injEq,and_true]at i;obtain⟨⟨rfl,_⟩,_⟩:=i;exact(n.oth _ (World.block_lt_of_cell? w _ v) q (fun e=>e)).2
 ·obtain⟨a,b,c⟩:=h.lr j hj;have f:=m LR[j].1 (List.mem_append.2 (Or.inr (List.mem_append.2 (Or.inr (List.mem_map.2 ⟨LR[j],List.getElem_mem hj,rfl⟩)))));exact⟨by rw [f.1];exact a,f.2,c⟩
theorem Lx.setOut(h:Lx B w b who n f K E LI LC LR tail){g o:Nat}{v:Value}(d:who g= .lent)(i:g∉LI.map (·.1)++(LC.map (·.1)++LR.map (·.1))):Lx B (w.setCell ⟨g,o,none⟩ v) b who n f K E LI LC LR tail:=by
 have c:∀ g',g'≠g->(w.setCell ⟨g,o,none⟩ v).heap[g']?=w.heap[g']?:=fun g' e=>Below.heap_setCell _ _ _ _ (by simpa using e)
 refine⟨⟨h.hs.1.same (by simp) (fun g' _ _ h3=>c g' (fun e=>by subst e;rw [d]at h3;cases h3)),h.hs.2⟩,h.lr.same (fun g' k e=>c g' (fun e2=>by subst e2;rw [d]at e;cases e)),h.le.keepIn (Fr.set (Or.inl (by rw [d];simp))) (fun g' e=>⟨c g' (fun e2=>i (by rw [<-e2];exact e)),(h.le.lt g' e).2⟩)⟩
theorem Lx.addCode{LC1:List (Nat × List Ins × Value)}(h:Lx B w b who n f K E LI LC LR tail){g:Nat}{c:List Ins}{a:Value}(i:w.heap[g]?=some (.cells (kd c) 65 (0,0)))(e:who g= .lent)(j:CodeAt w a c)(l:valOther who a)(k:c.length<=4398046510976)
  (m:g∉LI.map (·.1)++(LC.map (·.1)++LR.map (·.1))) (d:E=EL LI LC1 LR) (o:LC1=LC++[(g,c,a)]):Lx B w b who n f K (EL LI LC1 LR) LI LC1 LR (tail+1):=by
 subst o;subst d;exact⟨h.hs,h.lr,h.le.addCode i e j l k m⟩
end
section
variable {B : Nat} {w w' : World} {b : Nat} {who who' : Nat -> Role} {n : Int} {f : Nat -> Value} {K : Nat -> List (Value × Int)} {E : Nat -> List Value} {LI : List (Nat × List Int × Value)} {LC : List (Nat × List Ins × Value)} {LR : List (Nat × Nat)} {tail : Nat}
theorem Lx.new2(h:Lx B w b who n f K E LI LC LR tail)(i:w.grownBy w' none){g1 g2:Nat}(q:w.heap.size<=g1)(o:g1<w'.heap.size)(m:w.heap.size<=g2)(p:g2<w'.heap.size):
  Lx B w' b (setW (setW who g1 .lent) g2 .lent) n f K E LI LC LR tail/\Fr w w' who (setW (setW who g1 .lent) g2 .lent) (fun _=>False):=by
 have a:∀ g',who g'≠ .other->setW (setW who g1 .lent) g2 .lent g'=who g':=fun g' e=>by
  have:=(h.hs.1.dom g' e).2;rw [iO _ _ (by omega),iO _ _ (by omega)]
 have d:=h.grown i;have hb:=h.low;have l:Fr w w' who (setW (setW who g1 .lent) g2 .lent) (fun _=>False):=Fr.setW (Fr.setW (Fr.grown i) (Or.inl q)) (Or.inl m);refine⟨⟨⟨d.hs.1.more a (fun g' e=>?_),fun c hc x hx g' e=>?_⟩,d.lr.more a,?_⟩,l⟩
 ·by_cases k:g'=g2
  ·subst k;exact⟨by omega,p⟩
  ·rw [iO _ _ k]at e;by_cases j:g'=g1
   ·subst j;exact⟨by omega,o⟩
   ·rw [iO _ _ j]at e;exact d.hs.1.dom g' e
 ·have:=h.hs.2 c hc x hx g' e;rw [a g' (by rw [this];simp),this]
 ·exact h.le.keep l (fun g' e=>⟨i.block g' (h.hs.1.dom g' (by rw [e];simp)).2 (by simp),by rw [a g' (by rw [e];simp)];exact e⟩)
end
end
end Go.Proofs.YtklenjmfalljgabGreatDoor
