/- The texts Hge Hgf Hgg Hgh Hgi. -/
import Derived.Test.YtklenjmfalljgabGreatDoorM07
namespace Go.Proofs.YtklenjmfalljgabGreatDoor
set_option maxRecDepth 100000
set_option maxHeartbeats 8000000
section
open Go.RowKit
attribute [local go_sem] Go.World.cell?_alloc_some
def HsK(B:Nat)(w:World)(b:Nat)(who:Nat->Role)(n:Int)(f:Nat->Value)(K:Nat->List (Value × Int)):Prop:=
 Hs B w b who n f K (marksOf K)/\∀ c',c'<5->∀ x∈K c',∀ g,x.1.ownBlock=some g->who g= .kept
structure After(c:Nat)(w w':World)(who who':Nat->Role)(f f':Nat->Value)(K K':Nat->List (Value × Int))(ex:Nat->Prop):Prop where
 fr:Fr w w' who who' ex
 lent:∀ o,o<5->f' o=f o
 len:(K' c).length=(K c).length+4
 oth:∀ c',c'≠c->K' c'=K c'
structure WrG(B c:Nat)(w0 w:World)(b:Nat)(who:Nat->Role)(n:Int)(f0 f:Nat->Value)(K:Nat->List (Value × Int))(lv:Value)(len:Nat)(xs:List Value)(m:Int)(k:Nat):Prop where
 hs:HsK B w b who n f K
 row:w.ownsRow B (teC c) (elC m c).length lv len ((List.replicate k (elC m c)).flatten++xs.drop (k*(elC m c).length))
 fr:Fr w0 w who who (fun g=>lv.ownBlock=some g)
 lent:∀ o,o<5->f o=f0 o
structure KpG(B c:Nat)(w0 w:World)(b:Nat)(who0 who:Nat->Role)(n m:Int)(f0 f:Nat->Value)(K0 K:Nat->List (Value × Int))(lv:Value)(len k:Nat)(ex:Nat->Prop):Prop where
 hs:Hs B w b who n f K (marksOf K)
 cu:Cur B w who m c lv len K
 fr:Fr w0 w who0 who ex
 lent:∀ o,o<5->f o=f0 o
 len:(K c).length=(K0 c).length+k
 oth:∀ c',c'≠c->K c'=K0 c'
structure KpA(B c:Nat)(w0 w:World)(b:Nat)(who0 who:Nat->Role)(n m:Int)(f0 f:Nat->Value)(K0 K:Nat->List (Value × Int))(lv:Value)(len k:Nat)(ex:Nat->Prop):Prop where
 hs:Hs B w b who n f (setK K c (K c++[(lv,m)])) (marksOf K)
 cu:Cur B w who m c lv len (setK K c (K c++[(lv,m)]))
 fr:Fr w0 w who0 who ex
 lent:∀ o,o<5->f o=f0 o
 len:(K c).length=(K0 c).length+k
 oth:∀ c',c'≠c->K c'=K0 c'
theorem jJ{w:World}{B:Nat}{e:TypeId}{z g n a:Nat}{xs:List Value}{i:Nat}(h:w.ownsRow B e z (.slice (some ⟨g,0,none⟩) n a) n xs)(b:i<n*z):∃ u,w.cell? ⟨g,i,none⟩=some u:=by
 have h1:=h.1;exact⟨xs[i]'(by omega),by rw [h.cellAt i b,List.getElem?_eq_getElem]⟩
theorem jK{w:World}{B:Nat}{e:TypeId}{z g n a:Nat}{xs:List Value}{i:Nat}(h:w.ownsRow B e z (.slice (some ⟨g,0,none⟩) n a) n xs):w.frozen? ⟨g,i,none⟩=false:=by
 rcases h.2 with ⟨e,_⟩ | ⟨g',cap',cur,hv,_,hh,_⟩
 ·cases e
 ·simp only [Value.slice.injEq,Option.some.injEq,Addr.mk.injEq,true_and,and_true]at hv;obtain⟨rfl,rfl⟩:=hv;simp [World.frozen?,hh]
section
variable {B c : Nat} {w0 w w6 : World} {b : Nat} {who0 who : Nat -> Role} {n m : Int} {f0 f : Nat -> Value} {K0 K : Nat -> List (Value × Int)} {M : Nat -> List Int} {lv : Value} {len k : Nat} {ex : Nat -> Prop} {xs : List Value}
theorem HsK.setOther(h:HsK B w b who n f K){g o:Nat}{v:Value}(hg:who g= .other):HsK B (w.setCell ⟨g,o,none⟩ v) b who n f K:=
 ⟨h.1.same (by simp) (fun g' _ h2 _=>Below.heap_setCell _ _ _ _ (fun e=>by simp only at e;subst e;exact h2 hg)),h.2⟩
theorem HsK.grown{w':World}(h:HsK B w b who n f K)(hg:w.grownBy w' none):HsK B w' b who n f K:=⟨h.1.grown hg,h.2⟩
theorem HsK.like{w':World}(h:HsK B w b who n f K)(hl:Like w' w):HsK B w' b who n f K:=⟨h.1.like hl,h.2⟩
theorem oP(K:Nat->List (Value × Int))(c:Nat)(v:Value)(m:Int):marksOf (setK K c (K c++[(v,m)]))=setM (marksOf K) c (marksOf K c++[m]):=by
 funext k
 unfold marksOf setK setM;by_cases e:k=c
 ·subst e;simp
 ·simp [e]
theorem WrG.kp(h:WrG B c w0 w b who n f0 f K lv len xs m len)(hc:c<4)(o:xs.length=len*(elC m c).length)(k:len<=1000)(l:∀ g,lv.ownBlock=some g->who g= .other):
  ∃ who1,KpG B c w0 w b who who1 n m f0 f K K lv len 0 (fun g=>lv.ownBlock=some g):=by
 have d:=h.row;rw [List.drop_eq_nil_of_le (by rw [o];exact Nat.le_refl _),List.append_nil]at d;obtain⟨p,e,i,j⟩:=h.hs.1.begin hc h.hs.2 d k l;refine⟨p,e,i,⟨h.fr.os,h.fr.tape,h.fr.output,h.fr.size,fun g q1 q2 q3=>?_⟩,h.lent,rfl,fun _ _=>rfl⟩;obtain⟨a,b⟩:=h.fr.oth g q1 q2 q3;exact⟨a,by rw [j g q3];exact b⟩
theorem KpG.push(h:KpG B c w0 w b who0 who n m f0 f K0 K lv len k ex)(hc:c<4){o:Obj}{g6 c6:Nat}
  (j:w6.ownsRow B (tlC c) 1 (.slice (some ⟨g6,0,none⟩) ((K c).length+1) c6) ((K c).length+1) ((K c).map (·.1)++[lv]))
  (key:((f (6+2*c)).ownBlock=some g6/\(w.alloc o).grownBy w6 (some g6))\/(g6=w.heap.size+1/\(w.alloc o).grownBy w6 none)):
  HB w6 b f/\∃ who' f',KpA B c w0 (w6.setCell ⟨b,6+2*c,none⟩ (.slice (some ⟨g6,0,none⟩) ((K c).length+1) c6)) b who0 who' n m f0 f' K0 K lv len k ex/\f' (7+2*c)=f (7+2*c):=by
 obtain⟨hsz,l,hsr,h6r⟩:=jp key (fun g e=>(h.hs.dom g e).2) (r:= .lst c) (by simp) (h.hs.wl c (by omega));have i:HB w6 b f:=h.hs.blk.same (l b (by rw [h.hs.wb];simp) (by rw [h.hs.wb];simp)).1;obtain⟨a,d⟩:=h.hs.push h.cu hc j key;refine⟨i,_,_,⟨a,d,?_,fun o ho=>by rw [iN _ _ (by omega)];exact h.lent o ho,h.len,h.oth⟩,iN _ _ (by omega)⟩;refine(h.fr.trans (Fr.key (r:= .lst c) (fun g e=>by rw [h.hs.wl c (by omega) g e];simp) key)).trans (Fr.set (Or.inl ?_));have:=a.wb;rw [this];simp
theorem KpA.tell(h:KpA B c w0 w b who0 who n m f0 f K0 K lv len k ex)(hc:c<4){M1:Option Addr}{N M3:Nat}(j:f (7+2*c)= .slice M1 N M3)(l:(K c).length=N){o:Obj}{g6 c6:Nat}
  (q:w6.ownsRow B 3 1 (.slice (some ⟨g6,0,none⟩) (N+1) c6) (N+1) (ints ((K c).map (·.2))++[.int .i64 m]))
  (key:((Value.slice M1 N M3).ownBlock=some g6/\(w.alloc o).grownBy w6 (some g6))\/(g6=w.heap.size+1/\(w.alloc o).grownBy w6 none)):
  HB w6 b f/\∃ who' f',KpG B c w0 (w6.setCell ⟨b,7+2*c,none⟩ (.slice (some ⟨g6,0,none⟩) (N+1) c6)) b who0 who' n m f0 f' K0 (setK K c (K c++[(lv,m)])) lv len (k+1) ex:=by
 rw [<-j]at key;obtain⟨hsz,s,hsr,h6r⟩:=jp key (fun g e=>(h.hs.dom g e).2) (r:= .mrk c) (by simp) (h.hs.wm c (by omega));have p:HB w6 b f:=h.hs.blk.same (s b (by rw [h.hs.wb];simp) (by rw [h.hs.wb];simp)).1;have i:(marksOf K c).length=N:=by simp [marksOf,l]
 obtain⟨a,d⟩:=h.hs.tell h.cu hc (w6:=w6) (g6:=g6) (c6:=c6) (o:=o) (by rw [i];exact q) key;rw [i]at a d;refine⟨p,_,_,⟨by rw [oP];exact a,d,?_,fun o ho=>by rw [iN _ _ (by omega)];exact h.lent o ho,by rw [kN,List.length_append,h.len];simp;omega,fun c' hc'=>by rw [kO _ _ hc'];exact h.oth c' hc'⟩⟩;refine(h.fr.trans (Fr.key (r:= .mrk c) (fun g e=>by rw [h.hs.wm c (by omega) g e];simp) key)).trans (Fr.set (Or.inl ?_));have:=a.wb;rw [this];simp
theorem KpG.grow(h:KpG B c w0 w b who0 who n m f0 f K0 K lv len k ex)(hc:c<4)(i:len+1<=1000){o:Obj}{g6 c6:Nat}
  (j:w6.ownsRow B (teC c) (elC m c).length (.slice (some ⟨g6,0,none⟩) (len+1) c6) (len+1) ((List.replicate len (elC m c)).flatten++elC m c))
  (key:(lv.ownBlock=some g6/\(w.alloc o).grownBy w6 (some g6))\/(g6=w.heap.size+1/\(w.alloc o).grownBy w6 none)):
  ∃ who',KpG B c w0 w6 b who0 who' n m f0 f K0 K (.slice (some ⟨g6,0,none⟩) (len+1) c6) (len+1) k ex:=by
 obtain⟨a,d⟩:=h.hs.grow h.cu hc i j key;exact⟨_,a,d,h.fr.trans (Fr.key (fun g e=>by rw [h.cu.wc g e];simp) key),h.lent,h.len,h.oth⟩
theorem KpG.done(h:KpG B c w0 w b who0 who n m f0 f K0 K lv len 4 ex):∃ who' f' K',HsK B w b who' n f' K'/\After c w0 w who0 who' f0 f' K0 K' ex:=
 ⟨settleW who,f,K,⟨h.hs.settled.1,h.hs.settled.2⟩,⟨h.fr.settled,h.lent,h.len,h.oth⟩⟩
end
theorem oO{B:Nat}{w:World}{b:Nat}{who:Nat->Role}{n:Int}{f:Nat->Value}{K:Nat->List (Value × Int)}{M:Nat->List Int}(h:Hs B w b who n f K M)(h0:0<=n)(h1:n<=10000000000000):
  Calls Tryz.prog 55 #[pt b] w fun e w'=>e= .returned (.int .i64 (-77000000 - (n+1)))/\w'=w.setCell ⟨b,5,none⟩ (.int .i64 (n+1)):=by
 have c5:w.cell? ⟨b,5,none⟩=some (.int .i64 n):=by rw [h.blk.cell (by omega),h.cnt]
 have f5:=h.blk.frozen 5;have c6:(w.setCell ⟨b,5,none⟩ (.int .i64 (n+1))).cell? ⟨b,5,none⟩=some (.int .i64 (n+1)):=by rw [(h.blk.set (by omega) (.int .i64 (n+1))).cell (by omega),jM]
 have a:pt b= .pointer (some ⟨b,0,none⟩):=rfl;rw [a];clear h a;go_enter Tryz.func55,Tryz.ntmps55
 go_wp2_with fail
 go_ret;exact⟨rfl,rfl⟩
end
section
open Go.RowKit
def tR:Nat->TypeId
 | 0=>39
 | 1=>39
 | 2=>66
 | 3=>66
 | _=>35
structure Lr(B:Nat)(w:World)(who:Nat->Role)(f:Nat->Value)(E:Nat->List Value):Prop where
 r:∀ k,k<5->w.ownsRow B (tR k) 1 (f k) (E k).length (E k)
 wr:∀ k,k<5->∀ g,(f k).ownBlock=some g->who g= .lrow k
def setE(E:Nat->List Value)(k:Nat)(l:List Value):Nat->List Value:=fun j=>if j=k then l else E j
theorem AY(E:Nat->List Value)(k:Nat)(l:List Value):setE E k l k=l:=by simp [setE]
theorem rH(E:Nat->List Value){k j:Nat}(l:List Value)(h:j≠k):setE E k l j=E j:=by simp [setE,h]
section
variable {B : Nat} {w w6 w' : World} {b : Nat} {who who' : Nat -> Role} {n : Int} {f : Nat -> Value} {K : Nat -> List (Value × Int)} {M : Nat -> List Int} {E : Nat -> List Value}
theorem Lr.same(h:Lr B w who f E)(hb:∀ g k,who g= .lrow k->w'.heap[g]?=w.heap[g]?):Lr B w' who f E:=
 ⟨fun k hk=>iI (h.r k hk) (fun g e=>hb g k (h.wr k hk g e)),h.wr⟩
theorem Lr.grown(h:Lr B w who f E)(hg:w.grownBy w' none):Lr B w' who f E:=
 ⟨fun k hk=>iI (h.r k hk) (fun g e=>hg.block g (iP (h.r k hk) g e) (by simp)),h.wr⟩
theorem Lr.more(h:Lr B w who f E)(hw:∀ g,who g≠ .other->who' g=who g):Lr B w who' f E:=
 ⟨h.r,fun k hk g e=>by have:=h.wr k hk g e;rw [hw g (by rw [this];simp),this]⟩
theorem Lr.push(h:Lr B w who f E)(c:Hs B w b who n f K M){k:Nat}(p:k<5){v:Value}{o:Obj}{g6 c6:Nat}
  (q:w6.ownsRow B (tR k) 1 (.slice (some ⟨g6,0,none⟩) ((E k).length+1) c6) ((E k).length+1) (E k++[v]))
  (key:((f k).ownBlock=some g6/\(w.alloc o).grownBy w6 (some g6))\/(g6=w.heap.size+1/\(w.alloc o).grownBy w6 none)):
  HB w6 b f/\Hs B (w6.setCell ⟨b,k,none⟩ (.slice (some ⟨g6,0,none⟩) ((E k).length+1) c6)) b (setW who g6 (.lrow k)) n (setF f k (.slice (some ⟨g6,0,none⟩) ((E k).length+1) c6)) K M/\
  Lr B (w6.setCell ⟨b,k,none⟩ (.slice (some ⟨g6,0,none⟩) ((E k).length+1) c6)) (setW who g6 (.lrow k)) (setF f k (.slice (some ⟨g6,0,none⟩) ((E k).length+1) c6)) (setE E k (E k++[v]))/\
  Fr w (w6.setCell ⟨b,k,none⟩ (.slice (some ⟨g6,0,none⟩) ((E k).length+1) c6)) who (setW who g6 (.lrow k)) (fun _=>False)/\
  (∀ g,who g= .lent->(w6.setCell ⟨b,k,none⟩ (.slice (some ⟨g6,0,none⟩) ((E k).length+1) c6)).heap[g]?=w.heap[g]?/\setW who g6 (.lrow k) g= .lent)/\(∀ g,who g≠ .other->setW who g6 (.lrow k) g=who g):=by
 obtain⟨F,l,hsr,u⟩:=jp key (fun g e=>(c.dom g e).2) (r:= .lrow k) (by simp) (h.wr k p);have z:g6≠b:=(l b (by rw [c.wb];simp) (by rw [c.wb];simp)).2;have A:HB w6 b f:=c.blk.same (l b (by rw [c.wb];simp) (by rw [c.wb];simp)).1;have D:Hs B w6 b who n f K M:=c.same F (fun g _ h2 h3=>(l g h2 (fun e=>by rw [e]at h3;cases h3)).1);have m:∀ g,who g≠ .other->setW who g6 (.lrow k) g=who g:=fun g h1=>by
  by_cases e:g=g6
  ·subst e;rw [iY];exact(u (c.dom g h1).2).symm
  ·exact iJ _ _ e
 have t:Hs B w6 b (setW who g6 (.lrow k)) n f K M:=D.more m (fun g e=>by
  by_cases d:g=g6
  ·subst d;exact⟨iA q g rfl,iP q g rfl⟩
  ·rw [iJ _ _ d]at e;have:=c.dom g e;exact⟨this.1,by omega⟩)
 have C:Fr w w6 who (setW who g6 (.lrow k)) (fun _=>False):=Fr.key (fun g e=>by rw [h.wr k p g e];simp) key;generalize y:Value.slice (some ⟨g6,0,none⟩) ((E k).length+1) c6=V at*;have s:V.ownBlock=some g6:=by rw [<-y];rfl
 have G:setW who g6 (.lrow k) b= .hands:=t.wb;refine⟨A,t.setLent p V,⟨fun j hj=>?_,fun j hj g e=>?_⟩,C.trans (Fr.set (Or.inl (by rw [G];simp))),fun g e=>⟨?_,by rw [m g (by rw [e];simp)];exact e⟩,m⟩
 ·by_cases e:j=k
  ·subst e;rw [jM,AY];have:=ownsRow_setCell_other (a:=⟨b,j,none⟩) q (show V.ownBlock≠some b by rw [s];simpa using z) V;simpa using this
  ·rw [iN _ _ e,rH _ _ e];refine iI (h.r j hj) (fun g d=>?_);have i:=h.wr j hj g d;rw [Below.heap_setCell _ _ _ _ (fun e3=>by simp only at e3;subst e3;rw [c.wb]at i;cases i)];exact(l g (by rw [i];simp) (by rw [i];simpa using e)).1
 ·by_cases d:j=k
  ·subst d;rw [jM,s]at e;simp only [Option.some.injEq]at e;subst e;exact iY _ _ _
  ·rw [iN _ _ d]at e;have i:=h.wr j hj g e;rw [m g (by rw [i];simp),i]
 ·rw [Below.heap_setCell _ _ _ _ (fun e3=>by simp only at e3;subst e3;rw [c.wb]at e;cases e)];exact(l g (by rw [e];simp) (by rw [e];simp)).1
end
def sl2(g n:Nat):Value:= .slice (some ⟨g,0,none⟩) (n+2) (n+2)
def insInk:List Value:=[.int .i64 (-77000000),.int .i64 0,.int .i64 0,.int .i64 0]
def insL(i:Ins):List Value:=[.int .i64 i.op,.int .i64 i.a,.int .i64 i.b,.int .i64 i.n]
def lentCode(c:List Ins):Array Value:=(c.flatMap insL++(insInk++insInk)).toArray
def slC(x:Nat × List Ins × Value):Value:= .slice (some ⟨x.1,0,none⟩) x.2.1.length (x.2.1.length+2)
def lentRows(l:List (Nat × List Ins × Value)):Array Value:=(l.map slC++[Value.slice none 0 0,Value.slice none 0 0]).toArray
def valOther(who:Nat->Role)(v:Value):Prop:=∀ g o l c,v= .slice (some ⟨g,o,none⟩) l c->0<l->who g= .other
structure Le(w:World)(who:Nat->Role)(LI:List (Nat × List Int × Value))(LC:List (Nat × List Ins × Value))(LR:List (Nat × Nat))(tail:Nat):Prop where
 li:∀ x∈LI,w.heap[x.1]?=some (.cells (lentRow x.2.1) 3 (0,0))/\who x.1= .lent/\IntsAt w.heap.size w x.2.2 x.2.1/\valOther who x.2.2/\x.2.1.length<=17592186043904
 lc:∀ x∈LC,w.heap[x.1]?=some (.cells (lentCode x.2.1) 65 (0,0))/\who x.1= .lent/\CodeAt w x.2.2 x.2.1/\valOther who x.2.2/\x.2.1.length<=4398046510976
 lr:∀ j (hj:j<LR.length),w.heap[LR[j].1]?=some (.cells (lentRows ((LC.drop ((LR.take j).map (·.2)).sum).take LR[j].2)) 66 (0,0))/\who LR[j].1= .lent/\LR[j].2<=5864062014634
 sum:(LR.map (·.2)).sum+tail=LC.length
 nd:(LI.map (·.1)++(LC.map (·.1)++LR.map (·.1))).Nodup
theorem valOther.mono{who who':Nat->Role}{v:Value}(h:valOther who v)(hw:∀ g,who g= .other->∀ o l c,v= .slice (some ⟨g,o,none⟩) l c->0<l->who' g= .other):valOther who' v:=fun g o l c e hl=>hw g (h g o l c e hl) o l c e hl
theorem oM{w w':World}{who:Nat->Role}{v:Value}{l:List Int}(h:IntsAt w.heap.size w v l)(j:valOther who v)(hs:w.heap.size<=w'.heap.size)(i:∀ g,g<w.heap.size->who g= .other->w'.heap[g]?=w.heap[g]?):IntsAt w'.heap.size w' v l:=by
 obtain⟨a,b,rfl,e,f⟩:=h;refine⟨a,b,rfl,e,fun k hk=>?_⟩;obtain⟨g,o,rfl,c,d⟩:=f k hk;exact⟨g,o,rfl,by omega,by rw [World.cell?_of_block (i g c (j g o _ _ rfl (by omega)))];exact d⟩
theorem mD{w w':World}{who:Nat->Role}{v:Value}{c:List Ins}(h:CodeAt w v c)(n:valOther who v)(m:∀ g,g<w.heap.size->who g= .other->w'.heap[g]?=w.heap[g]?):CodeAt w' v c:=by
 obtain⟨d,e,rfl,l⟩:=h;refine⟨d,e,rfl,fun k hk=>?_⟩;obtain⟨g,o,rfl,b,f,i,j⟩:=l k hk;have a:w'.heap[g]?=w.heap[g]?:=m g (World.block_lt_of_cell? w _ b) (n g o _ _ rfl (by omega));exact⟨g,o,rfl,by rw [World.cell?_of_block a];exact b,by rw [World.cell?_of_block a];exact f,by rw [World.cell?_of_block a];exact i,by rw [World.cell?_of_block a];exact j⟩
section
variable {w w' : World} {who who' : Nat -> Role} {LI : List (Nat × List Int × Value)} {LC : List (Nat × List Ins × Value)} {LR : List (Nat × Nat)} {tail : Nat}
theorem Le.keep(h:Le w who LI LC LR tail)(m:Fr w w' who who' (fun _=>False))(i:∀ g,who g= .lent->w'.heap[g]?=w.heap[g]?/\who' g= .lent):Le w' who' LI LC LR tail:=by
 have v:∀ g,g<w.heap.size->who g= .other->w'.heap[g]?=w.heap[g]?:=fun g u k=>(m.oth g u k (fun e=>e)).1
 refine⟨fun x hx=>?_,fun x hx=>?_,fun j hj=>?_,h.sum,h.nd⟩
 ·obtain⟨a,b,c,d,e⟩:=h.li x hx;refine⟨by rw [(i _ b).1];exact a,(i _ b).2,oM c d m.size v,?_,e⟩;obtain⟨y,z,r,u,k⟩:=c;intro g o l n f t;have s:=d g o l n f t;rw [r]at f;simp only [Value.slice.injEq]at f;obtain⟨A,B,p,q,_⟩:=k 0 (by omega);rw [p]at f;simp only [Option.some.injEq,Addr.mk.injEq,and_true]at f;obtain⟨⟨rfl,_⟩,_⟩:=f;exact(m.oth _ q s (fun e=>e)).2
 ·obtain⟨a,b,c,d,e⟩:=h.lc x hx;refine⟨by rw [(i _ b).1];exact a,(i _ b).2,mD c d v,?_,e⟩;obtain⟨y,z,r,k⟩:=c;intro g o l n f t;have s:=d g o l n f t;rw [r]at f;simp only [Value.slice.injEq]at f;obtain⟨A,B,p,q,_⟩:=k 0 (by omega);rw [p]at f;simp only [Option.some.injEq,Addr.mk.injEq,and_true]at f;obtain⟨⟨rfl,_⟩,_⟩:=f;exact(m.oth _ (World.block_lt_of_cell? w _ q) s (fun e=>e)).2
 ·obtain⟨a,b,c⟩:=h.lr j hj;exact⟨by rw [(i _ b).1];exact a,(i _ b).2,c⟩
end
def EL(LI:List (Nat × List Int × Value))(LC:List (Nat × List Ins × Value))(LR:List (Nat × Nat)):Nat->List Value
 | 0=>LI.map fun x=>sl2 x.1 x.2.1.length
 | 1=>LI.map fun x=>x.2.2
 | 2=>LC.map fun x=>sl2 x.1 x.2.1.length
 | 3=>LC.map fun x=>x.2.2
 | 4=>LR.map fun x=>sl2 x.1 x.2
 | _=>[]
structure Lx(B:Nat)(w:World)(b:Nat)(who:Nat->Role)(n:Int)(f:Nat->Value)(K:Nat->List (Value × Int))(E:Nat->List Value)(LI:List (Nat × List Int × Value))(LC:List (Nat × List Ins × Value))(LR:List (Nat × Nat))(tail:Nat):Prop where
 hs:HsK B w b who n f K
 lr:Lr B w who f E
 le:Le w who LI LC LR tail
section
variable {B : Nat} {w w6 w' : World} {b : Nat} {who who' : Nat -> Role} {n : Int} {f : Nat -> Value} {K : Nat -> List (Value × Int)} {E : Nat -> List Value} {LI : List (Nat × List Int × Value)} {LC : List (Nat × List Ins × Value)} {LR : List (Nat × Nat)} {tail : Nat}
theorem Lx.cell(h:Lx B w b who n f K E LI LC LR tail){o:Nat}(ho:o<16):w.cell? ⟨b,o,none⟩=some (f o):=h.hs.1.blk.cell ho
theorem Lx.low(h:Lx B w b who n f K E LI LC LR tail):B<=b/\b<w.heap.size:=h.hs.1.dom b (by rw [h.hs.1.wb];simp)
theorem Le.lt(h:Le w who LI LC LR tail):∀ g∈LI.map (·.1)++(LC.map (·.1)++LR.map (·.1)),g<w.heap.size/\who g= .lent:=by
 intro g c;rcases List.mem_append.1 c with c | c
 ·obtain⟨x,d,rfl⟩:=List.mem_map.1 c;obtain⟨a,b,_⟩:=h.li x d;exact⟨(Array.getElem?_eq_some_iff.1 a).1,b⟩
 ·rcases List.mem_append.1 c with c | c
  ·obtain⟨x,d,rfl⟩:=List.mem_map.1 c;obtain⟨a,b,_⟩:=h.lc x d;exact⟨(Array.getElem?_eq_some_iff.1 a).1,b⟩
  ·obtain⟨x,d,rfl⟩:=List.mem_map.1 c;obtain⟨j,e,rfl⟩:=List.getElem_of_mem d;obtain⟨a,b,_⟩:=h.lr j e;exact⟨(Array.getElem?_eq_some_iff.1 a).1,b⟩
theorem Lx.grown(h:Lx B w b who n f K E LI LC LR tail)(hg:w.grownBy w' none):Lx B w' b who n f K E LI LC LR tail:=
 ⟨h.hs.grown hg,h.lr.grown hg,h.le.keep (Fr.grown hg) (fun g e=>⟨hg.block g (h.hs.1.dom g (by rw [e];simp)).2 (by simp),e⟩)⟩
theorem Lx.new(h:Lx B w b who n f K E LI LC LR tail)(d:w.grownBy w' none){g:Nat}(k:w.heap.size<=g)(l:g<w'.heap.size):Lx B w' b (setW who g .lent) n f K E LI LC LR tail/\Fr w w' who (setW who g .lent) (fun _=>False):=by
 have i:∀ g',who g'≠ .other->setW who g .lent g'=who g':=fun g' e=>iJ _ _ (fun a=>by subst a;have:=(h.hs.1.dom g' e).2;omega)
 have j:=h.grown d;have hb:=h.low;refine⟨⟨⟨j.hs.1.more i (fun g' e=>?_),fun c hc x hx g' e=>?_⟩,j.lr.more i,?_⟩,Fr.setW (Fr.grown d) (Or.inl k)⟩
 ·by_cases a:g'=g
  ·subst a;exact⟨by omega,l⟩
  ·rw [iJ _ _ a]at e;exact j.hs.1.dom g' e
 ·have:=h.hs.2 c hc x hx g' e;rw [i g' (by rw [this];simp),this]
 ·exact h.le.keep (Fr.setW (Fr.grown d) (Or.inl k)) (fun g' e=>⟨d.block g' (h.hs.1.dom g' (by rw [e];simp)).2 (by simp),by rw [i g' (by rw [e];simp)];exact e⟩)
theorem Lx.push(h:Lx B w b who n f K E LI LC LR tail){k:Nat}(q:k<5){v:Value}{o:Obj}{g6 c6:Nat}
  (r:w6.ownsRow B (tR k) 1 (.slice (some ⟨g6,0,none⟩) ((E k).length+1) c6) ((E k).length+1) (E k++[v]))
  (key:((f k).ownBlock=some g6/\(w.alloc o).grownBy w6 (some g6))\/(g6=w.heap.size+1/\(w.alloc o).grownBy w6 none)):
  HB w6 b f/\∃ who' f',Lx B (w6.setCell ⟨b,k,none⟩ (.slice (some ⟨g6,0,none⟩) ((E k).length+1) c6)) b who' n f' K (setE E k (E k++[v])) LI LC LR tail/\
   Fr w (w6.setCell ⟨b,k,none⟩ (.slice (some ⟨g6,0,none⟩) ((E k).length+1) c6)) who who' (fun _=>False)/\(∀ j,j≠k->f' j=f j)/\(∀ g,who g= .lent->(w6.setCell ⟨b,k,none⟩ (.slice (some ⟨g6,0,none⟩) ((E k).length+1) c6)).heap[g]?=w.heap[g]?/\who' g= .lent):=by
 obtain⟨i,l,m,a,d,p⟩:=h.lr.push h.hs.1 q r key;refine⟨i,_,_,⟨⟨l,fun c hc x hx g e=>?_⟩,m,h.le.keep a d⟩,a,fun j hj=>iN _ _ hj,d⟩;have:=h.hs.2 c hc x hx g e;rw [p g (by rw [this];simp),this]
theorem Le.addInts(h:Le w who LI LC LR tail){g:Nat}{l:List Int}{d:Value}(m:w.heap[g]?=some (.cells (lentRow l) 3 (0,0)))(p:who g= .lent)(k:IntsAt w.heap.size w d l)(o:valOther who d)(n:l.length<=17592186043904)
  (b:g∉LI.map (·.1)++(LC.map (·.1)++LR.map (·.1))):Le w who (LI++[(g,l,d)]) LC LR tail:=by
 refine⟨fun x a=>?_,h.lc,h.lr,h.sum,?_⟩
 ·rcases List.mem_append.1 a with a | a
  ·exact h.li x a
  ·simp at a;subst a;exact⟨m,p,k,o,n⟩
 ·have:=h.nd;simp only [List.map_append,List.map_cons,List.map_nil,List.append_assoc,List.singleton_append];rw [List.nodup_append]at this ⊢;obtain⟨f,i,j⟩:=this;simp only [List.mem_append,not_or]at b;refine⟨f,?_,?_⟩
  ·rw [List.nodup_cons];exact⟨by simp only [List.mem_append,not_or];exact⟨b.2.1,b.2.2⟩,i⟩
  ·intro x a y c;rcases List.mem_cons.1 c with rfl | c
   ·intro e;subst e;exact b.1 a
   ·exact j x a y c
theorem zH(b:List (Nat × List Int × Value))(a:List (Nat × List Ins × Value))(c:List (Nat × Nat))(g:Nat)(l:List Int)(d:Value):
  setE (setE (EL b a c) 0 (EL b a c 0++[sl2 g l.length])) 1 (setE (EL b a c) 0 (EL b a c 0++[sl2 g l.length]) 1++[d])=EL (b++[(g,l,d)]) a c:=by
 funext k
 match k with
 | 0=>simp [setE,EL]
 | 1=>simp [setE,EL]
 | 2=>simp [setE,EL]
 | 3=>simp [setE,EL]
 | 4=>simp [setE,EL]
 | k+5=>simp [setE,EL]
end
end
section
open Go.RowKit
attribute [local go_sem] Go.World.cell?_alloc_some
theorem kc{w w':World}{who d:Nat->Role}{v:Value}{l:List Int}(h:IntsAt w.heap.size w v l)(c:valOther who v)(a:Fr w w' who d (fun _=>False)):IntsAt w'.heap.size w' v l/\valOther d v:=by
 refine⟨oM h c a.size (fun g h1 h2=>(a.oth g h1 h2 (fun e=>e)).1),c.mono (fun g e o l' c' e2 hl'=>?_)⟩;obtain⟨ao',cap',f,_,i⟩:=h;rw [f]at e2;simp only [Value.slice.injEq]at e2;obtain⟨g',o',b,e6,_⟩:=i 0 (by omega);rw [e2.1]at b;simp only [Option.some.injEq,Addr.mk.injEq,and_true]at b;exact(a.oth g (by omega) e (fun e=>e)).2
theorem jP(B:Nat)(w:World)(b:Nat)(who:Nat->Role)(n:Int)(f:Nat->Value)(K:Nat->List (Value × Int))(c:List (Nat × List Int × Value))(d:List (Nat × List Ins × Value))(i:List (Nat × Nat))(tail:Nat)(C:Value)(l:List Int)
  (h:Lx B w b who n f K (EL c d i) c d i tail) (Y:IntsAt w.heap.size w C l) (aW:valOther who C) (bA:l.length<=17592186043904) (aL:c.length<=1000):
  Calls Tryz.prog 20 #[pt b,C] w fun e w'=>∃ g who' f',e= .returned (.slice (some ⟨g,0,none⟩) l.length (l.length+2))/\Lx B w' b who' n f' K (EL (c++[(g,l,C)]) d i) (c++[(g,l,C)]) d i tail/\Fr w w' who who' (fun _=>False):=by
 obtain⟨i0,aP,bK,a1,bL⟩:=info_parts ji;obtain⟨i1,aQ,aY,aZ,a0⟩:=info_parts p9;have T:=ij h;have H:=ij Y;have HV:=ij aW;have hb:=h.low;obtain⟨m,p,rfl⟩:=Y.form;have aV:pt b= .pointer (some ⟨b,0,none⟩):=rfl;rw [aV];clear h Y aV aW;have q0:(l.length:Int)<=17592186043904:=by omega
 have q1:(0:Int)<=(l.length:Int):=by omega
 have bJ:(Tryz.prog.info? 3).map (·.size)=some 1:=by rw [aP];simp [a1]
 go_enter Tryz.func20,Tryz.ntmps20
 go_upto_region 3 with (at_make;refine wpList_make_full _ rfl _ _ _ rfl w.heap.size 3 i0 _ 1 Tryz.underlying39 aP bK a1 .i64 .i64 _ _ (l.length+2) rfl rfl (by simp) (by simp) (by rw [bL];omega) (by unfold maxLen;omega) (by simp) ?_;intro G aU P)
 have bF:∃ cur,G.heap[w.heap.size]?=some (.cells cur 3 (0,0))/\cur.size=l.length+2:=by
  rcases aU.2 with ⟨e,_⟩ | ⟨g',be,cur,hv,_,hh,_,_,hcs,_⟩
  ·cases e
  ·simp only [Value.slice.injEq,Option.some.injEq,Addr.mk.injEq,true_and,and_true]at hv;obtain⟨rfl,rfl⟩:=hv;exact⟨cur,hh,by simpa using hcs⟩
 obtain⟨cur,aM,bv⟩:=bF;have s:=ij P;have a8:Hid (IntsAt G.heap.size G (.slice m l.length p) l):=(H.out.pres (ip P)).mono P.size;have a5:=ij aM;clear aU P aM;obtain⟨q,bG,x,v⟩:=pI G 39 3 3 Tryz.underlying39 bJ w.heap.size (l.length+2) (l.length+2) (.slice m l.length p) G.heap.size l a8.out cur 3 a5.out (by omega) (by omega);go_upto_region 4 with fail
 clear bG;have a7:Hid (w.grownBy q none):=⟨v.os.trans s.out.os,v.tape.trans s.out.tape,v.output.trans s.out.output,Nat.le_trans s.out.size v.size,fun k hk _=>by
  rw [v.block k (Nat.lt_of_lt_of_le hk s.out.size) (by simp;omega)];exact s.out.block k hk (by simp)⟩
 have bH:w.heap.size<q.heap.size:=(Array.getElem?_eq_some_iff.1 x).1;obtain⟨R,O⟩:∃ R:Array Value,R=(ints l++cur.toList.drop l.length).toArray:=⟨_,rfl⟩;rw [<-O]at x;have hRs:R.size=l.length+2:=by rw [O];simp [jc];omega
 have bb:Hid ((R.setIfInBounds l.length ink).setIfInBounds (l.length+1) ink=lentRow l):=by unfold Hid;rw [O];exact AR l cur bv
 have Q:=heap_setCell_same q w.heap.size l.length R 3 ink x;have ag:=heap_setCell_same _ w.heap.size (l.length+1) _ 3 ink Q;rw [bb.out]at ag;have X:∃ u,q.cell? ⟨w.heap.size,l.length,none⟩=some u:=by
  refine⟨R[l.length]'(by omega),?_⟩;simp [World.cell?,x]
 have I:∃ u,(q.setCell ⟨w.heap.size,l.length,none⟩ ink).cell? ⟨w.heap.size,l.length+1,none⟩=some u:=by
  refine⟨(R.setIfInBounds l.length ink)[l.length+1]'(by simp;omega),?_⟩;simp only [World.cell?,Q];exact Array.getElem?_eq_getElem _
 obtain⟨u0,X⟩:=X;obtain⟨u1,I⟩:=I;have f0:q.frozen? ⟨w.heap.size,l.length,none⟩=false:=by simp [World.frozen?,x]
 have f1:(q.setCell ⟨w.heap.size,l.length,none⟩ ink).frozen? ⟨w.heap.size,l.length+1,none⟩=false:=by simp [World.frozen?,Q]
 obtain⟨a,y⟩:∃ a,a=(q.setCell ⟨w.heap.size,l.length,none⟩ ink).setCell ⟨w.heap.size,l.length+1,none⟩ ink:=⟨_,rfl⟩;have N:w.grownBy a none:=by rw [y];exact iD (iD a7.out (Nat.le_refl _)) (Nat.le_refl _)
 have ba:Hid (a.heap[w.heap.size]?=some (.cells (lentRow l) 3 (0,0))):=by rw [y];exact ag
 have bI:w.heap.size<a.heap.size:=by rw [y];simpa using bH
 have bw:ink= .int .i64 (-77000000):=rfl;rw [bw]at y I f1;have aG:=ij y;obtain⟨aX,aN⟩:=T.out.new N (Nat.le_refl _) bI;have a9:Hid (w.heap.size∉c.map (·.1)++(d.map (·.1)++i.map (·.1))):=fun e=>by have:=(T.out.le.lt _ e).1;omega
 have aA:Hid (IntsAt a.heap.size a (.slice m l.length p) l):=(H.out.pres (ip N)).mono N.size;have aF:Hid (valOther (setW who w.heap.size .lent) (.slice m l.length p)):=by
  refine HV.out.mono (fun g e o l' c' e2 hl'=>?_);rw [iJ]
  ·exact e
  ·intro e3;subst e3;obtain⟨ao',be,e4,_,h5⟩:=H.out;simp only [Value.slice.injEq]at e2 e4;obtain⟨g',o',e5,e6,_⟩:=h5 0 (by omega);rw [<-e4.1,e2.1]at e5;simp only [Option.some.injEq,Addr.mk.injEq,and_true]at e5;omega
 have A:=ij aX;have ax:=ij aN;have HW:Hid (setW who w.heap.size .lent w.heap.size= .lent):=iY _ _ _;have a6:=ij (zH c d i w.heap.size l (.slice m l.length p));have hE0:(EL c d i 0).length<=1000:=by simp only [EL,List.length_map];exact aL
 have bo:(EL c d i 1).length<=1000:=by simp only [EL,List.length_map];exact aL
 clear x v O Q ag y aX aN N H HV T;generalize setW who w.heap.size .lent=who5 at*;generalize EL c d i=E at*;generalize aO:w.heap.size=g0 at*;have HG0:=ij aO;clear aO;go_upto_region 6 with fail
 rw [<-aG.out];clear aG X I f0 f1;have F:a.ownsRow B 39 1 (f 0) (E 0).length (E 0):=A.out.lr.r 0 (by omega);have c0:a.cell? ⟨b,0,none⟩=some (f 0):=A.out.cell (by omega);obtain⟨o1,o2,o3,L⟩:=iw F;rw [L]at F c0;have bE:=iB F;subst bE;have V:Hid (∀ {o:Obj} {g6 c6:Nat} {w6:World},w6.ownsRow B 39 1 (.slice (some ⟨g6,0,none⟩) ((E 0).length+1) c6) ((E 0).length+1) (E 0++[sl2 g0 l.length])->
   (((Value.slice o1 (E 0).length o3).ownBlock=some g6/\(a.alloc o).grownBy w6 (some g6))\/(g6=a.heap.size+1/\(a.alloc o).grownBy w6 none))->
   HB w6 b f/\∃ who' f',Lx B (w6.setCell ⟨b,0,none⟩ (.slice (some ⟨g6,0,none⟩) ((E 0).length+1) c6)) b who' n f' K (setE E 0 (E 0++[sl2 g0 l.length])) c d i tail/\
   Fr a (w6.setCell ⟨b,0,none⟩ (.slice (some ⟨g6,0,none⟩) ((E 0).length+1) c6)) who5 who' (fun _=>False)/\(∀ j,j≠0->f' j=f j)/\(∀ g,who5 g= .lent->(w6.setCell ⟨b,0,none⟩ (.slice (some ⟨g6,0,none⟩) ((E 0).length+1) c6)).heap[g]?=a.heap[g]?/\who' g= .lent)):=by
  intro o g6 c6 w6 ad key;rw [<-L]at key;exact A.out.push (by omega) ad key
 have hbase:B<=a.heap.size:=by have:=A.out.low;omega
 have aD:=ij F;have aw:=ij L;have bn:(E 0).length+1<=maxLen:=by unfold maxLen;omega
 have aK:(E 1).length+1<=maxLen:=by unfold maxLen;omega
 clear F L;have au:Hid (setE E 0 (E 0++[sl2 g0 l.length]) 1=E 1):=rH _ _ (by omega);generalize br:(E 0).length=N0 at*;generalize bq:E 0=L0 at*;clear br bq;go_upto_region 7 with (at_builtin;go_must (refine iE rfl _ _ _ rfl B 39 i1 _ 1 24 Tryz.underlying23 aQ aY aZ a0 rfl (by omega) (.slice o1 N0 o3) N0 L0 rfl (iG aD.out) ⟨a.heap.size,0,none⟩ 1 1 [sl2 g0 l.length] rfl rfl (World.news_of_block (cs:= #[.slice (some ⟨g0,0,none⟩) (l.length+2) (l.length+2)]) (t:=39) (fr:=(0,0)) (heap_alloc_new a _)) (by simp [sl2,Value.oneCell']) (by omega) bn (by omega) (by simp;omega) (a.heap.size+1) (by simp) ?_);intro g8 bg w8 af ai bC;have aa:=(V.out af ai).1;have p6:w8.cell? ⟨b,0,none⟩=some (.slice o1 N0 o3):=(by rw [aa.cell (by omega),aw.out]);have p7:=aa.frozen 0)
 obtain⟨_,ar,M,z,ac,bz,aT⟩:=V.out af ai;generalize w8.setCell ⟨b,0,none⟩ (.slice (some ⟨g8,0,none⟩) (N0+1) bg)=w9 at*;generalize setE E 0 (L0++[sl2 g0 l.length])=E9 at*;rw [<-au.out]at bo aK;have D:w9.ownsRow B 39 1 (M 1) (E9 1).length (E9 1):=z.lr.r 1 (by omega);have c1:w9.cell? ⟨b,1,none⟩=some (M 1):=z.cell (by omega);obtain⟨m1,m2,m3,J⟩:=iw D;rw [J]at D c1;have bD:=iB D;subst bD;have W:Hid (∀ {o:Obj} {g6 c6:Nat} {w6:World},w6.ownsRow B 39 1 (.slice (some ⟨g6,0,none⟩) ((E9 1).length+1) c6) ((E9 1).length+1) (E9 1++[.slice m l.length p])->
   (((Value.slice m1 (E9 1).length m3).ownBlock=some g6/\(w9.alloc o).grownBy w6 (some g6))\/(g6=w9.heap.size+1/\(w9.alloc o).grownBy w6 none))->
   HB w6 b M/\∃ who' f',Lx B (w6.setCell ⟨b,1,none⟩ (.slice (some ⟨g6,0,none⟩) ((E9 1).length+1) c6)) b who' n f' K (setE E9 1 (E9 1++[.slice m l.length p])) c d i tail/\
   Fr w9 (w6.setCell ⟨b,1,none⟩ (.slice (some ⟨g6,0,none⟩) ((E9 1).length+1) c6)) ar who' (fun _=>False)/\(∀ j,j≠1->f' j=M j)/\(∀ g,ar g= .lent->(w6.setCell ⟨b,1,none⟩ (.slice (some ⟨g6,0,none⟩) ((E9 1).length+1) c6)).heap[g]?=w9.heap[g]?/\who' g= .lent)):=by
  intro o g6 c6 w6 ad key;rw [<-J]at key;exact z.push (by omega) ad key
 have hbase9:B<=w9.heap.size:=by have:=z.low;omega
 have aC:=ij D;have av:=ij J;have bd:=ij z;have ay:=ij (ax.out.trans ac);have aB:=ij (aT g0 HW.out);have U:Hid (IntsAt w9.heap.size w9 (.slice m l.length p) l/\valOther ar (.slice m l.length p)):=kc aA.out aF.out ac;clear D J af ai aa p6 p7 bC c0 z ac bz aT V aD aw A ax aA aF au;generalize bt:(E9 1).length=N1 at*;generalize hL1:E9 1=L1 at*;clear bt;go_upto_region 8 with (at_builtin;go_must (refine iE rfl _ _ _ rfl B 39 i1 _ 1 24 Tryz.underlying23 aQ aY aZ a0 rfl (by omega) (.slice m1 N1 m3) N1 L1 rfl (iG aC.out) ⟨w9.heap.size,0,none⟩ 1 1 [.slice m l.length p] rfl rfl (World.news_of_block (cs:= #[.slice m l.length p]) (t:=39) (fr:=(0,0)) (heap_alloc_new w9 _)) (by simp [Value.oneCell']) (by omega) aK (by omega) (by simp;omega) (w9.heap.size+1) (by simp) ?_);intro bk bf a3 ae ah bB;have Z:=(W.out ae ah).1;have p6:a3.cell? ⟨b,1,none⟩=some (.slice m1 N1 m3):=(by rw [Z.cell (by omega),av.out]);have p7:=Z.frozen 1)
 obtain⟨_,aq,aJ,S,ab,bx,aS⟩:=W.out ae ah;generalize a3.setCell ⟨b,1,none⟩ (.slice (some ⟨bk,0,none⟩) (N1+1) bf)=w11 at*;have az:Hid (Lx B w11 b aq n aJ K (EL (c++[(g0,l,.slice m l.length p)]) d i) (c++[(g0,l,.slice m l.length p)]) d i tail/\Fr w w11 who aq (fun _=>False)):=by
  obtain⟨bp,bu⟩:=kc U.out.1 U.out.2 ab;have hl:=aS g0 aB.out.2;refine⟨⟨S.hs,?_,S.le.addInts (by rw [hl.1,aB.out.1];exact ba.out) hl.2 bp bu bA a9.out⟩,ay.out.trans ab⟩;have:=S.lr;rw [a6.out]at this;exact this
 clear ae ah Z p6 p7 bB c1 S ab bx aS W aC av bd ay U;have q2:(l.length:Int)<=(l.length:Int)+2:=by omega
 go_wp2_with fail
 go_ret;exact⟨g0,aq,aJ,rfl,az.out.1,az.out.2⟩
end
section
open Go.RowKit
section
variable {P : Program}
theorem pf(w:World)(h y ty c:TypeId)(g b m:Nat)(a:Addr)(d x f:Nat)(cur:Array Value)(t:TypeId)(cs:List Value)
  (u:P.underlying h=some (.slice c)) (k:(P.info? c).map (·.size)=some f)
  (o:w.heap[g]?=some (.cells cur t (0,0))) (r:cs.length=Nat.min d b*f)
  (s:∀ j v,cs[j]?=some v->w.cell? (a.add j)=some v) (hfit:cs.length<=cur.size) (n:∀ v∈cs,v.oneCell'=true):
  (Builtin.copy_ #[h,y] ty #[.slice (some ⟨g,0,none⟩) b m,.slice (some a) d x]).run P w=
   .ok (goInt (Nat.min d b)) (w.setRow g (cs++cur.toList.drop cs.length).toArray):=by
 have q:=run_loadCells_list (P:=P) w a cs s;have l:=run_storeCells_at P g 0 t cs 0 cur w o (by omega) n;have e:(cur.toList.take (0+0)++cs++cur.toList.drop (0+0+cs.length))=cs++cur.toList.drop cs.length:=by simp
 rw [e]at l;cases hq:P.info? c with
 | none=>simp [hq]at k
 | some i=>
  have p:i.size=f:=by simpa [hq]using k
  simp [Builtin.copy_,run_underlying u,Builtin.lenOf,Builtin.firstCells,sizeOf,typeInfo,hq,p,<-r,q,l]
theorem nV{w:World}{o:Oper}{a:Act}{K:Act->World->Prop}{Q:Exit->Act->World->Prop}(s x:Operand)(t:TypeId)
  (V:o.op= .call { callee:= .builtin .append,args:= #[s,x],argTypes:= #[t,t]})
  (base:Nat) (e:TypeId) (i:TypeInfo) (z:Value) (b r:Nat) (E:P.underlying t=some (.slice e)) (y:P.info? e=some i) (M:i.zero=some z)
  (D:i.size=b) (J:i.bytes=r) (ab:z.cells.size=b) (Z:0<b)
  (v:Value) (n:Nat) (xs:List Value) (Y:a.eval s=v) (q:w.ownsRow base e b v n xs)
  (l:Addr) (m c:Nat) (f:List Value) (hx:a.eval x= .slice (some l) m c) (A:f.length=m*b) (B:∀ j u,f[j]?=some u->w.cell? (l.add j)=some u) (F:∀ u∈f,u.oneCell'=true)
  (U:0<m) (G:n+m<=maxLen) (L:(n+m)*r<=140737488355328) (T:base<=w.heap.size) (H:Nat) (I:w.heap.size=H)
  (h:∀ g cap w',w'.ownsRow base e b (.slice (some ⟨g,0,none⟩) (n+m) cap) (n+m) (xs++f)->((v.ownBlock=some g/\w.grownBy w' (some g))\/(g=H/\w.grownBy w' none))->g<w'.heap.size->K (a.put o.dst (.slice (some ⟨g,0,none⟩) (n+m) cap)) w'):o.wp P a w K Q:=by
 obtain⟨g,cap,w',C,N,O,p,R⟩:=run_append_lies (P:=P) w t o.type base e i z b r E y M D J ab Z v n xs q l m c f A B F U G L T H I;have key:(v.ownBlock=some g/\w.grownBy w' (some g))\/(g=H/\w.grownBy w' none):=by
  have hsmall:n+m<=9223372036854775807:=by simp only [maxLen]at G;omega
  rcases q.2 with ⟨rfl,rfl⟩ | ⟨g0,cap0,cur,rfl,hbg,hg,hnc,hcm,hcs,htake⟩
  ·rcases p with p | p
   ·cases p
   ·exact Or.inr ⟨p,O⟩
  ·by_cases X:n+m<=cap0
   ·obtain⟨w2,d,h6,S⟩:=run_append_fits (P:=P) w base t o.type e i b E y D g0 n cap0 xs q l m c f A B F X;rw [C]at d;simp only [Result.ok.injEq,Value.slice.injEq,Option.some.injEq,Addr.mk.injEq,true_and,and_true]at d;obtain⟨⟨rfl,rfl⟩,rfl⟩:=d;exact Or.inl ⟨rfl,S⟩
   ·subst D;subst J;have W:∀ j u,xs[j]?=some u->w.cell? ((⟨g0,0,none⟩:Addr).add j)=some u:=q.cells (g:=g0) rfl;have d:=run_append_grow (P:=P) w t o.type e i z E y M ⟨g0,0,none⟩ n cap0 xs q.1 W l m c f A B (by omega) (by omega) (growslice_fits (by omega) L);rw [C]at d;simp only [Result.ok.injEq,Value.slice.injEq,Option.some.injEq,Addr.mk.injEq,true_and,and_true]at d;obtain⟨⟨rfl,rfl⟩,rfl⟩:=d;exact Or.inr ⟨I,⟨rfl,rfl,rfl,by simp,fun k hk _=>Below.heap_alloc w.drew _ k hk⟩⟩
 unfold Oper.wp execOp;simp only [V,resolve,invoke,builtin,Sem.run_bind,Sem.run_pure,Result.andThen_ok,List.map_toArray,List.map_cons,List.map_nil,Y,hx,C];exact h g cap w' N key R
end
def codeL(c:List Ins):List Value:=c.flatMap insL
theorem jE(c:List Ins):(codeL c).length=c.length*4:=by
 induction c with
 | nil=>rfl
 | cons i c ih=>simp only [codeL,List.flatMap_cons,List.length_append]at*;rw [ih];simp [insL];omega
theorem vD(c:List Ins):∀ v∈codeL c,v.oneCell'=true:=by
 intro v a;simp only [codeL,List.mem_flatMap,insL,List.mem_cons,List.not_mem_nil,or_false]at a;obtain⟨i,_,rfl | rfl | rfl | rfl⟩:=a<;>rfl
theorem na:∀ (c:List Ins) (k:Nat) (hk:k<c.length),(codeL c)[k*4]?=some (.int .i64 c[k].op)/\(codeL c)[k*4+1]?=some (.int .i64 c[k].a)/\(codeL c)[k*4+2]?=some (.int .i64 c[k].b)/\(codeL c)[k*4+3]?=some (.int .i64 c[k].n)
 | [],k,hk=>by simp at hk
 | i::c,0,hk=>by simp [codeL,insL]
 | i::c,k+1,hk=>by
  have h:=na c k (by simpa using hk);have e:codeL (i::c)=insL i++codeL c:=by simp [codeL]
  have e4:∀ j,(codeL (i::c))[(k+1)*4+j]?=(codeL c)[k*4+j]?:=fun j=>by
   rw [e,List.getElem?_append_right (by simp [insL];omega)];congr 1
   simp [insL];omega
  refine⟨?_,?_,?_,?_⟩
  ·have:=e4 0;simp only [Nat.add_zero]at this;rw [this];simpa using h.1
  ·rw [e4 1];simpa using h.2.1
  ·rw [e4 2];simpa using h.2.2.1
  ·rw [e4 3];simpa using h.2.2.2
theorem rX{w:World}{d:Addr}{i:Nat}{c:List Ins}(h:CodeAt w (.slice (some d) c.length i) c):∀ j v,(codeL c)[j]?=some v->w.cell? (d.add j)=some v:=by
 intro j v b;have s:=(List.getElem?_eq_some_iff.1 b).1;rw [jE]at s;obtain⟨ao,cap',e,h⟩:=h;have f:j / 4<c.length:=by omega
 obtain⟨g,o,rfl,k,l,m,n⟩:=h (j / 4) f;simp only [Value.slice.injEq,Option.some.injEq]at e;obtain⟨rfl,_⟩:=e;have r:(⟨g,o,none⟩:Addr).add j=⟨g,o+j,none⟩:=by unfold Addr.add;split<;>simp_all
 obtain⟨g1,g2,p,q⟩:=na c (j / 4) f;rw [r];rcases(by omega:j % 4=0\/j % 4=1\/j % 4=2\/j % 4=3)with h0 | h0 | h0 | h0
 ·have a:j=j / 4*4:=by omega
  rw [a,g1]at b;rw [a];rw [k];exact b
 ·have a:j=j / 4*4+1:=by omega
  rw [a,g2]at b;rw [a,<-Nat.add_assoc];rw [l];exact b
 ·have a:j=j / 4*4+2:=by omega
  rw [a,p]at b;rw [a,<-Nat.add_assoc];rw [m];exact b
 ·have a:j=j / 4*4+3:=by omega
  rw [a,q]at b;rw [a,<-Nat.add_assoc];rw [n];exact b
theorem pH{P:Program}(w:World)(t ty f:TypeId)(m:P.underlying t=some (.slice f))(l:(P.info? f).map (·.size)=some 4)(g d n:Nat)(sv:Value)(c:List Ins)(o:CodeAt w sv c)(cur:Array Value)(b:TypeId)(j:w.heap[g]?=some (.cells cur b (0,0)))(A:c.length<=d)(y:c.length*4<=cur.size):
  ∃ w',(Builtin.copy_ #[t,t] ty #[.slice (some ⟨g,0,none⟩) d n,sv]).run P w= .ok (goInt c.length) w'/\w'.heap[g]?=some (.cells (codeL c++cur.toList.drop (c.length*4)).toArray b (0,0))/\w.grownBy w' (some g):=by
 have x:=o;obtain⟨q,r,e,hc⟩:=o;subst e;by_cases v:c.length=0
 ·have z:c=[]:=List.length_eq_zero_iff.1 v;subst z;refine⟨w,?_,?_,ir _ _⟩
  ·cases hq:P.info? f with
   | none=>simp [hq]at l
   | some i=>
    have hi:i.size=4:=by simpa [hq]using l
    cases q with
    | none=>simp [Builtin.copy_,run_underlying m,Builtin.lenOf,Builtin.firstCells,sizeOf,typeInfo,hq,storeCells]
    | some a=>simp [Builtin.copy_,run_underlying m,Builtin.lenOf,Builtin.firstCells,sizeOf,typeInfo,hq,storeCells,loadCells,loadCellsFrom]
  ·rw [j];simp [codeL]
 ·obtain⟨u,B,s,_⟩:=hc 0 (by omega);subst s;have p:Nat.min c.length d=c.length:=Nat.min_eq_left A;have h:=pf (P:=P) w t t ty f g d n ⟨u,B,none⟩ c.length r 4 cur b (codeL c) m l j (by rw [jE,p]) (rX x) (by rw [jE];exact y) (vD c);rw [p,jE]at h;exact⟨_,h,setRow_heap w g cur _ b (0,0) j,⟨rfl,rfl,rfl,by simp,fun k hk h=>setRow_other w g k _ (fun e=>h (by rw [e]))⟩⟩
theorem tr(l:List Nat)(j:Nat):(l.take j).sum<=l.sum:=by
 conv=>rhs;rw [<-List.take_append_drop j l,List.sum_append]
 omega
theorem pL(l:List Nat)(j:Nat)(a:j<l.length):(l.take j).sum+l[j]<=l.sum:=by
 have:=tr l (j+1);rw [List.take_succ_eq_append_getElem a,List.sum_append]at this;simpa using this
section
variable {B : Nat} {w w' : World} {b : Nat} {who who' : Nat -> Role} {n : Int} {f : Nat -> Value} {K : Nat -> List (Value × Int)} {E : Nat -> List Value} {LI : List (Nat × List Int × Value)} {LC : List (Nat × List Ins × Value)} {LR : List (Nat × Nat)} {tail : Nat}
theorem Le.row_in(h:Le w who LI LC LR tail)(j:Nat)(b:j<LR.length):((LR.take j).map (·.2)).sum+LR[j].2<=LC.length:=by
 have a:=pL (LR.map (·.2)) j (by simpa using b);have h2:=h.sum;rw [<-List.map_take]at a;simp only [List.getElem_map]at a;omega
theorem Le.addCode(h:Le w who LI LC LR tail){g:Nat}{c:List Ins}{l:Value}(q:w.heap[g]?=some (.cells (lentCode c) 65 (0,0)))(t:who g= .lent)(p:CodeAt w l c)(s:valOther who l)(r:c.length<=4398046510976)
  (i:g∉LI.map (·.1)++(LC.map (·.1)++LR.map (·.1))):Le w who LI (LC++[(g,c,l)]) LR (tail+1):=by
 refine⟨h.li,fun x a=>?_,fun j hj=>?_,by have:=h.sum;simp;omega,?_⟩
 ·rcases List.mem_append.1 a with a | a
  ·exact h.lc x a
  ·simp at a;subst a;exact⟨q,t,p,s,r⟩
 ·obtain⟨k,d,f⟩:=h.lr j hj;have h1:=h.row_in j hj;refine⟨?_,d,f⟩;rw [k];congr 2
  rw [List.drop_append_of_le_length (by omega),List.take_append_of_le_length (by rw [List.length_drop];omega)]
 ·have:=h.nd;simp only [List.map_append,List.map_cons,List.map_nil,List.append_assoc,List.singleton_append];simp only [List.mem_append,not_or]at i;rw [List.nodup_append]at this ⊢;obtain⟨k,d,f⟩:=this;rw [List.nodup_append]at d;obtain⟨m,n,o⟩:=d;refine⟨k,?_,?_⟩
  ·rw [List.nodup_append];refine⟨m,?_,?_⟩
   ·rw [List.nodup_cons];exact⟨i.2.2,n⟩
   ·intro x a y b;rcases List.mem_cons.1 b with rfl | b
    ·intro e;subst e;exact i.2.1 a
    ·exact o x a y b
  ·intro x a y b;rcases List.mem_append.1 b with b | b
   ·exact f x a y (List.mem_append.2 (Or.inl b))
   ·rcases List.mem_cons.1 b with rfl | b
    ·intro e;subst e;exact i.1 a
    ·exact f x a y (List.mem_append.2 (Or.inr b))
theorem Le.addRow(h:Le w who LI LC LR tail){g:Nat}(p:w.heap[g]?=some (.cells (lentRows (LC.drop ((LR.map (·.2)).sum))) 66 (0,0)))(r:who g= .lent)(q:tail<=5864062014634)
  (f:g∉LI.map (·.1)++(LC.map (·.1)++LR.map (·.1))):Le w who LI LC (LR++[(g,tail)]) 0:=by
 have hsum:=h.sum;refine⟨h.li,h.lc,fun j hj=>?_,by simp;omega,?_⟩
 ·by_cases e:j<LR.length
  ·obtain⟨i,c,d⟩:=h.lr j e;rw [List.getElem_append_left e,List.take_append_of_le_length (by omega)];exact⟨i,c,d⟩
  ·have o:j=LR.length:=by simp at hj;omega
   subst o;have n:(LR++[(g,tail)])[LR.length]'hj=(g,tail):=by simp
   rw [n,List.take_append_of_le_length (Nat.le_refl _),List.take_length,List.take_of_length_le (by rw [List.length_drop];omega)];exact⟨p,r,q⟩
 ·have:=h.nd;simp only [List.mem_append,not_or]at f;simp only [List.map_append,List.map_cons,List.map_nil];rw [List.nodup_append]at this ⊢;obtain⟨i,c,d⟩:=this;rw [List.nodup_append]at c;obtain⟨k,l,m⟩:=c;refine⟨i,?_,?_⟩
  ·rw [List.nodup_append];refine⟨k,?_,?_⟩
   ·rw [List.nodup_append];refine⟨l,by simp,?_⟩;intro x b y a;simp at a;subst a
    intro e;subst e;exact f.2.2 b
   ·intro x b y a;rcases List.mem_append.1 a with a | a
    ·exact m x b y a
    ·simp at a;subst a
     intro e;subst e;exact f.2.1 b
  ·intro x b y a;rcases List.mem_append.1 a with a | a
   ·exact d x b y (List.mem_append.2 (Or.inl a))
   ·rcases List.mem_append.1 a with a | a
    ·exact d x b y (List.mem_append.2 (Or.inr a))
    ·simp at a;subst a
     intro e;subst e;exact f.1 b
theorem zG(b:List (Nat × List Int × Value))(a:List (Nat × List Ins × Value))(d:List (Nat × Nat))(g:Nat)(c:List Ins)(e:Value):
  setE (setE (EL b a d) 2 (EL b a d 2++[sl2 g c.length])) 3 (setE (EL b a d) 2 (EL b a d 2++[sl2 g c.length]) 3++[e])=EL b (a++[(g,c,e)]) d:=by
 funext k
 match k with
 | 0=>simp [setE,EL]
 | 1=>simp [setE,EL]
 | 2=>simp [setE,EL]
 | 3=>simp [setE,EL]
 | 4=>simp [setE,EL]
 | k+5=>simp [setE,EL]
theorem Bv(b:List (Nat × List Int × Value))(a:List (Nat × List Ins × Value))(c:List (Nat × Nat))(g t:Nat):
  setE (EL b a c) 4 (EL b a c 4++[sl2 g t])=EL b a (c++[(g,t)]):=by
 funext k
 match k with
 | 0=>simp [setE,EL]
 | 1=>simp [setE,EL]
 | 2=>simp [setE,EL]
 | 3=>simp [setE,EL]
 | 4=>simp [setE,EL]
 | k+5=>simp [setE,EL]
end
theorem lE{w:World}{g:Nat}{c:List Ins}(h:w.heap[g]?=some (.cells (lentCode c) 65 (0,0)))(a:Nat):CodeAt w (.slice (some ⟨g,0,none⟩) c.length a) c:=by
 refine⟨some ⟨g,0,none⟩,a,rfl,fun k hk=>⟨g,0,rfl,?_⟩⟩;obtain⟨g1,g2,b,d⟩:=na c k hk;have hl:=jE c;have key:∀ j v,(codeL c)[j]?=some v->w.cell? ⟨g,j,none⟩=some v:=fun j v hj=>by
  have f:=(List.getElem?_eq_some_iff.1 hj).1;simp only [World.cell?,h,lentCode,List.getElem?_toArray];have e:List.flatMap insL c=codeL c:=rfl;rw [e,List.getElem?_append_left f];exact hj
 exact⟨by rw [Nat.zero_add];exact key _ _ g1,by rw [Nat.zero_add];exact key _ _ g2,by rw [Nat.zero_add];exact key _ _ b,by rw [Nat.zero_add];exact key _ _ d⟩
theorem ky{w:World}{who:Nat->Role}{d:List (Nat × List Int × Value)}{LC0 LC1:List (Nat × List Ins × Value)}{f:List (Nat × Nat)}{g:Nat}{p:List (List Ins)}(h:Le w who d (LC0++LC1) f 0)(i:w.heap[g]?=some (.cells (lentRows LC1) 66 (0,0)))
  (c:LC1.map (·.2.1)=p) (b:Nat):ProgAt w (.agg #[.slice (some ⟨g,0,none⟩) p.length b]) p:=by
 have hl:LC1.length=p.length:=by rw [<-c];simp
 refine⟨some ⟨g,0,none⟩,b,rfl,fun t ht=>⟨g,0,rfl,slC (LC1[t]'(by omega)),?_,?_⟩⟩
 ·rw [Nat.zero_add];simp only [World.cell?,i,lentRows,List.getElem?_toArray];rw [List.getElem?_append_left (by simp;omega),List.getElem?_map,List.getElem?_eq_getElem (by omega)];rfl
 ·have j:LC1[t]'(by omega)∈LC0++LC1:=List.mem_append.2 (Or.inr (List.getElem_mem _));obtain⟨a,_⟩:=h.lc _ j;have e:p[t]=(LC1[t]'(by omega)).2.1:=by simp [<-c]
  rw [e];exact lE a _
section
variable {B : Nat} {w w' : World} {b : Nat} {who who' : Nat -> Role} {n : Int} {f : Nat -> Value} {K : Nat -> List (Value × Int)} {E : Nat -> List Value} {LI : List (Nat × List Int × Value)} {LC : List (Nat × List Ins × Value)} {LR : List (Nat × Nat)} {tail : Nat}
theorem Le.keepIn(h:Le w who LI LC LR tail)(m:Fr w w' who who' (fun _=>False))(n:∀ g∈LI.map (·.1)++(LC.map (·.1)++LR.map (·.1)),w'.heap[g]?=w.heap[g]?/\who' g= .lent):Le w' who' LI LC LR tail:=by
 have u:∀ g,g<w.heap.size->who g= .other->w'.heap[g]?=w.heap[g]?:=fun g h1 k=>(m.oth g h1 k (fun e=>e)).1
 refine⟨fun x hx=>?_,fun x hx=>?_,fun j hj=>?_,h.sum,h.nd⟩
 ·obtain⟨a,b,c,d,e⟩:=h.li x hx;have f:=n x.1 (List.mem_append.2 (Or.inl (List.mem_map.2 ⟨x,hx,rfl⟩)));obtain⟨k1,k2⟩:=kc c d m;exact⟨by rw [f.1];exact a,f.2,k1,k2,e⟩
 ·obtain⟨a,b,c,d,e⟩:=h.lc x hx;have f:=n x.1 (List.mem_append.2 (Or.inr (List.mem_append.2 (Or.inl (List.mem_map.2 ⟨x,hx,rfl⟩)))));refine⟨by rw [f.1];exact a,f.2,mD c d u,?_,e⟩;obtain⟨ao,cap,s,k⟩:=c;intro g o l p i v;have t:=d g o l p i v;rw [s]at i;simp only [Value.slice.injEq]at i;obtain⟨g',o',q,r,_⟩:=k 0 (by omega);rw [q]at i;simp only [Option.some.injEq,Addr.mk.injEq,and_true]at i;obtain⟨⟨rfl,_⟩,_⟩:=i;exact(m.oth _ (World.block_lt_of_cell? w _ r) t (fun e=>e)).2
 ·obtain⟨a,b,c⟩:=h.lr j hj;have f:=n LR[j].1 (List.mem_append.2 (Or.inr (List.mem_append.2 (Or.inr (List.mem_map.2 ⟨LR[j],List.getElem_mem hj,rfl⟩)))));exact⟨by rw [f.1];exact a,f.2,c⟩
theorem Lx.setOut(h:Lx B w b who n f K E LI LC LR tail){g o:Nat}{v:Value}(c:who g= .lent)(i:g∉LI.map (·.1)++(LC.map (·.1)++LR.map (·.1))):Lx B (w.setCell ⟨g,o,none⟩ v) b who n f K E LI LC LR tail:=by
 have d:∀ g',g'≠g->(w.setCell ⟨g,o,none⟩ v).heap[g']?=w.heap[g']?:=fun g' e=>Below.heap_setCell _ _ _ _ (by simpa using e)
 refine⟨⟨h.hs.1.same (by simp) (fun g' _ _ h3=>d g' (fun e=>by subst e;rw [c]at h3;cases h3)),h.hs.2⟩,h.lr.same (fun g' k e=>d g' (fun e2=>by subst e2;rw [c]at e;cases e)),h.le.keepIn (Fr.set (Or.inl (by rw [c];simp))) (fun g' e=>⟨d g' (fun e2=>i (by rw [<-e2];exact e)),(h.le.lt g' e).2⟩)⟩
theorem Lx.addCode{LC1:List (Nat × List Ins × Value)}(h:Lx B w b who n f K E LI LC LR tail){g:Nat}{c:List Ins}{a:Value}(j:w.heap[g]?=some (.cells (lentCode c) 65 (0,0)))(o:who g= .lent)(e:CodeAt w a c)(m:valOther who a)(k:c.length<=4398046510976)
  (l:g∉LI.map (·.1)++(LC.map (·.1)++LR.map (·.1))) (i:E=EL LI LC1 LR) (d:LC1=LC++[(g,c,a)]):Lx B w b who n f K (EL LI LC1 LR) LI LC1 LR (tail+1):=by
 subst d;subst i;exact⟨h.hs,h.lr,h.le.addCode j o e m k l⟩
end
section
variable {B : Nat} {w w' : World} {b : Nat} {who who' : Nat -> Role} {n : Int} {f : Nat -> Value} {K : Nat -> List (Value × Int)} {E : Nat -> List Value} {LI : List (Nat × List Int × Value)} {LC : List (Nat × List Ins × Value)} {LR : List (Nat × Nat)} {tail : Nat}
theorem Lx.new2(h:Lx B w b who n f K E LI LC LR tail)(i:w.grownBy w' none){g1 g2:Nat}(m:w.heap.size<=g1)(o:g1<w'.heap.size)(p:w.heap.size<=g2)(q:g2<w'.heap.size):
  Lx B w' b (setW (setW who g1 .lent) g2 .lent) n f K E LI LC LR tail/\Fr w w' who (setW (setW who g1 .lent) g2 .lent) (fun _=>False):=by
 have a:∀ g',who g'≠ .other->setW (setW who g1 .lent) g2 .lent g'=who g':=fun g' e=>by
  have:=(h.hs.1.dom g' e).2;rw [iJ _ _ (by omega),iJ _ _ (by omega)]
 have d:=h.grown i;have hb:=h.low;have l:Fr w w' who (setW (setW who g1 .lent) g2 .lent) (fun _=>False):=Fr.setW (Fr.setW (Fr.grown i) (Or.inl m)) (Or.inl p);refine⟨⟨⟨d.hs.1.more a (fun g' e=>?_),fun c hc x hx g' e=>?_⟩,d.lr.more a,?_⟩,l⟩
 ·by_cases j:g'=g2
  ·subst j;exact⟨by omega,q⟩
  ·rw [iJ _ _ j]at e;by_cases k:g'=g1
   ·subst k;exact⟨by omega,o⟩
   ·rw [iJ _ _ k]at e;exact d.hs.1.dom g' e
 ·have:=h.hs.2 c hc x hx g' e;rw [a g' (by rw [this];simp),this]
 ·exact h.le.keep l (fun g' e=>⟨i.block g' (h.hs.1.dom g' (by rw [e];simp)).2 (by simp),by rw [a g' (by rw [e];simp)];exact e⟩)
end
end
end Go.Proofs.YtklenjmfalljgabGreatDoor
