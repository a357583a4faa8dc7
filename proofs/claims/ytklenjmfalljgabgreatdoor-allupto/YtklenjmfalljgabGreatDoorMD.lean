/- The texts Hgf Hgg Hgh Hgi Hgj Hgk Hgl Hgm. -/
import Derived.Test.YtklenjmfalljgabGreatDoorMC
namespace Go.Proofs.YtklenjmfalljgabGreatDoor
set_option maxRecDepth 100000
set_option maxHeartbeats 8000000
section
open Go.RowKit
def tR:Nat->TypeId
 | 0=>39
 | 1=>39
 | 2=>66
 | 3=>66
 | _=>35
structure Lr(B:Nat)(w:World)(who:Nat->Role)(f:Nat->Value)(E:Nat->List Value):Prop where
 r:∀ k,k<5->w.ownsRow B(tR k)1(f k)(E k).length(E k)
 wr:∀ k,k<5->∀ g,(f k).ownBlock=some g->who g= .lrow k
def kK(E:Nat->List Value)(k:Nat)(l:List Value):Nat->List Value:=fun j=>if j=k then l else E j
theorem EK(E:Nat->List Value)(k:Nat)(l:List Value):kK E k l k=l:=by simp [kK]
theorem vh(E:Nat->List Value) {k j:Nat}(l:List Value)(h:j≠k):kK E k l j=E j:=by simp [kK,h]
section
variable {B : Nat} {w w6 w' : World} {b : Nat} {who who' : Nat -> Role} {n : Int} {f : Nat -> Value} {K : Nat -> List (Value × Int)} {M : Nat -> List Int} {E : Nat -> List Value}
theorem Lr.same(h:Lr B w who f E)(hb:∀ g k,who g= .lrow k->w'.heap[g]?=w.heap[g]?):Lr B w' who f E:=
 ⟨fun k hk=>iJ(h.r k hk)(fun g e=>hb g k(h.wr k hk g e)),h.wr⟩
theorem Lr.grown(h:Lr B w who f E)(hg:w.grownBy w' none):Lr B w' who f E:=
 ⟨fun k hk=>iJ(h.r k hk)(fun g e=>hg.block g(iW(h.r k hk)g e)(by simp)),h.wr⟩
theorem Lr.more(h:Lr B w who f E)(hw:∀ g,who g≠ .other->who' g=who g):Lr B w who' f E:=
 ⟨h.r,fun k hk g e=>by have:=h.wr k hk g e;rw [hw g(by rw [this];simp),this]⟩
theorem Lr.push(h:Lr B w who f E)(hs:Hs B w b who n f K M) {k:Nat}(hk:k<5) {v:Value} {o:Obj} {g6 c6:Nat}
  (aa:w6.ownsRow B(tR k)1(.slice(some⟨g6,0,none⟩)((E k).length+1)c6)((E k).length+1)(E k++ [v]))
  (key:((f k).ownBlock=some g6/\(w.alloc o).grownBy w6(some g6))\/(g6=w.heap.size+1/\(w.alloc o).grownBy w6 none)):
  HB w6 b f/\Hs B(w6.setCell⟨b,k,none⟩(.slice(some⟨g6,0,none⟩)((E k).length+1)c6))b(setW who g6(.lrow k))n(lC f k(.slice(some⟨g6,0,none⟩)((E k).length+1)c6))K M/\
  Lr B(w6.setCell⟨b,k,none⟩(.slice(some⟨g6,0,none⟩)((E k).length+1)c6))(setW who g6(.lrow k))(lC f k(.slice(some⟨g6,0,none⟩)((E k).length+1)c6))(kK E k(E k++ [v]))/\
  Fr w(w6.setCell⟨b,k,none⟩(.slice(some⟨g6,0,none⟩)((E k).length+1)c6))who(setW who g6(.lrow k))(fun _=>False)/\
  (∀ g,who g= .lent->(w6.setCell⟨b,k,none⟩(.slice(some⟨g6,0,none⟩)((E k).length+1)c6)).heap[g]?=w.heap[g]?/\setW who g6(.lrow k)g= .lent)/\(∀ g,who g≠ .other->setW who g6(.lrow k)g=who g):=by
 obtain⟨ah,ac,hsr,ai⟩:=kH key(fun g e=>(hs.dom g e).2)(r:= .lrow k)(by simp)(h.wr k hk);have aj:g6≠b:=(ac b(by rw [hs.wb];simp)(by rw [hs.wb];simp)).2;have ae:HB w6 b f:=hs.blk.same(ac b(by rw [hs.wb];simp)(by rw [hs.wb];simp)).1;have ab:Hs B w6 b who n f K M:=hs.same ah(fun g _ h2 h3=>(ac g h2(fun e=>by rw [e]at h3;cases h3)).1);have hW:∀ g,who g≠ .other->setW who g6(.lrow k)g=who g:=fun g h1=>by
  by_cases e:g=g6
  ·subst e;rw [jz];exact(ai(hs.dom g h1).2).symm
  ·exact iK _ _ e
 have ag:Hs B w6 b(setW who g6(.lrow k))n f K M:=ab.more hW(fun g e=>by
  by_cases e2:g=g6
  ·subst e2;exact⟨iw aa g rfl,iW aa g rfl⟩
  ·rw [iK _ _ e2]at e;have:=hs.dom g e;exact⟨this.1,by omega⟩)
 have ak:Fr w w6 who(setW who g6(.lrow k))(fun _=>False):=Fr.key(fun g e=>by rw [h.wr k hk g e];simp)key;generalize hV:Value.slice(some⟨g6,0,none⟩)((E k).length+1)c6=V at*;have af:V.ownBlock=some g6:=by rw [<-hV];rfl
 have ad:setW who g6(.lrow k)b= .hands:=ag.wb;refine⟨ae,ag.setLent hk V,⟨fun j hj=> ?_,fun j hj g e=> ?_⟩,ak.trans(Fr.set(Or.inl(by rw [ad];simp))),fun g e=>⟨?_,by rw [hW g(by rw [e];simp)];exact e⟩,hW⟩
 ·by_cases e:j=k
  ·subst e;rw [lQ,EK];have:=ownsRow_setCell_other(a:=⟨b,j,none⟩)aa(show V.ownBlock≠some b by rw [af];simpa using aj)V;simpa using this
  ·rw [iT _ _ e,vh _ _ e];refine iJ(h.r j hj)(fun g e2=> ?_);have hg:=h.wr j hj g e2;rw [Below.heap_setCell _ _ _ _(fun e3=>by simp only at e3;subst e3;rw [hs.wb]at hg;cases hg)];exact(ac g(by rw [hg];simp)(by rw [hg];simpa using e)).1
 ·by_cases e2:j=k
  ·subst e2;rw [lQ,af]at e;simp only [Option.some.injEq]at e;subst e;exact jz _ _ _
  ·rw [iT _ _ e2]at e;have hg:=h.wr j hj g e;rw [hW g(by rw [hg];simp),hg]
 ·rw [Below.heap_setCell _ _ _ _(fun e3=>by simp only at e3;subst e3;rw [hs.wb]at e;cases e)];exact(ac g(by rw [e];simp)(by rw [e];simp)).1
end
def sl2(g n:Nat):Value:= .slice(some⟨g,0,none⟩)(n+2)(n+2)
def nP:List Value:= [.int .i64(-77000000), .int .i64 0, .int .i64 0, .int .i64 0]
def ue(i:Ins):List Value:= [.int .i64 i.op, .int .i64 i.a, .int .i64 i.b, .int .i64 i.n]
def kg(c:List Ins):Array Value:=(c.flatMap ue++(nP++nP)).toArray
def slC(x:Nat × List Ins × Value):Value:= .slice(some⟨x.1,0,none⟩)x.2.1.length(x.2.1.length+2)
def jx(l:List(Nat × List Ins × Value)):Array Value:=(l.map slC++ [Value.slice none 0 0,Value.slice none 0 0]).toArray
def valOther(who:Nat->Role)(v:Value):Prop:=∀ g o l c,v= .slice(some⟨g,o,none⟩)l c->0<l->who g= .other
structure Le(w:World)(who:Nat->Role)(LI:List(Nat × List Int × Value))(LC:List(Nat × List Ins × Value))(LR:List(Nat × Nat))(tail:Nat):Prop where
 li:∀ x∈LI,w.heap[x.1]?=some(.cells(kx x.2.1)3(0,0))/\who x.1= .lent/\IntsAt w.heap.size w x.2.2 x.2.1/\valOther who x.2.2/\x.2.1.length<=17592186043904
 lc:∀ x∈LC,w.heap[x.1]?=some(.cells(kg x.2.1)65(0,0))/\who x.1= .lent/\CodeAt w x.2.2 x.2.1/\valOther who x.2.2/\x.2.1.length<=4398046510976
 lr:∀ j(hj:j<LR.length),w.heap[LR[j].1]?=some(.cells(jx((LC.drop((LR.take j).map(·.2)).sum).take LR[j].2))66(0,0))/\who LR[j].1= .lent/\LR[j].2<=5864062014634
 sum:(LR.map(·.2)).sum+tail=LC.length
 nd:(LI.map(·.1)++(LC.map(·.1)++LR.map(·.1))).Nodup
theorem valOther.mono {who who':Nat->Role} {v:Value}(h:valOther who v)(hw:∀ g,who g= .other->∀ o l c,v= .slice(some⟨g,o,none⟩)l c->0<l->who' g= .other):valOther who' v:=fun g o l c e hl=>hw g(h g o l c e hl)o l c e hl
theorem tp {w w':World} {who:Nat->Role} {v:Value} {l:List Int}(h:IntsAt w.heap.size w v l)(hv:valOther who v)(hs:w.heap.size<=w'.heap.size)(hb:∀ g,g<w.heap.size->who g= .other->w'.heap[g]?=w.heap[g]?):IntsAt w'.heap.size w' v l:=by
 obtain⟨ao,aa,rfl,h1,h2⟩:=h;refine⟨ao,aa,rfl,h1,fun k hk=> ?_⟩;obtain⟨g,o,rfl,e2,e3⟩:=h2 k hk;exact⟨g,o,rfl,by omega,by rw [World.cell?_of_block(hb g e2(hv g o _ _ rfl(by omega)))];exact e3⟩
theorem qE {w w':World} {who:Nat->Role} {v:Value} {c:List Ins}(h:CodeAt w v c)(hv:valOther who v)(hb:∀ g,g<w.heap.size->who g= .other->w'.heap[g]?=w.heap[g]?):CodeAt w' v c:=by
 obtain⟨ao,aa,rfl,h2⟩:=h;refine⟨ao,aa,rfl,fun k hk=> ?_⟩;obtain⟨g,o,rfl,e2,e3,e4,e5⟩:=h2 k hk;have hg:w'.heap[g]?=w.heap[g]?:=hb g(World.block_lt_of_cell? w _ e2)(hv g o _ _ rfl(by omega));exact⟨g,o,rfl,by rw [World.cell?_of_block hg];exact e2,by rw [World.cell?_of_block hg];exact e3,by rw [World.cell?_of_block hg];exact e4,by rw [World.cell?_of_block hg];exact e5⟩
section
variable {w w' : World} {who who' : Nat -> Role} {LI : List (Nat × List Int × Value)} {LC : List (Nat × List Ins × Value)} {LR : List (Nat × Nat)} {tail : Nat}
theorem Le.keep(h:Le w who LI LC LR tail)(hf:Fr w w' who who'(fun _=>False))(hl:∀ g,who g= .lent->w'.heap[g]?=w.heap[g]?/\who' g= .lent):Le w' who' LI LC LR tail:=by
 have ho:∀ g,g<w.heap.size->who g= .other->w'.heap[g]?=w.heap[g]?:=fun g h1 h2=>(hf.oth g h1 h2(fun e=>e)).1
 refine⟨fun x hx=> ?_,fun x hx=> ?_,fun j hj=> ?_,h.sum,h.nd⟩
 ·obtain⟨a,b,c,d,e⟩:=h.li x hx;refine⟨by rw [(hl _ b).1];exact a,(hl _ b).2,tp c d hf.size ho, ?_,e⟩;obtain⟨ao,ab,ev,h1,h2⟩:=c;intro g o l cc e2 hz;have aa:=d g o l cc e2 hz;rw [ev]at e2;simp only [Value.slice.injEq]at e2;obtain⟨g',o',e3,e4,_⟩:=h2 0(by omega);rw [e3]at e2;simp only [Option.some.injEq,Addr.mk.injEq,and_true]at e2;obtain⟨⟨rfl,_⟩,_⟩:=e2;exact(hf.oth _ e4 aa(fun e=>e)).2
 ·obtain⟨a,b,c,d,e⟩:=h.lc x hx;refine⟨by rw [(hl _ b).1];exact a,(hl _ b).2,qE c d ho, ?_,e⟩;obtain⟨ao,ab,ev,h2⟩:=c;intro g o l cc e2 hz;have aa:=d g o l cc e2 hz;rw [ev]at e2;simp only [Value.slice.injEq]at e2;obtain⟨g',o',e3,e4,_⟩:=h2 0(by omega);rw [e3]at e2;simp only [Option.some.injEq,Addr.mk.injEq,and_true]at e2;obtain⟨⟨rfl,_⟩,_⟩:=e2;exact(hf.oth _(World.block_lt_of_cell? w _ e4)aa(fun e=>e)).2
 ·obtain⟨a,b,c⟩:=h.lr j hj;exact⟨by rw [(hl _ b).1];exact a,(hl _ b).2,c⟩
end
def EL(LI:List(Nat × List Int × Value))(LC:List(Nat × List Ins × Value))(LR:List(Nat × Nat)):Nat->List Value
 | 0=>LI.map fun x=>sl2 x.1 x.2.1.length
 | 1=>LI.map fun x=>x.2.2
 | 2=>LC.map fun x=>sl2 x.1 x.2.1.length
 | 3=>LC.map fun x=>x.2.2
 | 4=>LR.map fun x=>sl2 x.1 x.2
 | _=> []
structure Lx(B:Nat)(w:World)(b:Nat)(who:Nat->Role)(n:Int)(f:Nat->Value)(K:Nat->List(Value × Int))(E:Nat->List Value)(LI:List(Nat × List Int × Value))(LC:List(Nat × List Ins × Value))(LR:List(Nat × Nat))(tail:Nat):Prop where
 hs:HsK B w b who n f K
 lr:Lr B w who f E
 le:Le w who LI LC LR tail
section
variable {B : Nat} {w w6 w' : World} {b : Nat} {who who' : Nat -> Role} {n : Int} {f : Nat -> Value} {K : Nat -> List (Value × Int)} {E : Nat -> List Value} {LI : List (Nat × List Int × Value)} {LC : List (Nat × List Ins × Value)} {LR : List (Nat × Nat)} {tail : Nat}
theorem Lx.cell(h:Lx B w b who n f K E LI LC LR tail) {o:Nat}(ho:o<16):w.cell?⟨b,o,none⟩=some(f o):=h.hs.1.blk.cell ho
theorem Lx.low(h:Lx B w b who n f K E LI LC LR tail):B<=b/\b<w.heap.size:=h.hs.1.dom b(by rw [h.hs.1.wb];simp)
theorem Le.lt(h:Le w who LI LC LR tail):∀ g∈LI.map(·.1)++(LC.map(·.1)++LR.map(·.1)),g<w.heap.size/\who g= .lent:=by
 intro g hg;rcases List.mem_append.1 hg with hg | hg
 ·obtain⟨x,hx,rfl⟩:=List.mem_map.1 hg;obtain⟨a,b,_⟩:=h.li x hx;exact⟨(Array.getElem?_eq_some_iff.1 a).1,b⟩
 ·rcases List.mem_append.1 hg with hg | hg
  ·obtain⟨x,hx,rfl⟩:=List.mem_map.1 hg;obtain⟨a,b,_⟩:=h.lc x hx;exact⟨(Array.getElem?_eq_some_iff.1 a).1,b⟩
  ·obtain⟨x,hx,rfl⟩:=List.mem_map.1 hg;obtain⟨j,hj,rfl⟩:=List.getElem_of_mem hx;obtain⟨a,b,_⟩:=h.lr j hj;exact⟨(Array.getElem?_eq_some_iff.1 a).1,b⟩
theorem Lx.grown(h:Lx B w b who n f K E LI LC LR tail)(hg:w.grownBy w' none):Lx B w' b who n f K E LI LC LR tail:=
 ⟨h.hs.grown hg,h.lr.grown hg,h.le.keep(Fr.grown hg)(fun g e=>⟨hg.block g(h.hs.1.dom g(by rw [e];simp)).2(by simp),e⟩)⟩
theorem Lx.new(h:Lx B w b who n f K E LI LC LR tail)(hg:w.grownBy w' none) {g:Nat}(ab:w.heap.size<=g)(ac:g<w'.heap.size):Lx B w' b(setW who g .lent)n f K E LI LC LR tail/\Fr w w' who(setW who g .lent)(fun _=>False):=by
 have aa:∀ g',who g'≠ .other->setW who g .lent g'=who g':=fun g' e=>iK _ _(fun e2=>by subst e2;have:=(h.hs.1.dom g' e).2;omega)
 have h':=h.grown hg;have hb:=h.low;refine⟨⟨⟨h'.hs.1.more aa(fun g' e=> ?_),fun c hc x hx g' e=> ?_⟩,h'.lr.more aa, ?_⟩,Fr.setW(Fr.grown hg)(Or.inl ab)⟩
 ·by_cases e2:g'=g
  ·subst e2;exact⟨by omega,ac⟩
  ·rw [iK _ _ e2]at e;exact h'.hs.1.dom g' e
 ·have:=h.hs.2 c hc x hx g' e;rw [aa g'(by rw [this];simp),this]
 ·exact h.le.keep(Fr.setW(Fr.grown hg)(Or.inl ab))(fun g' e=>⟨hg.block g'(h.hs.1.dom g'(by rw [e];simp)).2(by simp),by rw [aa g'(by rw [e];simp)];exact e⟩)
theorem Lx.push(h:Lx B w b who n f K E LI LC LR tail) {k:Nat}(hk:k<5) {v:Value} {o:Obj} {g6 c6:Nat}
  (aa:w6.ownsRow B(tR k)1(.slice(some⟨g6,0,none⟩)((E k).length+1)c6)((E k).length+1)(E k++ [v]))
  (key:((f k).ownBlock=some g6/\(w.alloc o).grownBy w6(some g6))\/(g6=w.heap.size+1/\(w.alloc o).grownBy w6 none)):
  HB w6 b f/\∃ who' f',Lx B(w6.setCell⟨b,k,none⟩(.slice(some⟨g6,0,none⟩)((E k).length+1)c6))b who' n f' K(kK E k(E k++ [v]))LI LC LR tail/\
   Fr w(w6.setCell⟨b,k,none⟩(.slice(some⟨g6,0,none⟩)((E k).length+1)c6))who who'(fun _=>False)/\(∀ j,j≠k->f' j=f j)/\(∀ g,who g= .lent->(w6.setCell⟨b,k,none⟩(.slice(some⟨g6,0,none⟩)((E k).length+1)c6)).heap[g]?=w.heap[g]?/\who' g= .lent):=by
 obtain⟨h1,h2,h3,h4,h5,h6⟩:=h.lr.push h.hs.1 hk aa key;refine⟨h1,_,_,⟨⟨h2,fun c hc x hx g e=> ?_⟩,h3,h.le.keep h4 h5⟩,h4,fun j hj=>iT _ _ hj,h5⟩;have:=h.hs.2 c hc x hx g e;rw [h6 g(by rw [this];simp),this]
theorem Le.addInts(h:Le w who LI LC LR tail) {g:Nat} {l:List Int} {lv:Value}(hb:w.heap[g]?=some(.cells(kx l)3(0,0)))(hw:who g= .lent)(hI:IntsAt w.heap.size w lv l)(hv:valOther who lv)(hl:l.length<=17592186043904)
  (hn:g∉LI.map(·.1)++(LC.map(·.1)++LR.map(·.1))):Le w who(LI++ [(g,l,lv)])LC LR tail:=by
 refine⟨fun x hx=> ?_,h.lc,h.lr,h.sum, ?_⟩
 ·rcases List.mem_append.1 hx with hx | hx
  ·exact h.li x hx
  ·simp at hx;subst hx;exact⟨hb,hw,hI,hv,hl⟩
 ·have:=h.nd;simp only [List.map_append,List.map_cons,List.map_nil,List.append_assoc,List.singleton_append];rw [List.nodup_append]at this ⊢;obtain⟨a1,a2,a3⟩:=this;simp only [List.mem_append,not_or]at hn;refine⟨a1, ?_, ?_⟩
  ·rw [List.nodup_cons];exact⟨by simp only [List.mem_append,not_or];exact⟨hn.2.1,hn.2.2⟩,a2⟩
  ·intro x hx y hy;rcases List.mem_cons.1 hy with rfl | hy
   ·intro e;subst e;exact hn.1 hx
   ·exact a3 x hx y hy
theorem Ew(LI:List(Nat × List Int × Value))(LC:List(Nat × List Ins × Value))(LR:List(Nat × Nat))(g:Nat)(l:List Int)(lv:Value):
  kK(kK(EL LI LC LR)0(EL LI LC LR 0++ [sl2 g l.length]))1(kK(EL LI LC LR)0(EL LI LC LR 0++ [sl2 g l.length])1++ [lv])=EL(LI++ [(g,l,lv)])LC LR:=by
 funext k
 match k with
 | 0=>simp [kK,EL]
 | 1=>simp [kK,EL]
 | 2=>simp [kK,EL]
 | 3=>simp [kK,EL]
 | 4=>simp [kK,EL]
 | k+5=>simp [kK,EL]
end
end
section
open Go.RowKit
attribute [local go_sem] Go.World.cell?_alloc_some
theorem mI {w w':World} {who aa:Nat->Role} {v:Value} {l:List Int}(h:IntsAt w.heap.size w v l)(hv:valOther who v)(hf:Fr w w' who aa(fun _=>False)):IntsAt w'.heap.size w' v l/\valOther aa v:=by
 refine⟨tp h hv hf.size(fun g h1 h2=>(hf.oth g h1 h2(fun e=>e)).1),hv.mono(fun g e o l' c' e2 hl'=> ?_)⟩;obtain⟨ao',cap',e4,_,h5⟩:=h;rw [e4]at e2;simp only [Value.slice.injEq]at e2;obtain⟨g',o',e5,e6,_⟩:=h5 0(by omega);rw [e2.1]at e5;simp only [Option.some.injEq,Addr.mk.injEq,and_true]at e5;exact(hf.oth g(by omega)e(fun e=>e)).2
theorem lZ(B:Nat)(w:World)(b:Nat)(who:Nat->Role)(n:Int)(f:Nat->Value)(K:Nat->List(Value × Int))(LI:List(Nat × List Int × Value))(LC:List(Nat × List Ins × Value))(LR:List(Nat × Nat))(tail:Nat)(lv:Value)(l:List Int)
  (h:Lx B w b who n f K(EL LI LC LR)LI LC LR tail)(hI:IntsAt w.heap.size w lv l)(a5:valOther who lv)(br:l.length<=17592186043904)(bl:LI.length<=1000):
  Calls Tryz.prog 20 #[pt b,lv]w fun e w'=>∃ g who' f',e= .returned(.slice(some⟨g,0,none⟩)l.length(l.length+2))/\Lx B w' b who' n f' K(EL(LI++ [(g,l,lv)])LC LR)(LI++ [(g,l,lv)])LC LR tail/\Fr w w' who who'(fun _=>False):=by
 obtain⟨i0,bk,bx,ba,bv⟩:=info_parts kt;obtain⟨i1,a0,bb,bj,bm⟩:=info_parts uS;have HH:=hZ h;have HI:=hZ hI;have HV:=hZ a5;have hb:=h.low;obtain⟨ao,ad,rfl⟩:=hI.form;have bi:pt b= .pointer(some⟨b,0,none⟩):=rfl;rw [bi];clear h hI bi a5;have q0:(l.length:Int)<=17592186043904:=by omega
 have q1:(0:Int)<=(l.length:Int):=by omega
 have aJ:(Tryz.prog.info? 3).map(·.size)=some 1:=by rw [bk];simp [ba]
 go_enter Tryz.func20,Tryz.ntmps20
 go_upto_region 3 with(at_make;refine wpList_make_full _ rfl _ _ _ rfl w.heap.size 3 i0 _ 1 Tryz.underlying39 bk bx ba .i64 .i64 _ _(l.length+2)rfl rfl(by simp)(by simp)(by rw [bv];omega)(by unfold maxLen;omega)(by simp) ?_;intro w2 aj aF)
 have az:∃ cur,w2.heap[w.heap.size]?=some(.cells cur 3(0,0))/\cur.size=l.length+2:=by
  rcases aj.2 with⟨e,_⟩ | ⟨g',aQ,cur,hv,_,hh,_,_,hcs,_⟩
  ·cases e
  ·simp only [Value.slice.injEq,Option.some.injEq,Addr.mk.injEq,true_and,and_true]at hv;obtain⟨rfl,rfl⟩:=hv;exact⟨cur,hh,by simpa using hcs⟩
 obtain⟨cur,ay,aS⟩:=az;have av:=hZ aF;have bH:Hid(IntsAt w2.heap.size w2(.slice ao l.length ad)l):=(HI.out.pres(ie aF)).mono aF.size;have aI:=hZ ay;clear aj aF ay;obtain⟨w3,aN,aa,au⟩:=tY w2 39 3 3 Tryz.underlying39 aJ w.heap.size(l.length+2)(l.length+2)(.slice ao l.length ad)w2.heap.size l bH.out cur 3 aI.out(by omega)(by omega);go_upto_region 4 with fail
 clear aN;have bn:Hid(w.grownBy w3 none):=⟨au.os.trans av.out.os,au.tape.trans av.out.tape,au.output.trans av.out.output,Nat.le_trans av.out.size au.size,fun k hk _=>by
  rw [au.block k(Nat.lt_of_lt_of_le hk av.out.size)(by simp;omega)];exact av.out.block k hk(by simp)⟩
 have bp:w.heap.size<w3.heap.size:=(Array.getElem?_eq_some_iff.1 aa).1;obtain⟨R,hR⟩:∃ R:Array Value,R=(iI l++cur.toList.drop l.length).toArray:=⟨_,rfl⟩;rw [<-hR]at aa;have hRs:R.size=l.length+2:=by rw [hR];simp [jW];omega
 have bG:Hid((R.setIfInBounds l.length ink).setIfInBounds(l.length+1)ink=kx l):=by unfold Hid;rw [hR];exact EF l cur aS
 have ac:=heap_setCell_same w3 w.heap.size l.length R 3 ink aa;have ae:=heap_setCell_same _ w.heap.size(l.length+1)_ 3 ink ac;rw [bG.out]at ae;have d0:∃ u,w3.cell?⟨w.heap.size,l.length,none⟩=some u:=by
  refine⟨R[l.length]'(by omega), ?_⟩;simp [World.cell?,aa]
 have d1:∃ u,(w3.setCell⟨w.heap.size,l.length,none⟩ink).cell?⟨w.heap.size,l.length+1,none⟩=some u:=by
  refine⟨(R.setIfInBounds l.length ink)[l.length+1]'(by simp;omega), ?_⟩;simp only [World.cell?,ac];exact Array.getElem?_eq_getElem _
 obtain⟨u0,d0⟩:=d0;obtain⟨u1,d1⟩:=d1;have f0:w3.frozen?⟨w.heap.size,l.length,none⟩=false:=by simp [World.frozen?,aa]
 have f1:(w3.setCell⟨w.heap.size,l.length,none⟩ink).frozen?⟨w.heap.size,l.length+1,none⟩=false:=by simp [World.frozen?,ac]
 obtain⟨w5,ar⟩:∃ w5,w5=(w3.setCell⟨w.heap.size,l.length,none⟩ink).setCell⟨w.heap.size,l.length+1,none⟩ink:=⟨_,rfl⟩;have aG:w.grownBy w5 none:=by rw [ar];exact iC(iC bn.out(Nat.le_refl _))(Nat.le_refl _)
 have bt:Hid(w5.heap[w.heap.size]?=some(.cells(kx l)3(0,0))):=by rw [ar];exact ae
 have bB:w.heap.size<w5.heap.size:=by rw [ar];simpa using bp
 have aU:ink= .int .i64(-77000000):=rfl;rw [aU]at ar d1 f1;have bh:=hZ ar;obtain⟨bd,a7⟩:=HH.out.new aG(Nat.le_refl _)bB;have bq:Hid(w.heap.size∉LI.map(·.1)++(LC.map(·.1)++LR.map(·.1))):=fun e=>by have:=(HH.out.le.lt _ e).1;omega
 have a2:Hid(IntsAt w5.heap.size w5(.slice ao l.length ad)l):=(HI.out.pres(ie aG)).mono aG.size;have aZ:Hid(valOther(setW who w.heap.size .lent)(.slice ao l.length ad)):=by
  refine HV.out.mono(fun g e o l' c' e2 hl'=> ?_);rw [iK]
  ·exact e
  ·intro e3;subst e3;obtain⟨ao',aQ,e4,_,h5⟩:=HI.out;simp only [Value.slice.injEq]at e2 e4;obtain⟨g',o',e5,e6,_⟩:=h5 0(by omega);rw [<-e4.1,e2.1]at e5;simp only [Option.some.injEq,Addr.mk.injEq,and_true]at e5;omega
 have aB:=hZ bd;have a4:=hZ a7;have HW:Hid(setW who w.heap.size .lent w.heap.size= .lent):=jz _ _ _;have bE:=hZ(Ew LI LC LR w.heap.size l(.slice ao l.length ad));have hE0:(EL LI LC LR 0).length<=1000:=by simp only [EL,List.length_map];exact bl
 have bF:(EL LI LC LR 1).length<=1000:=by simp only [EL,List.length_map];exact bl
 clear aa au hR ac ae ar bd a7 aG HI HV HH;generalize setW who w.heap.size .lent=who5 at*;generalize EL LI LC LR=E at*;generalize aY:w.heap.size=g0 at*;have HG0:=hZ aY;clear aY;go_upto_region 6 with fail
 rw [<-bh.out];clear bh d0 d1 f0 f1;have rO:w5.ownsRow B 39 1(f 0)(E 0).length(E 0):=aB.out.lr.r 0(by omega);have c0:w5.cell?⟨b,0,none⟩=some(f 0):=aB.out.cell(by omega);obtain⟨o1,o2,o3,eO⟩:=iq rO;rw [eO]at rO c0;have bw:=iy rO;subst bw;have aH:Hid(∀ {o:Obj} {g6 c6:Nat} {w6:World},w6.ownsRow B 39 1(.slice(some⟨g6,0,none⟩)((E 0).length+1)c6)((E 0).length+1)(E 0++ [sl2 g0 l.length])->
   (((Value.slice o1(E 0).length o3).ownBlock=some g6/\(w5.alloc o).grownBy w6(some g6))\/(g6=w5.heap.size+1/\(w5.alloc o).grownBy w6 none))->
   HB w6 b f/\∃ who' f',Lx B(w6.setCell⟨b,0,none⟩(.slice(some⟨g6,0,none⟩)((E 0).length+1)c6))b who' n f' K(kK E 0(E 0++ [sl2 g0 l.length]))LI LC LR tail/\
   Fr w5(w6.setCell⟨b,0,none⟩(.slice(some⟨g6,0,none⟩)((E 0).length+1)c6))who5 who'(fun _=>False)/\(∀ j,j≠0->f' j=f j)/\(∀ g,who5 g= .lent->(w6.setCell⟨b,0,none⟩(.slice(some⟨g6,0,none⟩)((E 0).length+1)c6)).heap[g]?=w5.heap[g]?/\who' g= .lent)):=by
  intro o g6 c6 w6 an key;rw [<-eO]at key;exact aB.out.push(by omega)an key
 have hbase:B<=w5.heap.size:=by have:=aB.out.low;omega
 have a8:=hZ rO;have a1:=hZ eO;have aL:(E 0).length+1<=maxLen:=by unfold maxLen;omega
 have aA:(E 1).length+1<=maxLen:=by unfold maxLen;omega
 clear rO eO;have bc:Hid(kK E 0(E 0++ [sl2 g0 l.length])1=E 1):=vh _ _(by omega);generalize bA:(E 0).length=N0 at*;generalize bz:E 0=L0 at*;clear bA bz;go_upto_region 7 with(at_builtin;go_must(refine iD rfl _ _ _ rfl B 39 i1 _ 1 24 Tryz.underlying23 a0 bb bj bm rfl(by omega)(.slice o1 N0 o3)N0 L0 rfl(iG a8.out)⟨w5.heap.size,0,none⟩1 1 [sl2 g0 l.length]rfl rfl(World.news_of_block(cs:= #[.slice(some⟨g0,0,none⟩)(l.length+2)(l.length+2)])(t:=39)(fr:=(0,0))(heap_alloc_new w5 _))(by simp [sl2,Value.oneCell'])(by omega)aL(by omega)(by simp;omega)(w5.heap.size+1)(by simp) ?_);intro g8 aR w8 ah aq aW;have aP:=(aH.out ah aq).1;have p6:w8.cell?⟨b,0,none⟩=some(.slice o1 N0 o3):=(by rw [aP.cell(by omega),a1.out]);have p7:=aP.frozen 0)
 obtain⟨_,ak,f9,aw,aK,bD,bf⟩:=aH.out ah aq;generalize w8.setCell⟨b,0,none⟩(.slice(some⟨g8,0,none⟩)(N0+1)aR)=w9 at*;generalize kK E 0(L0++ [sl2 g0 l.length])=E9 at*;rw [<-bc.out]at bF aA;have rM:w9.ownsRow B 39 1(f9 1)(E9 1).length(E9 1):=aw.lr.r 1(by omega);have c1:w9.cell?⟨b,1,none⟩=some(f9 1):=aw.cell(by omega);obtain⟨m1,m2,m3,eM⟩:=iq rM;rw [eM]at rM c1;have bo:=iy rM;subst bo;have ap:Hid(∀ {o:Obj} {g6 c6:Nat} {w6:World},w6.ownsRow B 39 1(.slice(some⟨g6,0,none⟩)((E9 1).length+1)c6)((E9 1).length+1)(E9 1++ [.slice ao l.length ad])->
   (((Value.slice m1(E9 1).length m3).ownBlock=some g6/\(w9.alloc o).grownBy w6(some g6))\/(g6=w9.heap.size+1/\(w9.alloc o).grownBy w6 none))->
   HB w6 b f9/\∃ who' f',Lx B(w6.setCell⟨b,1,none⟩(.slice(some⟨g6,0,none⟩)((E9 1).length+1)c6))b who' n f' K(kK E9 1(E9 1++ [.slice ao l.length ad]))LI LC LR tail/\
   Fr w9(w6.setCell⟨b,1,none⟩(.slice(some⟨g6,0,none⟩)((E9 1).length+1)c6))ak who'(fun _=>False)/\(∀ j,j≠1->f' j=f9 j)/\(∀ g,ak g= .lent->(w6.setCell⟨b,1,none⟩(.slice(some⟨g6,0,none⟩)((E9 1).length+1)c6)).heap[g]?=w9.heap[g]?/\who' g= .lent)):=by
  intro o g6 c6 w6 an key;rw [<-eM]at key;exact aw.push(by omega)an key
 have hbase9:B<=w9.heap.size:=by have:=aw.low;omega
 have a3:=hZ rM;have be:=hZ eM;have bC:=hZ aw;have bg:=hZ(a4.out.trans aK);have a6:=hZ(bf g0 HW.out);have aT:Hid(IntsAt w9.heap.size w9(.slice ao l.length ad)l/\valOther ak(.slice ao l.length ad)):=mI a2.out aZ.out aK;clear rM eM ah aq aP p6 p7 aW c0 aw aK bD bf aH a8 a1 aB a4 a2 aZ bc;generalize bu:(E9 1).length=N1 at*;generalize hL1:E9 1=L1 at*;clear bu;go_upto_region 8 with(at_builtin;go_must(refine iD rfl _ _ _ rfl B 39 i1 _ 1 24 Tryz.underlying23 a0 bb bj bm rfl(by omega)(.slice m1 N1 m3)N1 L1 rfl(iG a3.out)⟨w9.heap.size,0,none⟩1 1 [.slice ao l.length ad]rfl rfl(World.news_of_block(cs:= #[.slice ao l.length ad])(t:=39)(fr:=(0,0))(heap_alloc_new w9 _))(by simp [Value.oneCell'])(by omega)aA(by omega)(by simp;omega)(w9.heap.size+1)(by simp) ?_);intro bI aE a9 ab ag aD;have al:=(ap.out ab ag).1;have p6:a9.cell?⟨b,1,none⟩=some(.slice m1 N1 m3):=(by rw [al.cell(by omega),be.out]);have p7:=al.frozen 1)
 obtain⟨_,af,aX,ai,am,aO,aC⟩:=ap.out ab ag;generalize a9.setCell⟨b,1,none⟩(.slice(some⟨bI,0,none⟩)(N1+1)aE)=w11 at*;have ax:Hid(Lx B w11 b af n aX K(EL(LI++ [(g0,l, .slice ao l.length ad)])LC LR)(LI++ [(g0,l, .slice ao l.length ad)])LC LR tail/\Fr w w11 who af(fun _=>False)):=by
  obtain⟨aV,aM⟩:=mI aT.out.1 aT.out.2 am;have hl:=aC g0 a6.out.2;refine⟨⟨ai.hs, ?_,ai.le.addInts(by rw [hl.1,a6.out.1];exact bt.out)hl.2 aV aM br bq.out⟩,bg.out.trans am⟩;have:=ai.lr;rw [bE.out]at this;exact this
 clear ab ag al p6 p7 aD c1 ai am aO aC ap a3 be bC bg aT;have q2:(l.length:Int)<=(l.length:Int)+2:=by omega
 go_wp2_with fail
 go_ret;exact⟨g0,af,aX,rfl,ax.out.1,ax.out.2⟩
end
section
open Go.RowKit
section
variable {P : Program}
theorem tz(w:World)(dT sT ty ab:TypeId)(g aa af:Nat)(a:Addr)(ac ad sz:Nat)(cur:Array Value)(t:TypeId)(cs:List Value)
  (hu:P.underlying dT=some(.slice ab))(hs:(P.info? ab).map(·.size)=some sz)
  (hg:w.heap[g]?=some(.cells cur t(0,0)))(hn:cs.length=Nat.min ac aa*sz)
  (ae:∀ j v,cs[j]?=some v->w.cell?(a.add j)=some v)(hfit:cs.length<=cur.size)(h1:∀ v∈cs,v.oneCell'=true):
  (Builtin.copy_ #[dT,sT]ty #[.slice(some⟨g,0,none⟩)aa af, .slice(some a)ac ad]).run P w=
   .ok(goInt(Nat.min ac aa))(w.setRow g(cs++cur.toList.drop cs.length).toArray):=by
 have hl:=run_loadCells_list(P:=P)w a cs ae;have ag:=run_storeCells_at P g 0 t cs 0 cur w hg(by omega)h1;have e:(cur.toList.take(0+0)++cs++cur.toList.drop(0+0+cs.length))=cs++cur.toList.drop cs.length:=by simp
 rw [e]at ag;cases hq:P.info? ab with
 | none=>simp [hq]at hs
 | some i=>
  have hi:i.size=sz:=by simpa [hq]using hs
  simp [Builtin.copy_,run_underlying hu,Builtin.lenOf,Builtin.firstCells,sizeOf,typeInfo,hq,hi,<-hn,hl,ag]
theorem sx {w:World} {o:Oper} {a:Act} {K:Act->World->Prop} {Q:Exit->Act->World->Prop}(s x:Operand)(t:TypeId)
  (ho:o.op= .call { callee:= .builtin .append,args:= #[s,x],argTypes:= #[t,t] })
  (base:Nat)(e:TypeId)(i:TypeInfo)(z:Value)(aa af:Nat)(ht:P.underlying t=some(.slice e))(hi:P.info? e=some i)(hz:i.zero=some z)
  (ag:i.size=aa)(am:i.bytes=af)(ao:z.cells.size=aa)(ap:0<aa)
  (v:Value)(n:Nat)(xs:List Value)(hs:a.eval s=v)(ae:w.ownsRow base e aa v n xs)
  (ad:Addr)(m c:Nat)(ab:List Value)(hx:a.eval x= .slice(some ad)m c)(hl:ab.length=m*aa)(ac:∀ j u,ab[j]?=some u->w.cell?(ad.add j)=some u)(h1:∀ u∈ab,u.oneCell'=true)
  (hm:0<m)(an:n+m<=maxLen)(ah:(n+m)*af<=140737488355328)(ak:base<=w.heap.size)(H:Nat)(hH:w.heap.size=H)
  (h:∀ g cap w',w'.ownsRow base e aa(.slice(some⟨g,0,none⟩)(n+m)cap)(n+m)(xs++ab)->((v.ownBlock=some g/\w.grownBy w'(some g))\/(g=H/\w.grownBy w' none))->g<w'.heap.size->K(a.put o.dst(.slice(some⟨g,0,none⟩)(n+m)cap))w'):o.wp P a w K Q:=by
 obtain⟨g,cap,w',hr,h2,h3,h4,h5⟩:=run_append_lies(P:=P)w t o.type base e i z aa af ht hi hz ag am ao ap v n xs ae ad m c ab hl ac h1 hm an ah ak H hH;have key:(v.ownBlock=some g/\w.grownBy w'(some g))\/(g=H/\w.grownBy w' none):=by
  have hsmall:n+m<=9223372036854775807:=by simp only [maxLen]at an;omega
  rcases ae.2 with⟨rfl,rfl⟩ | ⟨g0,cap0,cur,rfl,hbg,hg,hnc,hcm,hcs,htake⟩
  ·rcases h4 with h4 | h4
   ·cases h4
   ·exact Or.inr⟨h4,h3⟩
  ·by_cases al:n+m<=cap0
   ·obtain⟨w2,ai,h6,h7⟩:=run_append_fits(P:=P)w base t o.type e i aa ht hi ag g0 n cap0 xs ae ad m c ab hl ac h1 al;rw [hr]at ai;simp only [Result.ok.injEq,Value.slice.injEq,Option.some.injEq,Addr.mk.injEq,true_and,and_true]at ai;obtain⟨⟨rfl,rfl⟩,rfl⟩:=ai;exact Or.inl⟨rfl,h7⟩
   ·subst ag;subst am;have aj:∀ j u,xs[j]?=some u->w.cell?((⟨g0,0,none⟩:Addr).add j)=some u:=ae.cells(g:=g0)rfl;have ai:=run_append_grow(P:=P)w t o.type e i z ht hi hz⟨g0,0,none⟩n cap0 xs ae.1 aj ad m c ab hl ac(by omega)(by omega)(growslice_fits(by omega)ah);rw [hr]at ai;simp only [Result.ok.injEq,Value.slice.injEq,Option.some.injEq,Addr.mk.injEq,true_and,and_true]at ai;obtain⟨⟨rfl,rfl⟩,rfl⟩:=ai;exact Or.inr⟨hH,⟨rfl,rfl,rfl,by simp,fun k hk _=>Below.heap_alloc w.drew _ k hk⟩⟩
 unfold Oper.wp execOp;simp only [ho,resolve,invoke,builtin,Sem.run_bind,Sem.run_pure,Result.andThen_ok,List.map_toArray,List.map_cons,List.map_nil,hs,hx,hr];exact h g cap w' h2 key h5
end
def kM(c:List Ins):List Value:=c.flatMap ue
theorem lD(c:List Ins):(kM c).length=c.length*4:=by
 induction c with
 | nil=>rfl
 | cons i c ih=>simp only [kM,List.flatMap_cons,List.length_append]at*;rw [ih];simp [ue];omega
theorem Bx(c:List Ins):∀ v∈kM c,v.oneCell'=true:=by
 intro v hv;simp only [kM,List.mem_flatMap,ue,List.mem_cons,List.not_mem_nil,or_false]at hv;obtain⟨i,_,rfl | rfl | rfl | rfl⟩:=hv<;>rfl
theorem rH:∀ (c:List Ins)(k:Nat)(hk:k<c.length),(kM c)[k*4]?=some(.int .i64 c[k].op)/\(kM c)[k*4+1]?=some(.int .i64 c[k].a)/\(kM c)[k*4+2]?=some(.int .i64 c[k].b)/\(kM c)[k*4+3]?=some(.int .i64 c[k].n)
 | [],k,hk=>by simp at hk
 | i::c,0,hk=>by simp [kM,ue]
 | i::c,k+1,hk=>by
  have h:=rH c k(by simpa using hk);have e:kM(i::c)=ue i++kM c:=by simp [kM]
  have e4:∀ j,(kM(i::c))[(k+1)*4+j]?=(kM c)[k*4+j]?:=fun j=>by
   rw [e,List.getElem?_append_right(by simp [ue];omega)];congr 1
   simp [ue];omega
  refine⟨?_, ?_, ?_, ?_⟩
  ·have:=e4 0;simp only [Nat.add_zero]at this;rw [this];simpa using h.1
  ·rw [e4 1];simpa using h.2.1
  ·rw [e4 2];simpa using h.2.2.1
  ·rw [e4 3];simpa using h.2.2.2
theorem wE {w:World} {ad:Addr} {ac:Nat} {c:List Ins}(h:CodeAt w(.slice(some ad)c.length ac)c):∀ j v,(kM c)[j]?=some v->w.cell?(ad.add j)=some v:=by
 intro j v hj;have ab:=(List.getElem?_eq_some_iff.1 hj).1;rw [lD]at ab;obtain⟨ao,cap',e,h⟩:=h;have hk:j / 4<c.length:=by omega
 obtain⟨g,o,rfl,e1,e2,e3,e4⟩:=h(j / 4)hk;simp only [Value.slice.injEq,Option.some.injEq]at e;obtain⟨rfl,_⟩:=e;have aa:(⟨g,o,none⟩:Addr).add j=⟨g,o+j,none⟩:=by unfold Addr.add;split<;>simp_all
 obtain⟨g1,g2,g3,g4⟩:=rH c(j / 4)hk;rw [aa];rcases(by omega:j % 4=0\/j % 4=1\/j % 4=2\/j % 4=3)with h0 | h0 | h0 | h0
 ·have ej:j=j / 4*4:=by omega
  rw [ej,g1]at hj;rw [ej];rw [e1];exact hj
 ·have ej:j=j / 4*4+1:=by omega
  rw [ej,g2]at hj;rw [ej,<-Nat.add_assoc];rw [e2];exact hj
 ·have ej:j=j / 4*4+2:=by omega
  rw [ej,g3]at hj;rw [ej,<-Nat.add_assoc];rw [e3];exact hj
 ·have ej:j=j / 4*4+3:=by omega
  rw [ej,g4]at hj;rw [ej,<-Nat.add_assoc];rw [e4];exact hj
theorem ui {P:Program}(w:World)(t ty ab:TypeId)(hu:P.underlying t=some(.slice ab))(ae:(P.info? ab).map(·.size)=some 4)(g aa ac:Nat)(sv:Value)(c:List Ins)(hC:CodeAt w sv c)(cur:Array Value)(ct:TypeId)(hg:w.heap[g]?=some(.cells cur ct(0,0)))(ah:c.length<=aa)(af:c.length*4<=cur.size):
  ∃ w',(Builtin.copy_ #[t,t]ty #[.slice(some⟨g,0,none⟩)aa ac,sv]).run P w= .ok(goInt c.length)w'/\w'.heap[g]?=some(.cells(kM c++cur.toList.drop(c.length*4)).toArray ct(0,0))/\w.grownBy w'(some g):=by
 have ai:=hC;obtain⟨ao,ag,e,hc⟩:=hC;subst e;by_cases h0:c.length=0
 ·have hl:c= []:=List.length_eq_zero_iff.1 h0;subst hl;refine⟨w, ?_, ?_,il _ _⟩
  ·cases hq:P.info? ab with
   | none=>simp [hq]at ae
   | some i=>
    have hi:i.size=4:=by simpa [hq]using ae
    cases ao with
    | none=>simp [Builtin.copy_,run_underlying hu,Builtin.lenOf,Builtin.firstCells,sizeOf,typeInfo,hq,storeCells]
    | some a=>simp [Builtin.copy_,run_underlying hu,Builtin.lenOf,Builtin.firstCells,sizeOf,typeInfo,hq,storeCells,loadCells,loadCellsFrom]
  ·rw [hg];simp [kM]
 ·obtain⟨g',o',e',_⟩:=hc 0(by omega);subst e';have ad:Nat.min c.length aa=c.length:=Nat.min_eq_left ah;have hr:=tz(P:=P)w t t ty ab g aa ac⟨g',o',none⟩c.length ag 4 cur ct(kM c)hu ae hg(by rw [lD,ad])(wE ai)(by rw [lD];exact af)(Bx c);rw [ad,lD]at hr;exact⟨_,hr,setRow_heap w g cur _ ct(0,0)hg,⟨rfl,rfl,rfl,by simp,fun k hk hr=>setRow_other w g k _(fun e=>hr(by rw [e]))⟩⟩
end
section
open Go.RowKit
theorem yi(l:List Nat)(j:Nat):(l.take j).sum<=l.sum:=by
 conv=>rhs;rw [<-List.take_append_drop j l,List.sum_append]
 omega
theorem ub(l:List Nat)(j:Nat)(hj:j<l.length):(l.take j).sum+l[j]<=l.sum:=by
 have:=yi l(j+1);rw [List.take_succ_eq_append_getElem hj,List.sum_append]at this;simpa using this
section
variable {B : Nat} {w w' : World} {b : Nat} {who who' : Nat -> Role} {n : Int} {f : Nat -> Value} {K : Nat -> List (Value × Int)} {E : Nat -> List Value} {LI : List (Nat × List Int × Value)} {LC : List (Nat × List Ins × Value)} {LR : List (Nat × Nat)} {tail : Nat}
theorem Le.row_in(h:Le w who LI LC LR tail)(j:Nat)(hj:j<LR.length):((LR.take j).map(·.2)).sum+LR[j].2<=LC.length:=by
 have h1:=ub(LR.map(·.2))j(by simpa using hj);have h2:=h.sum;rw [<-List.map_take]at h1;simp only [List.getElem_map]at h1;omega
theorem Le.addCode(h:Le w who LI LC LR tail) {g:Nat} {c:List Ins} {cv:Value}(hb:w.heap[g]?=some(.cells(kg c)65(0,0)))(hw:who g= .lent)(hC:CodeAt w cv c)(hv:valOther who cv)(hl:c.length<=4398046510976)
  (hn:g∉LI.map(·.1)++(LC.map(·.1)++LR.map(·.1))):Le w who LI(LC++ [(g,c,cv)])LR(tail+1):=by
 refine⟨h.li,fun x hx=> ?_,fun j hj=> ?_,by have:=h.sum;simp;omega, ?_⟩
 ·rcases List.mem_append.1 hx with hx | hx
  ·exact h.lc x hx
  ·simp at hx;subst hx;exact⟨hb,hw,hC,hv,hl⟩
 ·obtain⟨a1,a2,a3⟩:=h.lr j hj;have h1:=h.row_in j hj;refine⟨?_,a2,a3⟩;rw [a1];congr 2
  rw [List.drop_append_of_le_length(by omega),List.take_append_of_le_length(by rw [List.length_drop];omega)]
 ·have:=h.nd;simp only [List.map_append,List.map_cons,List.map_nil,List.append_assoc,List.singleton_append];simp only [List.mem_append,not_or]at hn;rw [List.nodup_append]at this ⊢;obtain⟨a1,a2,a3⟩:=this;rw [List.nodup_append]at a2;obtain⟨b1,b2,b3⟩:=a2;refine⟨a1, ?_, ?_⟩
  ·rw [List.nodup_append];refine⟨b1, ?_, ?_⟩
   ·rw [List.nodup_cons];exact⟨hn.2.2,b2⟩
   ·intro x hx y hy;rcases List.mem_cons.1 hy with rfl | hy
    ·intro e;subst e;exact hn.2.1 hx
    ·exact b3 x hx y hy
  ·intro x hx y hy;rcases List.mem_append.1 hy with hy | hy
   ·exact a3 x hx y(List.mem_append.2(Or.inl hy))
   ·rcases List.mem_cons.1 hy with rfl | hy
    ·intro e;subst e;exact hn.1 hx
    ·exact a3 x hx y(List.mem_append.2(Or.inr hy))
theorem Le.addRow(h:Le w who LI LC LR tail) {g:Nat}(hb:w.heap[g]?=some(.cells(jx(LC.drop((LR.map(·.2)).sum)))66(0,0)))(hw:who g= .lent)(hl:tail<=5864062014634)
  (hn:g∉LI.map(·.1)++(LC.map(·.1)++LR.map(·.1))):Le w who LI LC(LR++ [(g,tail)])0:=by
 have hsum:=h.sum;refine⟨h.li,h.lc,fun j hj=> ?_,by simp;omega, ?_⟩
 ·by_cases e:j<LR.length
  ·obtain⟨a1,a2,a3⟩:=h.lr j e;rw [List.getElem_append_left e,List.take_append_of_le_length(by omega)];exact⟨a1,a2,a3⟩
  ·have ej:j=LR.length:=by simp at hj;omega
   subst ej;have e1:(LR++ [(g,tail)])[LR.length]'hj=(g,tail):=by simp
   rw [e1,List.take_append_of_le_length(Nat.le_refl _),List.take_length,List.take_of_length_le(by rw [List.length_drop];omega)];exact⟨hb,hw,hl⟩
 ·have:=h.nd;simp only [List.mem_append,not_or]at hn;simp only [List.map_append,List.map_cons,List.map_nil];rw [List.nodup_append]at this ⊢;obtain⟨a1,a2,a3⟩:=this;rw [List.nodup_append]at a2;obtain⟨b1,b2,b3⟩:=a2;refine⟨a1, ?_, ?_⟩
  ·rw [List.nodup_append];refine⟨b1, ?_, ?_⟩
   ·rw [List.nodup_append];refine⟨b2,by simp, ?_⟩;intro x hx y hy;simp at hy;subst hy
    intro e;subst e;exact hn.2.2 hx
   ·intro x hx y hy;rcases List.mem_append.1 hy with hy | hy
    ·exact b3 x hx y hy
    ·simp at hy;subst hy
     intro e;subst e;exact hn.2.1 hx
  ·intro x hx y hy;rcases List.mem_append.1 hy with hy | hy
   ·exact a3 x hx y(List.mem_append.2(Or.inl hy))
   ·rcases List.mem_append.1 hy with hy | hy
    ·exact a3 x hx y(List.mem_append.2(Or.inr hy))
    ·simp at hy;subst hy
     intro e;subst e;exact hn.1 hx
theorem E5(LI:List(Nat × List Int × Value))(LC:List(Nat × List Ins × Value))(LR:List(Nat × Nat))(g:Nat)(c:List Ins)(cv:Value):
  kK(kK(EL LI LC LR)2(EL LI LC LR 2++ [sl2 g c.length]))3(kK(EL LI LC LR)2(EL LI LC LR 2++ [sl2 g c.length])3++ [cv])=EL LI(LC++ [(g,c,cv)])LR:=by
 funext k
 match k with
 | 0=>simp [kK,EL]
 | 1=>simp [kK,EL]
 | 2=>simp [kK,EL]
 | 3=>simp [kK,EL]
 | 4=>simp [kK,EL]
 | k+5=>simp [kK,EL]
theorem F9(LI:List(Nat × List Int × Value))(LC:List(Nat × List Ins × Value))(LR:List(Nat × Nat))(g t:Nat):
  kK(EL LI LC LR)4(EL LI LC LR 4++ [sl2 g t])=EL LI LC(LR++ [(g,t)]):=by
 funext k
 match k with
 | 0=>simp [kK,EL]
 | 1=>simp [kK,EL]
 | 2=>simp [kK,EL]
 | 3=>simp [kK,EL]
 | 4=>simp [kK,EL]
 | k+5=>simp [kK,EL]
end
theorem pk {w:World} {g:Nat} {c:List Ins}(h:w.heap[g]?=some(.cells(kg c)65(0,0)))(aa:Nat):CodeAt w(.slice(some⟨g,0,none⟩)c.length aa)c:=by
 refine⟨some⟨g,0,none⟩,aa,rfl,fun k hk=>⟨g,0,rfl, ?_⟩⟩;obtain⟨g1,g2,g3,g4⟩:=rH c k hk;have hl:=lD c;have key:∀ j v,(kM c)[j]?=some v->w.cell?⟨g,j,none⟩=some v:=fun j v hj=>by
  have ab:=(List.getElem?_eq_some_iff.1 hj).1;simp only [World.cell?,h,kg,List.getElem?_toArray];have e:List.flatMap ue c=kM c:=rfl;rw [e,List.getElem?_append_left ab];exact hj
 exact⟨by rw [Nat.zero_add];exact key _ _ g1,by rw [Nat.zero_add];exact key _ _ g2,by rw [Nat.zero_add];exact key _ _ g3,by rw [Nat.zero_add];exact key _ _ g4⟩
theorem np {w:World} {who:Nat->Role} {LI:List(Nat × List Int × Value)} {LC0 LC1:List(Nat × List Ins × Value)} {LR:List(Nat × Nat)} {g:Nat} {p:List(List Ins)}(h:Le w who LI(LC0++LC1)LR 0)(hb:w.heap[g]?=some(.cells(jx LC1)66(0,0)))
  (hp:LC1.map(·.2.1)=p)(aa:Nat):ProgAt w(.agg #[.slice(some⟨g,0,none⟩)p.length aa])p:=by
 have hl:LC1.length=p.length:=by rw [<-hp];simp
 refine⟨some⟨g,0,none⟩,aa,rfl,fun t ht=>⟨g,0,rfl,slC(LC1[t]'(by omega)), ?_, ?_⟩⟩
 ·rw [Nat.zero_add];simp only [World.cell?,hb,jx,List.getElem?_toArray];rw [List.getElem?_append_left(by simp;omega),List.getElem?_map,List.getElem?_eq_getElem(by omega)];rfl
 ·have hm:LC1[t]'(by omega)∈LC0++LC1:=List.mem_append.2(Or.inr(List.getElem_mem _));obtain⟨a,_⟩:=h.lc _ hm;have e:p[t]=(LC1[t]'(by omega)).2.1:=by simp [<-hp]
  rw [e];exact pk a _
section
variable {B : Nat} {w w' : World} {b : Nat} {who who' : Nat -> Role} {n : Int} {f : Nat -> Value} {K : Nat -> List (Value × Int)} {E : Nat -> List Value} {LI : List (Nat × List Int × Value)} {LC : List (Nat × List Ins × Value)} {LR : List (Nat × Nat)} {tail : Nat}
theorem Le.keepIn(h:Le w who LI LC LR tail)(hf:Fr w w' who who'(fun _=>False))(hl:∀ g∈LI.map(·.1)++(LC.map(·.1)++LR.map(·.1)),w'.heap[g]?=w.heap[g]?/\who' g= .lent):Le w' who' LI LC LR tail:=by
 have ho:∀ g,g<w.heap.size->who g= .other->w'.heap[g]?=w.heap[g]?:=fun g h1 h2=>(hf.oth g h1 h2(fun e=>e)).1
 refine⟨fun x hx=> ?_,fun x hx=> ?_,fun j hj=> ?_,h.sum,h.nd⟩
 ·obtain⟨a,b,c,d,e⟩:=h.li x hx;have hm:=hl x.1(List.mem_append.2(Or.inl(List.mem_map.2⟨x,hx,rfl⟩)));obtain⟨k1,k2⟩:=mI c d hf;exact⟨by rw [hm.1];exact a,hm.2,k1,k2,e⟩
 ·obtain⟨a,b,c,d,e⟩:=h.lc x hx;have hm:=hl x.1(List.mem_append.2(Or.inr(List.mem_append.2(Or.inl(List.mem_map.2⟨x,hx,rfl⟩)))));refine⟨by rw [hm.1];exact a,hm.2,qE c d ho, ?_,e⟩;obtain⟨ao,cap,ev,h2⟩:=c;intro g o l cc e2 hz;have aa:=d g o l cc e2 hz;rw [ev]at e2;simp only [Value.slice.injEq]at e2;obtain⟨g',o',e3,e4,_⟩:=h2 0(by omega);rw [e3]at e2;simp only [Option.some.injEq,Addr.mk.injEq,and_true]at e2;obtain⟨⟨rfl,_⟩,_⟩:=e2;exact(hf.oth _(World.block_lt_of_cell? w _ e4)aa(fun e=>e)).2
 ·obtain⟨a,b,c⟩:=h.lr j hj;have hm:=hl LR[j].1(List.mem_append.2(Or.inr(List.mem_append.2(Or.inr(List.mem_map.2⟨LR[j],List.getElem_mem hj,rfl⟩)))));exact⟨by rw [hm.1];exact a,hm.2,c⟩
theorem Lx.setOut(h:Lx B w b who n f K E LI LC LR tail) {g o:Nat} {v:Value}(hg:who g= .lent)(hn:g∉LI.map(·.1)++(LC.map(·.1)++LR.map(·.1))):Lx B(w.setCell⟨g,o,none⟩v)b who n f K E LI LC LR tail:=by
 have aa:∀ g',g'≠g->(w.setCell⟨g,o,none⟩v).heap[g']?=w.heap[g']?:=fun g' e=>Below.heap_setCell _ _ _ _(by simpa using e)
 refine⟨⟨h.hs.1.same(by simp)(fun g' _ _ h3=>aa g'(fun e=>by subst e;rw [hg]at h3;cases h3)),h.hs.2⟩,h.lr.same(fun g' k e=>aa g'(fun e2=>by subst e2;rw [hg]at e;cases e)),h.le.keepIn(Fr.set(Or.inl(by rw [hg];simp)))(fun g' e=>⟨aa g'(fun e2=>hn(by rw [<-e2];exact e)),(h.le.lt g' e).2⟩)⟩
theorem Lx.addCode {LC1:List(Nat × List Ins × Value)}(h:Lx B w b who n f K E LI LC LR tail) {g:Nat} {c:List Ins} {cv:Value}(hb:w.heap[g]?=some(.cells(kg c)65(0,0)))(hw:who g= .lent)(hC:CodeAt w cv c)(hv:valOther who cv)(hl:c.length<=4398046510976)
  (hn:g∉LI.map(·.1)++(LC.map(·.1)++LR.map(·.1)))(hE:E=EL LI LC1 LR)(h1:LC1=LC++ [(g,c,cv)]):Lx B w b who n f K(EL LI LC1 LR)LI LC1 LR(tail+1):=by
 subst h1;subst hE;exact⟨h.hs,h.lr,h.le.addCode hb hw hC hv hl hn⟩
end
section
variable {B : Nat} {w w' : World} {b : Nat} {who who' : Nat -> Role} {n : Int} {f : Nat -> Value} {K : Nat -> List (Value × Int)} {E : Nat -> List Value} {LI : List (Nat × List Int × Value)} {LC : List (Nat × List Ins × Value)} {LR : List (Nat × Nat)} {tail : Nat}
theorem Lx.new2(h:Lx B w b who n f K E LI LC LR tail)(hg:w.grownBy w' none) {g1 g2:Nat}(h1:w.heap.size<=g1)(h2:g1<w'.heap.size)(h3:w.heap.size<=g2)(h4:g2<w'.heap.size):
  Lx B w' b(setW(setW who g1 .lent)g2 .lent)n f K E LI LC LR tail/\Fr w w' who(setW(setW who g1 .lent)g2 .lent)(fun _=>False):=by
 have aa:∀ g',who g'≠ .other->setW(setW who g1 .lent)g2 .lent g'=who g':=fun g' e=>by
  have:=(h.hs.1.dom g' e).2;rw [iK _ _(by omega),iK _ _(by omega)]
 have h':=h.grown hg;have hb:=h.low;have ab:Fr w w' who(setW(setW who g1 .lent)g2 .lent)(fun _=>False):=Fr.setW(Fr.setW(Fr.grown hg)(Or.inl h1))(Or.inl h3);refine⟨⟨⟨h'.hs.1.more aa(fun g' e=> ?_),fun c hc x hx g' e=> ?_⟩,h'.lr.more aa, ?_⟩,ab⟩
 ·by_cases e2:g'=g2
  ·subst e2;exact⟨by omega,h4⟩
  ·rw [iK _ _ e2]at e;by_cases e3:g'=g1
   ·subst e3;exact⟨by omega,h2⟩
   ·rw [iK _ _ e3]at e;exact h'.hs.1.dom g' e
 ·have:=h.hs.2 c hc x hx g' e;rw [aa g'(by rw [this];simp),this]
 ·exact h.le.keep ab(fun g' e=>⟨hg.block g'(h.hs.1.dom g'(by rw [e];simp)).2(by simp),by rw [aa g'(by rw [e];simp)];exact e⟩)
end
end
section
open Go.RowKit
attribute [local go_sem] Go.World.cell?_alloc_some
theorem Ba(n:Nat):(madeCells #[Value.int .i64 0, .int .i64 0, .int .i64 0, .int .i64 0]n).toList=List.replicate n(.int .i64 0):=by
 apply List.ext_getElem(by simp [madeCells]);intro i h1 h2;simp only [madeCells,Array.toList_map,List.getElem_map,List.getElem_replicate];have:i<n:=by simpa using h2
 simp only [Array.toList_range,List.getElem_range];rcases(by omega:i % 4=0\/i % 4=1\/i % 4=2\/i % 4=3)with h | h | h | h<;>simp [h]
theorem DR(c:List Ins):((kM c++(List.replicate((c.length+2)*4)(Value.int .i64 0)).drop(c.length*4)).set(c.length*4)(.int .i64(-77000000))).set((c.length+1)*4)(.int .i64(-77000000))=kM c++(nP++nP):=by
 have e:(List.replicate((c.length+2)*4)(Value.int .i64 0)).drop(c.length*4)=List.replicate 8(Value.int .i64 0):=by
  rw [List.drop_replicate];congr 1;omega
 have hl:=lD c;rw [e,<-hl,List.set_append,if_neg(by omega),Nat.sub_self,List.set_append,if_neg(by omega)];have e2:(c.length+1)*4 - (kM c).length=4:=by omega
 rw [e2];rfl
theorem Be:((Tryz.prog.info? 65).map fun i=>(i.zero,i.size,i.bytes))=some(some(.agg #[.int .i64 0, .int .i64 0, .int .i64 0, .int .i64 0]),4,32):=by kernel_rfl
theorem yQ:((Tryz.prog.info? 66).map fun i=>(i.zero,i.size,i.bytes))=some(some(.slice none 0 0),1,24):=by kernel_rfl
theorem yM:((Tryz.prog.info? 35).map fun i=>(i.zero,i.size,i.bytes))=some(some(.slice none 0 0),1,24):=by kernel_rfl
structure PgIn(B:Nat)(W w2 w':World)(b:Nat)(who2 who':Nat->Role)(n:Int)(f':Nat->Value)(K:Nat->List(Value × Int))(LI:List(Nat × List Int × Value))(LC LC1:List(Nat × List Ins × Value))(LR:List(Nat × Nat))(gr rb:Nat)(p:List(List Ins))(i:Nat):Prop where
 lx:Lx B w' b who' n f' K(EL LI(LC++LC1)LR)LI(LC++LC1)LR i
 map:LC1.map(·.2.1)=p.take i
 row:w'.heap[gr]?=some(.cells(LC1.map slC++List.replicate(p.length+2 - i)(Value.slice none 0 0)).toArray 66(0,0))
 wg:who' gr= .lent
 ng:gr∉LI.map(·.1)++((LC++LC1).map(·.1)++LR.map(·.1))
 fr:Fr w2 w' who2 who'(fun _=>False)
 base:W.grownBy w' none
 res:w'.heap[rb]?=some(.cells #[.slice none 0 0]37(0,0))
 wr:who' rb= .lent
 nr:rb∉LI.map(·.1)++((LC++LC1).map(·.1)++LR.map(·.1))
 rg:rb≠gr
theorem PgIn.len {B:Nat} {W w2 w':World} {b:Nat} {ab aa:Nat->Role} {n:Int} {f':Nat->Value} {K:Nat->List(Value × Int)} {LI:List(Nat × List Int × Value)} {LC LC1:List(Nat × List Ins × Value)} {LR:List(Nat × Nat)} {gr rb:Nat} {p:List(List Ins)} {i:Nat}
  (h:PgIn B W w2 w' b ab aa n f' K LI LC LC1 LR gr rb p i)(hi:i<=p.length):LC1.length=i:=by
 have:=congrArg List.length h.map;simpa [Nat.min_eq_left hi]using this
theorem Cr(L:List Value)(v:Value)(P i:Nat)(hl:L.length=i)(hi:i<P):(L++List.replicate(P+2 - i)(Value.slice none 0 0)).set i v=(L++ [v])++List.replicate(P+2 - (i+1))(Value.slice none 0 0):=by
 obtain⟨k,hk⟩:∃ k,P+2 - i=k+1:=⟨P+2 - (i+1),by omega⟩;have aa:P+2 - (i+1)=k:=by omega
 rw [hk,aa,List.set_append,if_neg(by omega),hl,Nat.sub_self,List.replicate_succ,List.set_cons_zero,List.append_assoc];rfl
theorem ns(W:World)(B:Nat)(w:World)(b:Nat)(who:Nat->Role)(n:Int)(f:Nat->Value)(K:Nat->List(Value × Int))(LI:List(Nat × List Int × Value))(LC:List(Nat × List Ins × Value))(LR:List(Nat × Nat))(pv:Value)(p:List(List Ins))
  (h:Lx B w b who n f K(EL LI LC LR)LI LC LR 0)(hW:W.grownBy w none)(ce:W.heap.size<=B)(hP:ProgAt W pv p)(hp:p.length<=5864062014634)(b7:∀ c∈p,c.length<=4398046510976)(hLC:LC.length+p.length<=5864062014634)(cK:LR.length<=1000):
  Calls Tryz.prog 19 #[pt b,pv]w fun e w'=>∃ g LC1 who' f',e= .returned(.agg #[.slice(some⟨g,0,none⟩)p.length(p.length+2)])/\Lx B w' b who' n f' K(EL LI(LC++LC1)(LR++ [(g,p.length)]))LI(LC++LC1)(LR++ [(g,p.length)])0/\LC1.map(·.2.1)=p/\Fr w w' who who'(fun _=>False)/\w'.heap[g]?=some(.cells(jx LC1)66(0,0)):=by
 obtain⟨i0,cr,cQ,cj,cJ⟩:=info_parts Be;obtain⟨i1,bI,hy0,hy1,hy2⟩:=info_parts yQ;obtain⟨i2,cC,cZ,cS,cD⟩:=info_parts yM;have HH:=hZ h;have HW:=hZ hW;have cX:=hZ hP;have c8:=hZ b7;have hb:=h.low;obtain⟨ao,au,rfl⟩:=hP.form;have cv:pt b= .pointer(some⟨b,0,none⟩):=rfl;rw [cv];clear h hP cv b7 hW;have q0:(p.length:Int)<=5864062014634:=by omega
 have q1:(0:Int)<=(p.length:Int):=by omega
 have bM:(Tryz.prog.info? 65).map(·.size)=some 4:=by rw [cr];simp [cj]
 go_enter Tryz.func19,Tryz.ntmps19
 go_upto_region 2 with fail
 have bS:w.grownBy((w.alloc(.cells #[.slice ao p.length au]37)).alloc(.cells #[.slice none 0 0]37))none:=ij(ij(il _ _));have bW:((w.alloc(.cells #[.slice ao p.length au]37)).alloc(.cells #[.slice none 0 0]37)).heap[w.heap.size]?=some(.cells #[.slice ao p.length au]37(0,0)):=by
  rw [Below.heap_alloc _ _ _(by simp)];exact heap_alloc_new _ _
 have bG:((w.alloc(.cells #[.slice ao p.length au]37)).alloc(.cells #[.slice none 0 0]37)).heap[w.heap.size+1]?=some(.cells #[.slice none 0 0]37(0,0)):=by
  have:=heap_alloc_new(w.alloc(.cells #[.slice ao p.length au]37))(.cells #[.slice none 0 0]37);simpa using this
 have hz:((w.alloc(.cells #[.slice ao p.length au]37)).alloc(.cells #[.slice none 0 0]37)).heap.size=w.heap.size+2:=by simp
 generalize(w.alloc(.cells #[.slice ao p.length au]37)).alloc(.cells #[.slice none 0 0]37)=w1 at bS bW bG hz ⊢;go_upto_region 3 with(at_make;refine wpList_make_full _ rfl _ _ _ rfl w1.heap.size 66 i1 _ 1 Tryz.underlying35 bI hy0 hy1 .i64 .i64 _ _(p.length+2)rfl rfl(by simp)(by simp)(by rw [hy2];omega)(by unfold maxLen;omega)(by simp) ?_;intro w2 aK bw)
 have av:w2.heap[w1.heap.size]?=some(.cells(List.replicate(p.length+2)(Value.slice none 0 0)).toArray 66(0,0)):=by
  rcases aK.2 with⟨e,_⟩ | ⟨g',aX,cur,hv,_,hh,_,_,bB,htk⟩
  ·cases e
  ·simp only [Value.slice.injEq,Option.some.injEq,Addr.mk.injEq,true_and,and_true]at hv;obtain⟨rfl,rfl⟩:=hv;rw [hh];have e1:cur.toList=List.replicate(p.length+2)(Value.slice none 0 0):=by
    rw [<-toList_madeCells_one];simp only [Value.cells,Nat.mul_one]at htk bB;rw [<-htk,List.take_of_length_le(by simp;omega)]
   rw [<-e1]
 have ci:w1.heap.size<w2.heap.size:=(Array.getElem?_eq_some_iff.1 av).1;have bY:=ic bS bw;have b5:w2.heap[w.heap.size]?=some(.cells #[.slice ao p.length au]37(0,0)):=by rw [bw.block _(by omega)(by simp)];exact bW
 have cg:w2.heap[w.heap.size+1]?=some(.cells #[.slice none 0 0]37(0,0)):=by rw [bw.block _(by omega)(by simp)];exact bG
 obtain⟨a7,b6⟩:=HH.out.new2 bY(g1:=w1.heap.size)(g2:=w.heap.size+1)(by omega)ci(by omega)(by omega);have H0:Hid(PgIn B W w2 w2 b(setW(setW who w1.heap.size .lent)(w.heap.size+1) .lent)(setW(setW who w1.heap.size .lent)(w.heap.size+1) .lent)n f K LI LC []LR w1.heap.size(w.heap.size+1)p 0):=by
  refine⟨by simpa using a7,by simp,by simpa using av,by rw [iK _ _(by omega)];exact jz _ _ _,fun e=> ?_,Fr.refl _ _ _,ic HW.out bY,cg,jz _ _ _,fun e=> ?_,by omega⟩
  ·have:=(HH.out.le.lt _(by simpa using e)).1;omega
  ·have:=(HH.out.le.lt _(by simpa using e)).1;omega
 have ct:setW(setW who w1.heap.size .lent)(w.heap.size+1) .lent w.heap.size= .other:=by
  rw [iK _ _(by omega),iK _ _(by omega)];by_cases e:who w.heap.size= .other
  ·exact e
  ·exact absurd(HH.out.hs.1.dom w.heap.size e).2(by omega)
 have bH:=hZ b6;have bt:=hZ ct;have b9:=hZ b5;have bP:w.heap.size<w2.heap.size/\w.heap.size+1<w2.heap.size:=by omega
 clear bS bW bG aK bw av bY b5 cg a7 b6 ct;rw [hz]at H0 bH bt;obtain⟨gr,bv⟩:∃ gr,gr=w.heap.size+2:=⟨_,rfl⟩;rw [<-bv]at H0 bH bt;generalize setW(setW who gr .lent)(w.heap.size+1) .lent=who2 at*;clear hz ci;go_upto_region 4 with fail
 rw [<-bv];have HGR:=hZ bv;clear bv;go_loopw [7](fun v w'=>∃ (i:Nat)(LC1:List(Nat × List Ins × Value))(who':Nat->Role)(f':Nat->Value),i<=p.length/\v= .int .i64 i/\Hid(PgIn B W w2 w' b who2 who' n f' K LI LC LC1 LR gr(w.heap.size+1)p i))(fun v _=>p.length - (intOf v).toNat)
 case atStart=>exact⟨0, [],who2,f,Nat.zero_le _,rfl,H0⟩
 case round=>
  clear H0;obtain⟨i,LC1,aq,f5,hi,rfl,HI⟩:=hrel;obtain⟨w5,b4⟩:∃ w5,w5=wr:=⟨_,rfl⟩;rw [<-b4]at HI ⊢;clear b4;have cA:=HI.out.len hi;by_cases aQ:i<p.length
  ·obtain⟨cP,aX,e1,aL⟩:=cX.out;obtain⟨pg,po,e2,rv,r1,r2⟩:=aL i aQ;simp only [Value.agg.injEq,Array.mk.injEq,List.cons.injEq,Value.slice.injEq,and_true,true_and]at e1;obtain⟨e1,cB⟩:=e1;subst e1 cB e2;have c5:p[i].length<=4398046510976:=c8.out _(List.getElem_mem aQ);obtain⟨ca,cc,rfl⟩:∃ ca cc,rv= .slice ca p[i].length cc:=⟨_,_,r2.choose_spec.choose_spec.1⟩;have d0:w5.cell?⟨pg,po+i,none⟩=some(.slice ca p[i].length cc):=ie HI.out.base _ _ r1;have cu:=(HI.out.fr.oth w.heap.size bP.1 bt.out(fun e=>e)).1;have c0:w5.cell?⟨w.heap.size,0,none⟩=some(.slice(some⟨pg,po,none⟩)p.length au):=by
    rw [World.cell?_of_block cu];have:=b9.out;simp [World.cell?,this]
   have cd:=hZ r1;have bQ:=hZ r2;have cG:Hid(p.take(i+1)=p.take i++ [p[i]]):=List.take_succ_eq_append_getElem aQ;clear r1 r2 aL cu;generalize p[i]=c at*;have t0:(0:Int)<=(i:Int):=by omega
   have t1:(i:Int)<p.length:=by omega
   have t2:(c.length:Int)<=4398046510976:=by omega
   have t3:(0:Int)<=(c.length:Int):=by omega
   go_upto_region 8 with(at_make;refine wpList_make_full _ rfl _ _ _ rfl w5.heap.size 65 i0 _ 4 Tryz.underlying66 cr cQ cj .i64 .i64 _ _(c.length+2)rfl rfl(by simp)(by simp)(by rw [cJ];omega)(by unfold maxLen;omega)(by simp) ?_;intro w6 aM bk)
   have bl:∃ cur,w6.heap[w5.heap.size]?=some(.cells cur 65(0,0))/\cur.toList=List.replicate((c.length+2)*4)(.int .i64 0):=by
    rcases aM.2 with⟨e,_⟩ | ⟨g',aX,cur,hv,_,hh,_,_,bB,htk⟩
    ·cases e
    ·simp only [Value.slice.injEq,Option.some.injEq,Addr.mk.injEq,true_and,and_true]at hv;obtain⟨rfl,rfl⟩:=hv;refine⟨cur,hh, ?_⟩;rw [<-Ba];simp only [Value.cells]at htk;rw [<-htk,List.take_of_length_le(by simp;omega)]
   obtain⟨cur,bb,a0⟩:=bl;have bB:cur.size=(c.length+2)*4:=by have:=congrArg List.length a0;simpa using this
   have b3:=ic HI.out.base bk;have d6:w6.cell?⟨pg,po+i,none⟩=some(.slice ca c.length cc):=ie bk _ _ d0;have c6:w6.cell?⟨w.heap.size,0,none⟩=some(.slice(some⟨pg,po,none⟩)p.length au):=ie bk _ _ c0;obtain⟨w7,bK,af,a5⟩:=ui w6 66 3 65 Tryz.underlying66 bM w5.heap.size(c.length+2)(c.length+2)(.slice ca c.length cc)c(bQ.out.pres(ie b3))cur 65 bb(by omega)(by omega);rw [a0]at af;have a4:=hZ bk;clear aM bk d0 c0 bb a0;go_upto_region 9 with fail
   clear bK d6 c6;obtain⟨R,hR⟩:∃ R:Array Value,R=(kM c++(List.replicate((c.length+2)*4)(Value.int .i64 0)).drop(c.length*4)).toArray:=⟨_,rfl⟩;rw [<-hR]at af;have cT:R.size=(c.length+2)*4:=by rw [hR];simp [lD];omega
   have co:Hid((R.setIfInBounds(c.length*4)(.int .i64(-77000000))).setIfInBounds((c.length+1)*4)(.int .i64(-77000000))=kg c):=by
    unfold Hid;rw [hR];simp only [List.setIfInBounds_toArray,kg];rw [DR];rfl
   have am:=heap_setCell_same w7 w5.heap.size(c.length*4)R 65(.int .i64(-77000000))af;have ai:=heap_setCell_same _ w5.heap.size((c.length+1)*4)_ 65(.int .i64(-77000000))am;rw [co.out]at ai;have d7:∃ u,w7.cell?⟨w5.heap.size,c.length*4,none⟩=some u:=⟨R[c.length*4]'(by omega),by simp only [World.cell?,af];exact Array.getElem?_eq_getElem _⟩;have d8:∃ u,(w7.setCell⟨w5.heap.size,c.length*4,none⟩(.int .i64(-77000000))).cell?⟨w5.heap.size,(c.length+1)*4,none⟩=some u:=⟨(R.setIfInBounds(c.length*4)(.int .i64(-77000000)))[(c.length+1)*4]'(by simp;omega),by simp only [World.cell?,am];exact Array.getElem?_eq_getElem _⟩;obtain⟨u7,d7⟩:=d7;obtain⟨u8,d8⟩:=d8;have z7:w7.frozen?⟨w5.heap.size,c.length*4,none⟩=false:=by simp [World.frozen?,af]
   have z8:(w7.setCell⟨w5.heap.size,c.length*4,none⟩(.int .i64(-77000000))).frozen?⟨w5.heap.size,(c.length+1)*4,none⟩=false:=by simp [World.frozen?,am]
   have cm:w5.grownBy w7 none:=⟨a5.os.trans a4.out.os,a5.tape.trans a4.out.tape,a5.output.trans a4.out.output,Nat.le_trans a4.out.size a5.size,fun k hk _=>by
    rw [a5.block k(Nat.lt_of_lt_of_le hk a4.out.size)(by simp;omega)];exact a4.out.block k hk(by simp)⟩
   obtain⟨w9,bz⟩:∃ w9,w9=(w7.setCell⟨w5.heap.size,c.length*4,none⟩(.int .i64(-77000000))).setCell⟨w5.heap.size,(c.length+1)*4,none⟩(.int .i64(-77000000)):=⟨_,rfl⟩;have bA:w5.grownBy w9 none:=by rw [bz];exact iC(iC cm(Nat.le_refl _))(Nat.le_refl _)
   rw [<-bz]at ai;have c9:w5.heap.size<w9.heap.size:=(Array.getElem?_eq_some_iff.1 ai).1;have cl:=hZ bz;clear bz af am a5 hR cT cm co bB b3;go_upto_region 11 with fail
   rw [<-cl.out];clear cl d7 d8 z7 z8 u7 u8;obtain⟨cp,b2⟩:=HI.out.lx.new bA(g:=w5.heap.size)(Nat.le_refl _)c9;have a6:=hZ cp;have cn:=hZ(HI.out.fr.trans b2);have cw:=hZ ai;have cf:Hid(setW aq w5.heap.size .lent w5.heap.size= .lent):=jz _ _ _;have bd:gr<w5.heap.size:=(Array.getElem?_eq_some_iff.1 HI.out.row).1;have bc:Hid(w9.heap[gr]?=some(.cells(LC1.map slC++List.replicate(p.length+2 - i)(Value.slice none 0 0)).toArray 66(0,0))/\setW aq w5.heap.size .lent gr= .lent):=by
    refine⟨by rw [bA.block _ bd(by simp)];exact HI.out.row, ?_⟩;rw [iK _ _(by omega)];exact HI.out.wg
   have cL:Hid(w5.heap.size∉LI.map(·.1)++((LC++LC1).map(·.1)++LR.map(·.1))):=fun e=>by have:=(HI.out.lx.le.lt _ e).1;omega
   have bD:=hZ(ic HI.out.base bA);have cE:=hZ HI.out.map;have cV:=hZ HI.out.ng;have cR:=hZ HI.out.nr;have cq:=hZ HI.out.rg;have bn:w.heap.size+1<w5.heap.size:=(Array.getElem?_eq_some_iff.1 HI.out.res).1;have bm:Hid(w9.heap[w.heap.size+1]?=some(.cells #[.slice none 0 0]37(0,0))/\setW aq w5.heap.size .lent(w.heap.size+1)= .lent):=by
    refine⟨by rw [bA.block _ bn(by simp)];exact HI.out.res, ?_⟩;rw [iK _ _(by omega)];exact HI.out.wr
   have bT:=hZ(E5 LI(LC++LC1)LR w5.heap.size c(.slice ca c.length cc));have hE2:(EL LI(LC++LC1)LR 2).length<=5864062014634:=by simp only [EL,List.length_map,List.length_append];omega
   have cx:(EL LI(LC++LC1)LR 3).length<=5864062014634:=by simp only [EL,List.length_map,List.length_append];omega
   clear cp b2 ai HI;generalize setW aq w5.heap.size .lent=who9 at*;generalize EL LI(LC++LC1)LR=E at*;generalize cO:w5.heap.size=gx at*;clear cO;have rO:w9.ownsRow B 66 1(f5 2)(E 2).length(E 2):=a6.out.lr.r 2(by omega);have c2:w9.cell?⟨b,2,none⟩=some(f5 2):=a6.out.cell(by omega);obtain⟨o1,o2,o3,eO⟩:=iq rO;rw [eO]at rO c2;have bJ:=iy rO;subst bJ;have aO:Hid(∀ {o:Obj} {g6 c6:Nat} {w6:World},w6.ownsRow B 66 1(.slice(some⟨g6,0,none⟩)((E 2).length+1)c6)((E 2).length+1)(E 2++ [sl2 gx c.length])->
     (((Value.slice o1(E 2).length o3).ownBlock=some g6/\(w9.alloc o).grownBy w6(some g6))\/(g6=w9.heap.size+1/\(w9.alloc o).grownBy w6 none))->
     HB w6 b f5/\∃ who' f',Lx B(w6.setCell⟨b,2,none⟩(.slice(some⟨g6,0,none⟩)((E 2).length+1)c6))b who' n f' K(kK E 2(E 2++ [sl2 gx c.length]))LI(LC++LC1)LR i/\
     Fr w9(w6.setCell⟨b,2,none⟩(.slice(some⟨g6,0,none⟩)((E 2).length+1)c6))who9 who'(fun _=>False)/\(∀ j,j≠2->f' j=f5 j)/\(∀ g,who9 g= .lent->(w6.setCell⟨b,2,none⟩(.slice(some⟨g6,0,none⟩)((E 2).length+1)c6)).heap[g]?=w9.heap[g]?/\who' g= .lent)):=by
    intro o g6 c6 w6 ax key;rw [<-eO]at key;exact a6.out.push(by omega)ax key
   have bq:B<=w9.heap.size:=by have:=a6.out.low;omega
   have bh:=hZ rO;have be:=hZ eO;have aT:(E 2).length+1<=maxLen:=by unfold maxLen;omega
   have bf:(E 3).length+1<=maxLen:=by unfold maxLen;omega
   clear rO eO;have b8:Hid(kK E 2(E 2++ [sl2 gx c.length])3=E 3):=vh _ _(by omega);generalize bN:(E 2).length=N0 at*;generalize ch:E 2=L0 at*;clear bN ch;go_upto_region 12 with(at_builtin;go_must(refine iD rfl _ _ _ rfl B 66 i1 _ 1 24 Tryz.underlying35 bI hy0 hy1 hy2 rfl(by omega)(.slice o1 N0 o3)N0 L0 rfl(iG bh.out)⟨w9.heap.size,0,none⟩1 1 [sl2 gx c.length]rfl rfl(World.news_of_block(cs:= #[.slice(some⟨gx,0,none⟩)(c.length+2)(c.length+2)])(t:=66)(fr:=(0,0))(heap_alloc_new w9 _))(by simp [sl2,Value.oneCell'])(by omega)aT(by omega)(by simp;omega)(w9.heap.size+1)(by simp) ?_);intro bZ aD bj ac ae aB;have al:=(aO.out ac ae).1;have p6:bj.cell?⟨b,2,none⟩=some(.slice o1 N0 o3):=(by rw [al.cell(by omega),be.out]);have p7:=al.frozen 2)
   obtain⟨_,ab,aG,ad,ap,aW,aj⟩:=aO.out ac ae;generalize bj.setCell⟨b,2,none⟩(.slice(some⟨bZ,0,none⟩)(N0+1)aD)=w11 at*;rw [<-b8.out]at cx bf;generalize kK E 2(L0++ [sl2 gx c.length])=E11 at*;have rM:w11.ownsRow B 66 1(aG 3)(E11 3).length(E11 3):=ad.lr.r 3(by omega);have c3:w11.cell?⟨b,3,none⟩=some(aG 3):=ad.cell(by omega);obtain⟨m1,m2,m3,eM⟩:=iq rM;rw [eM]at rM c3;have cz:=iy rM;subst cz;have bL:Hid(∀ {o:Obj} {g6 c6:Nat} {w6:World},w6.ownsRow B 66 1(.slice(some⟨g6,0,none⟩)((E11 3).length+1)c6)((E11 3).length+1)(E11 3++ [.slice ca c.length cc])->
     (((Value.slice m1(E11 3).length m3).ownBlock=some g6/\(w11.drew.alloc o).grownBy w6(some g6))\/(g6=w11.drew.heap.size+1/\(w11.drew.alloc o).grownBy w6 none))->
     HB w6 b aG/\∃ who' f',Lx B(w6.setCell⟨b,3,none⟩(.slice(some⟨g6,0,none⟩)((E11 3).length+1)c6))b who' n f' K(kK E11 3(E11 3++ [.slice ca c.length cc]))LI(LC++LC1)LR i/\
     Fr w11.drew(w6.setCell⟨b,3,none⟩(.slice(some⟨g6,0,none⟩)((E11 3).length+1)c6))ab who'(fun _=>False)/\(∀ j,j≠3->f' j=aG j)/\(∀ g,ab g= .lent->(w6.setCell⟨b,3,none⟩(.slice(some⟨g6,0,none⟩)((E11 3).length+1)c6)).heap[g]?=w11.drew.heap[g]?/\who' g= .lent)):=by
    intro o g6 c6 w6 ax key;rw [<-eM]at key;exact(ad.grown(ir(il _ _))).push(by omega)ax key
   have hbase11:B<=w11.heap.size:=by have:=ad.low;omega
   have a3:=cn.out.trans ap;have a2:W.grownBy w11 none:=ap.base bD.out ce(fun g e=>(a6.out.hs.1.dom g e).1)(fun g e=>e.elim);have e0:w11.cell?⟨w.heap.size,0,none⟩=some(.slice(some⟨pg,po,none⟩)p.length au):=by
    rw [World.cell?_of_block(a3.oth w.heap.size bP.1 bt.out(fun e=>e)).1];have:=b9.out;simp [World.cell?,this]
   have e1:w11.cell?⟨pg,po+i,none⟩=some(.slice ca c.length cc):=ie a2 _ _ cd.out;have cM:=hZ rM;have cW:=hZ eM;have aS:=hZ ad;have bp:=hZ a3;have bX:=hZ a2;have aP:=hZ(aj gx cf.out);have ay:=hZ(aj gr bc.out.2);have aI:=hZ(aj(w.heap.size+1)bm.out.2);have c7:Hid(∀ g o l bx,Value.slice ca c.length cc= .slice(some⟨g,o,none⟩)l bx->0<l->g<W.heap.size):=by
    intro g o l bx e2 hz;obtain⟨cP,aX,e4,h5⟩:=bQ.out;simp only [Value.slice.injEq]at e2 e4;obtain⟨g',o',e5,e6,_⟩:=h5 0(by omega);rw [<-e4.1,e2.1]at e5;simp only [Option.some.injEq,Addr.mk.injEq,and_true]at e5;have:=World.block_lt_of_cell? W _ e6;simp only at this;omega
   clear rM eM ac ae al p6 p7 aB c2 ad ap aW aj aO bh be a6 cn b8 a3 a2 cf;generalize cI:(E11 3).length=N1 at*;generalize hL1':E11 3=L1 at*;clear cI;refine iu(fun u=>u.cell?⟨b,3,none⟩=some(.slice m1 N1 m3)/\u.cell?⟨w.heap.size,0,none⟩=some(.slice(some⟨pg,po,none⟩)p.length au)/\u.cell?⟨pg,po+i,none⟩=some(.slice ca c.length cc))14(by kernel_rfl)(by kernel_rfl)⟨by simp [go_sem,c3],by simp [go_sem,e0],by simp [go_sem,e1]⟩ ?_;intro aa;have aZ:=aa.1;have aU:=aa.2.1;have aY:=aa.2.2;refine hY(i:=0)(v:= ?vv0)rfl(by kernel_rfl)(fun _ _ _ h=>h)(Or.inl⟨by rfl, ?hy0⟩)aa ?rest0
   case hy0=>(rintro u⟨aw,aA,aC⟩;go_simp;try with_reducible rfl)
   simp only [Act.put,List.setIfInBounds_toArray];refine hY(i:=1)(v:= ?vv1)rfl(by kernel_rfl)(fun _ _ _ h=>h)(Or.inl⟨by rfl, ?hy1⟩)aa ?rest1
   case hy1=>(rintro u⟨aw,aA,aC⟩;go_simp;try with_reducible rfl)
   simp only [Act.put];refine hY(i:=2)(v:= ?vv2)rfl(by kernel_rfl)(fun _ _ _ h=>h)(Or.inl⟨by rfl, ?hy2⟩)aa ?rest2
   case hy2=>(rintro u⟨aw,aA,aC⟩;go_simp;try with_reducible rfl)
   simp only [Act.put];refine hY(i:=3)(v:= ?vv3)rfl(by kernel_rfl)(fun _ _ _ h=>h)(Or.inl⟨by rfl, ?hy3⟩)aa ?rest3
   case hy3=>(rintro u⟨aw,aA,aC⟩;go_simp;try with_reducible rfl)
   simp only [Act.put];refine hY(i:=4)(v:= ?vv4)rfl(by kernel_rfl)(fun _ _ _ h=>h)(Or.inl⟨by rfl, ?hy4⟩)aa ?rest4
   case hy4=>(rintro u⟨aw,aA,aC⟩;go_simp;try with_reducible rfl)
   simp only [Act.put];refine hY(i:=5)(v:= ?vv5)rfl(by kernel_rfl)(fun _ _ _ h=>h)(Or.inl⟨by rfl, ?hy5⟩)aa ?rest5
   case hy5=>(rintro u⟨aw,aA,aC⟩;go_simp;try with_reducible rfl)
   simp only [Act.put];refine hY(i:=6)(v:= ?vv6)rfl(by kernel_rfl)(fun _ _ _ h=>h)(Or.inl⟨by rfl, ?hy6⟩)aa ?rest6
   case hy6=>(rintro u⟨aw,aA,aC⟩;go_simp;try with_reducible rfl)
   simp only [Act.put];refine hY(i:=7)(v:= ?vv7)rfl(by kernel_rfl)(fun _ _ _ h=>h)(Or.inl⟨by rfl, ?hy7⟩)aa ?rest7
   case hy7=>(rintro u⟨aw,aA,aC⟩;go_simp;try with_reducible rfl)
   simp only [Act.put];refine hY(i:=8)(v:= ?vv8)rfl(by kernel_rfl)(fun _ _ _ h=>h)(Or.inl⟨by rfl, ?hy8⟩)aa ?rest8
   case hy8=>(rintro u⟨aw,aA,aC⟩;go_simp;try with_reducible rfl)
   simp only [Act.put];refine hY(i:=9)(v:= ?vv9)rfl(by kernel_rfl)(fun _ _ _ h=>h)(Or.inl⟨by rfl, ?hy9⟩)aa ?rest9
   case hy9=>(rintro u⟨aw,aA,aC⟩;go_simp;try with_reducible rfl)
   simp only [Act.put];refine ip(i:=10)rfl(by kernel_rfl)(by kernel_rfl)(by rfl) ?_;intro K10 a9;have bg:=hZ a9;clear a9;go_simp;refine bg.out _ _⟨ie(ij(il _ _))_ _ aa.1,ie(ij(il _ _))_ _ aa.2.1,ie(ij(il _ _))_ _ aa.2.2⟩ ?_;clear bg;try simp only [Act.put,List.setIfInBounds_toArray]
   refine ip(i:=11)rfl(by kernel_rfl)(by kernel_rfl)(by rfl) ?_;intro K11 bo;have br:=hZ bo;clear bo;refine sx(.tmp 60)(.tmp 66)35(by rfl)B 66 i1 _ 1 24 Tryz.underlying35 bI hy0 hy1 hy2 rfl(by omega)(.slice m1 N1 m3)N1 L1(by rfl)(iG(w:=w11.drew)(show w11.drew.ownsRow _ _ _ _ _ _ from cM.out))⟨w11.heap.size,0,none⟩1 1 [.slice ca c.length cc](by rfl)(by rfl)(World.news_of_block(cs:= #[.slice ca c.length cc])(t:=66)(fr:=(0,0))(heap_alloc_new w11.drew _))(by simp [Value.oneCell'])(by omega)bf(by omega)(by simp;omega)(w11.heap.size+1)(by simp) ?_;intro cF bi bO az aJ ba;obtain⟨aV,an,ck,aF,aE,bF,ar⟩:=bL.out az aJ;have p6:bO.cell?⟨b,3,none⟩=some(.slice m1 N1 m3):=by rw [aV.cell(by omega),cW.out]
   have cY:ab w.heap.size= .other:=(bp.out.oth w.heap.size bP.1 bt.out(fun e=>e)).2;have cy:ab pg= .other:=by
    have aQ:=World.block_lt_of_cell? W _ cd.out;simp only at aQ;by_cases e:ab pg= .other
    ·exact e
    ·exact absurd(aS.out.hs.1.dom pg e).1(by omega)
   have bU:∀ g o v,ab g= .other->g<w11.heap.size->w11.cell?⟨g,o,none⟩=some v->bO.cell?⟨g,o,none⟩=some v:=fun g o v h1 h2 h3=>by
    have h4:=(aE.oth g h2 h1(fun e=>e)).1;rw [Below.heap_setCell _ _ _ _(fun e=>by simp only at e;subst e;rw [aS.out.hs.1.wb]at h1;cases h1)]at h4;rw [World.cell?_of_block h4];exact h3
   have q6:=bU _ _ _ cY(World.block_lt_of_cell? w11 _ e0)e0;have q7:=bU _ _ _ cy(World.block_lt_of_cell? w11 _ e1)e1;have p7:=aV.frozen 3;refine br.out _ _⟨p6,q6,q7⟩ ?_;clear br;try simp only [Act.put,List.setIfInBounds_toArray]
   refine hY(i:=12)(v:= ?vv12)rfl(by kernel_rfl)(fun _ _ _ h=>h)(Or.inl⟨by rfl, ?hy12⟩)⟨p6,q6,q7⟩ ?rest12
   case hy12=>(rintro u⟨aw,aA,aC⟩;go_simp;try with_reducible rfl)
   simp only [Act.put];refine hY(i:=13)(v:= ?vv13)rfl(by kernel_rfl)(fun _ _ _ h=>h)(Or.inl⟨by rfl, ?hy13⟩)⟨p6,q6,q7⟩ ?rest13
   case hy13=>(rintro u⟨aw,aA,aC⟩;go_simp;try with_reducible rfl)
   simp only [Act.put];refine iE rfl(by kernel_rfl)(by kernel_rfl)(by rfl) ?_;go_simp;generalize bO.setCell⟨b,3,none⟩(.slice(some⟨cF,0,none⟩)(N1+1)bi)=w13 at*;have ah:w13.heap[gr]?=some(.cells(LC1.map slC++List.replicate(p.length+2 - i)(Value.slice none 0 0)).toArray 66(0,0)):=by
    rw [(ar gr ay.out.2).1];show w11.heap[gr]?=_
    rw [ay.out.1];exact bc.out.1
   have a1:W.grownBy w13 none:=(Fr.trans(Fr.grown(ir(il _ _)))aE).base bX.out ce(fun g e=>(aS.out.hs.1.dom g e).1)(fun g e=>e.elim);have aR:Hid(PgIn B W w2(w13.setCell⟨gr,i,none⟩(.slice(some⟨gx,0,none⟩)c.length(c.length+2)))b who2 an n ck K LI LC(LC1++ [(gx,c, .slice ca c.length cc)])LR gr(w.heap.size+1)p(i+1)):=by
    have aH:=(ar gr ay.out.2).2;have bE:w13.heap[gx]?=some(.cells(kg c)65(0,0)):=by
     rw [(ar gx aP.out.2).1];show w11.heap[gx]?=_
     rw [aP.out.1];exact cw.out
    have cN:valOther an(.slice ca c.length cc):=fun g o l bx e2 hz=>by
     have aQ:=c7.out g o l bx e2 hz;by_cases e:an g= .other
     ·exact e
     ·exact absurd(aF.hs.1.dom g e).1(by omega)
    have b0:=aF.addCode(LC1:=LC++(LC1++ [(gx,c, .slice ca c.length cc)]))bE(ar gx aP.out.2).2(bQ.out.pres(ie a1))cN c5 cL.out(by rw [<-List.append_assoc];exact bT.out)(by rw [List.append_assoc]);have a8:gr∉LI.map(·.1)++((LC++(LC1++ [(gx,c,Value.slice ca c.length cc)])).map(·.1)++LR.map(·.1)):=by
     have:=cV.out;simp only [List.map_append,List.map_cons,List.map_nil,List.mem_append,not_or,List.mem_cons,List.not_mem_nil,or_false]at this ⊢;exact⟨this.1,⟨this.2.1.1,this.2.1.2,by omega⟩,this.2.2⟩
    have cU:=(bp.out.trans(Fr.grown(ir(il _ _)))).trans aE;have bV:w.heap.size+1∉LI.map(·.1)++((LC++(LC1++ [(gx,c,Value.slice ca c.length cc)])).map(·.1)++LR.map(·.1)):=by
     have:=cR.out;simp only [List.map_append,List.map_cons,List.map_nil,List.mem_append,not_or,List.mem_cons,List.not_mem_nil,or_false]at this ⊢;exact⟨this.1,⟨this.2.1.1,this.2.1.2,by omega⟩,this.2.2⟩
    have aN:=ar(w.heap.size+1)aI.out.2;refine⟨b0.setOut aH a8, ?_, ?_,aH,a8,cU.trans(Fr.set(Or.inl(by rw [aH];simp))), ?_, ?_,aN.2,bV,cq.out⟩
    ·rw [List.map_append,cE.out,cG.out];rfl
    ·rw [heap_setCell_same w13 gr i _ _ _ ah,List.setIfInBounds_toArray,Cr _ _ _ _(by simpa using cA)aQ,List.map_append];rfl
    ·exact iC a1(by have:=(aF.hs.1.dom gr(by rw [aH];simp)).1;omega)
    ·rw [Below.heap_setCell _ _ _ _(by simpa using cq.out),aN.1];show w11.heap[w.heap.size+1]?=_
     rw [aI.out.1];exact bm.out.1
   have k0:∃ u,w13.cell?⟨gr,i,none⟩=some u:=by
    have bu:i<(LC1.map slC++List.replicate(p.length+2 - i)(Value.slice none 0 0)).toArray.size:=by simp;omega
    exact⟨(LC1.map slC++List.replicate(p.length+2 - i)(Value.slice none 0 0)).toArray[i]'bu,by simp only [World.cell?,ah];exact Array.getElem?_eq_getElem bu⟩
   obtain⟨u13,k0⟩:=k0;have k1:w13.frozen?⟨gr,i,none⟩=false:=by simp [World.frozen?,ah]
   have k2:(i:Int)<(p.length:Int)+2:=by omega
   have k3:(c.length:Int)<=(c.length:Int)+2:=by omega
   clear az aJ ba aV p6 p7 q6 q7 bU aF aE bF ar ah a1 e0 e1 c3 aa aZ aU aY;go_wp2_with fail
   go_roundw
   case rel=>exact⟨i+1,_,an,ck,by omega,by go_num,aR⟩
   case measure=>simp [intOf];omega
  ·have ei:i=p.length:=by omega
   have t1:(p.length:Int)<=(i:Int):=by omega
   have bR:Hid((LR.map(·.2)).sum=LC.length):=by have:=HI.out.lx.le.sum;unfold Hid;simp at this;omega
   have rO:w5.ownsRow B 35 1(f5 4)(EL LI(LC++LC1)LR 4).length(EL LI(LC++LC1)LR 4):=HI.out.lx.lr.r 4(by omega);have c4:w5.cell?⟨b,4,none⟩=some(f5 4):=HI.out.lx.cell(by omega);have hE4:(EL LI(LC++LC1)LR 4).length<=1000:=by simp only [EL,List.length_map];exact cK
   have bT:=hZ(F9 LI(LC++LC1)LR gr p.length);obtain⟨o1,o2,o3,eO⟩:=iq rO;rw [eO]at rO c4;have bJ:=iy rO;subst bJ;have bq:B<=w5.heap.size:=by have:=HI.out.lx.low;omega
   have aO:Hid(∀ {o:Obj} {g6 c6:Nat} {w6:World},w6.ownsRow B 35 1(.slice(some⟨g6,0,none⟩)((EL LI(LC++LC1)LR 4).length+1)c6)((EL LI(LC++LC1)LR 4).length+1)(EL LI(LC++LC1)LR 4++ [sl2 gr p.length])->
     (((Value.slice o1(EL LI(LC++LC1)LR 4).length o3).ownBlock=some g6/\(w5.alloc o).grownBy w6(some g6))\/(g6=w5.heap.size+1/\(w5.alloc o).grownBy w6 none))->
     HB w6 b f5/\∃ who' f',Lx B(w6.setCell⟨b,4,none⟩(.slice(some⟨g6,0,none⟩)((EL LI(LC++LC1)LR 4).length+1)c6))b who' n f' K(kK(EL LI(LC++LC1)LR)4(EL LI(LC++LC1)LR 4++ [sl2 gr p.length]))LI(LC++LC1)LR i/\
     Fr w5(w6.setCell⟨b,4,none⟩(.slice(some⟨g6,0,none⟩)((EL LI(LC++LC1)LR 4).length+1)c6))aq who'(fun _=>False)/\(∀ j,j≠4->f' j=f5 j)/\(∀ g,aq g= .lent->(w6.setCell⟨b,4,none⟩(.slice(some⟨g6,0,none⟩)((EL LI(LC++LC1)LR 4).length+1)c6)).heap[g]?=w5.heap[g]?/\who' g= .lent)):=by
    intro o g6 c6 w6 ax key;rw [<-eO]at key;exact HI.out.lx.push(by omega)ax key
   have bh:=hZ rO;have be:=hZ eO;have aT:(EL LI(LC++LC1)LR 4).length+1<=maxLen:=by unfold maxLen;omega
   clear rO eO;generalize bN:(EL LI(LC++LC1)LR 4).length=N0 at*;generalize ch:EL LI(LC++LC1)LR 4=L0 at*;clear bN;go_upto_region 15 with(at_builtin;go_must(refine iD rfl _ _ _ rfl B 35 i2 _ 1 24 Tryz.underlying41 cC cZ cS cD rfl(by omega)(.slice o1 N0 o3)N0 L0 rfl(iG bh.out)⟨w5.heap.size,0,none⟩1 1 [sl2 gr p.length]rfl rfl(World.news_of_block(cs:= #[.slice(some⟨gr,0,none⟩)(p.length+2)(p.length+2)])(t:=35)(fr:=(0,0))(heap_alloc_new w5 _))(by simp [sl2,Value.oneCell'])(by omega)aT(by omega)(by simp;omega)(w5.heap.size+1)(by simp) ?_);intro bZ aD bj ac ae aB;have al:=(aO.out ac ae).1;have p6:bj.cell?⟨b,4,none⟩=some(.slice o1 N0 o3):=(by rw [al.cell(by omega),be.out]);have p7:=al.frozen 4)
   obtain⟨_,ab,aG,ad,ap,aW,aj⟩:=aO.out ac ae;generalize bj.setCell⟨b,4,none⟩(.slice(some⟨bZ,0,none⟩)(N0+1)aD)=w11 at*;have aH:=aj gr HI.out.wg;have bC:=aj(w.heap.size+1)HI.out.wr;have ak:w11.heap[gr]?=some(.cells(jx LC1)66(0,0)):=by
    rw [aH.1,HI.out.row,ei];have e2:p.length+2 - p.length=2:=by omega
    rw [e2];rfl
   have ag:w11.heap[w.heap.size+1]?=some(.cells #[.slice none 0 0]37(0,0)):=by rw [bC.1];exact HI.out.res
   have aR:Hid(Lx B(w11.setCell⟨w.heap.size+1,0,none⟩(.slice(some⟨gr,0,none⟩)p.length(p.length+2)))b ab n aG K(EL LI(LC++LC1)(LR++ [(gr,p.length)]))LI(LC++LC1)(LR++ [(gr,p.length)])0/\LC1.map(·.2.1)=p/\Fr w(w11.setCell⟨w.heap.size+1,0,none⟩(.slice(some⟨gr,0,none⟩)p.length(p.length+2)))who ab(fun _=>False)/\(w11.setCell⟨w.heap.size+1,0,none⟩(.slice(some⟨gr,0,none⟩)p.length(p.length+2))).heap[gr]?=some(.cells(jx LC1)66(0,0))):=by
    have b1:=ad.le.addRow(g:=gr)(by rw [bR.out,List.drop_left];exact ak)aH.2(by omega)HI.out.ng;rw [ei]at b1;have cb:=ad.lr;rw [bT.out]at cb;have b0:Lx B w11 b ab n aG K(EL LI(LC++LC1)(LR++ [(gr,p.length)]))LI(LC++LC1)(LR++ [(gr,p.length)])0:=⟨ad.hs,cb,b1⟩;refine⟨b0.setOut bC.2 ?_, ?_,((bH.out.trans HI.out.fr).trans ap).trans(Fr.set(Or.inl(by rw [bC.2];simp))), ?_⟩
    ·have:=HI.out.nr;have cH:=HI.out.rg;simp only [List.map_append,List.map_cons,List.map_nil,List.mem_append,not_or,List.mem_cons,List.not_mem_nil,or_false]at this ⊢;exact⟨this.1,this.2.1,this.2.2,cH⟩
    ·have:=HI.out.map;rw [ei,List.take_length]at this;exact this
    ·rw [Below.heap_setCell _ _ _ _(by simpa using HI.out.rg.symm)];exact ak
   have z0:w11.cell?⟨w.heap.size+1,0,none⟩=some(.slice none 0 0):=by simp [World.cell?,ag]
   have z1:w11.frozen?⟨w.heap.size+1,0,none⟩=false:=by simp [World.frozen?,ag]
   have z2:(w11.setCell⟨w.heap.size+1,0,none⟩(.slice(some⟨gr,0,none⟩)p.length(p.length+2))).cell?⟨w.heap.size+1,0,none⟩=some(.slice(some⟨gr,0,none⟩)p.length(p.length+2)):=by
    have:=heap_setCell_same w11(w.heap.size+1)0 _ _(.slice(some⟨gr,0,none⟩)p.length(p.length+2))ag;simp [World.cell?,this]
   have z3:(p.length:Int)<=(p.length:Int)+2:=by omega
   clear ac ae al p6 p7 aB c4 ad ap aW aj aO bh be aH bC ak ag;go_wp2_with fail
   refine bodyPost_ret(v:= .agg #[.slice(some⟨gr,0,none⟩)p.length(p.length+2)]) ?_ rfl ?_
   ·simp [results,Tryz.results19,go_sem,z2]
   ·exact⟨gr,LC1,ab,aG,rfl,aR.out⟩
end
section
open Go.RowKit
attribute [local go_sem] Go.World.cell?_alloc_some
theorem pW(c:List Ins)(v u:Value)(w:World)(hC:CodeAt w v c)(hD:CodeAt w u c)(hln:c.length<=4398046510976):
  Calls Tryz.prog 52 #[v,u]w fun e w'=>e= .returned(.bool true)/\jr w' w:=by
 obtain⟨ao,cap,rfl,hc⟩:=hC;obtain⟨bo,dap,rfl,hd⟩:=hD;have HC:=hZ hc;have HD:=hZ hd;clear hc hd;have q9:(c.length:Int)<=4398046510976:=by omega
 go_enter Tryz.func52,Tryz.ntmps52
 go_wp2_with fail
 go_loopw [5](fun i w'=>∃ k:Nat,k<=c.length/\i= .int .i64 k/\Hid(jr w' w))(fun i _=>c.length - (intOf i).toNat)
 case atStart=>exact⟨0,Nat.zero_le _,rfl,hZ(jp _)⟩
 case round=>
  obtain⟨k,hk,rfl,HK⟩:=hrel;obtain⟨w7,aa⟩:∃ w7,w7=wr:=⟨_,rfl⟩;rw [<-aa]at HK ⊢;clear aa;have cL:∀ a,w7.cell? a=w.cell? a:=fun a=>by simp [World.cell?,HK.out.1]
  by_cases ab:k<c.length
  ·obtain⟨xg,xo,rfl,x5,x6,x7,x8⟩:=HC.out k ab;obtain⟨yg,yo,rfl,y5,y6,y7,y8⟩:=HD.out k ab;rw [<-cL]at x5 x6 x7 x8 y5 y6 y7 y8;have q2:(0:Int)<=(k:Int):=by omega
   have q3:(k:Int)<c.length:=by omega
   clear cL;generalize c[k]=i at*;obtain⟨i1,i2,i3,i4⟩:=i;simp only at x5 x6 x7 x8 y5 y6 y7 y8;go_wp2_with fail
   go_quiet(fail)
   go_wp2_with fail
   go_roundw
   case rel=>exact⟨k+1,by omega,by go_num,hZ(jR HK.out _)⟩
   case measure=>simp [intOf];omega
  ·have q3:(c.length:Int)<=(k:Int):=by omega
   clear cL;go_wp2_with fail
   go_ret;exact⟨rfl,HK.out⟩
end
section
open Go.RowKit
structure Chg(w w':World)(S:Nat->Prop):Prop where
 os:w'.os=w.os
 tape:w'.tape=w.tape
 output:w'.output=w.output
 size:w.heap.size<=w'.heap.size
 blk:∀ g,g<w.heap.size->¬S g->w'.heap[g]?=w.heap[g]?
theorem Chg.refl(w:World)(S:Nat->Prop):Chg w w S:=⟨rfl,rfl,rfl,Nat.le_refl _,fun _ _ _=>rfl⟩
theorem Chg.below {w w1 w2:World} {S:Nat->Prop}(h:Chg w w1 S)(hb:Below w1.heap.size w1 w2):Chg w w2 S:=
 ⟨hb.os.trans h.os,hb.tape.trans h.tape,hb.output.trans h.output,Nat.le_trans h.size hb.size,fun g h1 h2=>by rw [hb.block g(Nat.lt_of_lt_of_le h1 h.size)];exact h.blk g h1 h2⟩
theorem Chg.set {w w1:World} {S:Nat->Prop} {g o:Nat} {v:Value}(h:Chg w w1 S)(hg:S g):Chg w(w1.setCell⟨g,o,none⟩v)S:=
 ⟨h.os,h.tape,h.output,by simpa using h.size,fun k h1 h2=>by rw [Below.heap_setCell _ _ _ _(fun e=>by simp only at e;subst e;exact h2 hg)];exact h.blk k h1 h2⟩
theorem Chg.mono {w w1:World} {S S':Nat->Prop}(h:Chg w w1 S)(hs:∀ g,S g->S' g):Chg w w1 S':=⟨h.os,h.tape,h.output,h.size,fun k h1 h2=>h.blk k h1(fun e=>h2(hs k e))⟩
theorem Chg.cell {w w1:World} {S:Nat->Prop}(h:Chg w w1 S) {g o:Nat} {v:Value}(hc:w.cell?⟨g,o,none⟩=some v)(hs:¬S g):w1.cell?⟨g,o,none⟩=some v:=by
 have aa:g<w.heap.size:=World.block_lt_of_cell? w _ hc;rw [World.cell?_of_block(h.blk g aa hs)];exact hc
theorem uh(l:List(Nat × List Ins × Value)):(jx l).size=l.length+2:=by simp [jx]
theorem wQ(l:List(Nat × List Ins × Value))(k:Nat)(hk:k<l.length):(jx l)[k]?=some(slC l[k]):=by
 simp only [jx,List.getElem?_toArray];rw [List.getElem?_append_left(by simpa using hk),List.getElem?_map,List.getElem?_eq_getElem hk];rfl
theorem ua(l:List(Nat × List Ins × Value)):(jx l)[l.length]?=some(.slice none 0 0):=by
 simp only [jx,List.getElem?_toArray];rw [List.getElem?_append_right(by simp)];simp
theorem uq(l:List(Nat × List Ins × Value)):(jx l)[l.length+1]?=some(.slice none 0 0):=by
 simp only [jx,List.getElem?_toArray];rw [List.getElem?_append_right(by simp)];simp
theorem uk(c:List Ins):(kg c).size=(c.length+2)*4:=by
 have:=lD c;unfold kM at this;simp only [kg,List.size_toArray,List.length_append,this,nP,List.length_cons,List.length_nil];omega
theorem ky(c:List Ins)(j:Nat)(hj:j<4):(kg c)[c.length*4+j]?=nP[j]?/\(kg c)[(c.length+1)*4+j]?=nP[j]?:=by
 have hl:=lD c;unfold kM at hl;simp only [kg,List.getElem?_toArray];generalize List.flatMap ue c=L at hl ⊢;refine⟨?_, ?_⟩
 ·rw [List.getElem?_append_right(by omega),List.getElem?_append_left(by simp [nP];omega)];congr 1;omega
 ·rw [List.getElem?_append_right(by omega),List.getElem?_append_right(by simp [nP];omega)];congr 1;simp [nP];omega
def Hz(B:Nat)(w:World)(b:Nat)(who:Nat->Role)(n:Int)(f:Nat->Value)(K:Nat->List(Value × Int)):Prop:=HsK B w b who n f K/\∀ k,k<5->f k= .slice none 0 0
theorem Hz.lx {B:Nat} {w:World} {b:Nat} {who:Nat->Role} {n:Int} {f:Nat->Value} {K:Nat->List(Value × Int)}(h:Hz B w b who n f K):Lx B w b who n f K(EL [] [] []) [] [] []0:=by
 refine⟨h.1,⟨fun k hk=> ?_,fun k hk g e=> ?_⟩,⟨fun x hx=>(by cases hx),fun x hx=>(by cases hx),fun j hj=>(by simp at hj),rfl,(by simp)⟩⟩
 ·have e0:EL [] [] []k= []:=by
   rcases(by omega:k=0\/k=1\/k=2\/k=3\/k=4)with rfl | rfl | rfl | rfl | rfl<;>rfl
  rw [e0,h.2 k hk];exact⟨rfl,Or.inl⟨rfl,rfl⟩⟩
 ·rw [h.2 k hk]at e;cases e
theorem Lx.free {B:Nat} {w w':World} {b:Nat} {who:Nat->Role} {n:Int} {f:Nat->Value} {K:Nat->List(Value × Int)} {E:Nat->List Value} {LI:List(Nat × List Int × Value)} {LC:List(Nat × List Ins × Value)} {LR:List(Nat × Nat)} {tail:Nat}
  (h:Lx B w b who n f K E LI LC LR tail) {S:Nat->Prop}(hc:Chg w w' S)(hS:∀ g,S g->who g= .lent):
  let w5:=((((w'.setCell⟨b,4,none⟩(.slice none 0 0)).setCell⟨b,2,none⟩(.slice none 0 0)).setCell⟨b,3,none⟩(.slice none 0 0)).setCell⟨b,0,none⟩(.slice none 0 0)).setCell⟨b,1,none⟩(.slice none 0 0)
  ∃ f',Hz B w5 b who n f' K/\Fr w w5 who who(fun _=>False):=by
 intro w5;have ab:Hs B w' b who n f K(jk K):=h.hs.1.same hc.size(fun g h1 h2 h3=>hc.blk g h1(fun e=>by rw [hS g e]at h3;cases h3));have aa:=((((ab.setLent(o:=4)(by omega)(.slice none 0 0)).setLent(o:=2)(by omega)(.slice none 0 0)).setLent(o:=3)(by omega)(.slice none 0 0)).setLent(o:=0)(by omega)(.slice none 0 0)).setLent(o:=1)(by omega)(.slice none 0 0);have ac:Fr w w' who who(fun _=>False):=⟨hc.os,hc.tape,hc.output,hc.size,fun g h1 h2 _=>⟨hc.blk g h1(fun e=>by rw [hS g e]at h2;cases h2),h2⟩⟩;have hb:who b≠ .other\/False:=Or.inl(by rw [h.hs.1.wb];simp);refine⟨_,⟨⟨aa,h.hs.2⟩,fun k hk=> ?_⟩,((((ac.trans(Fr.set hb)).trans(Fr.set hb)).trans(Fr.set hb)).trans(Fr.set hb)).trans(Fr.set hb)⟩;rcases(by omega:k=0\/k=1\/k=2\/k=3\/k=4)with rfl | rfl | rfl | rfl | rfl<;>simp [lC]
end
section
open Go.RowKit
attribute [local go_sem] Go.World.cell?_alloc_some
theorem nV {w:World} {B:Nat} {T:TypeId} {v:Value} {E:List Value}(h:w.ownsRow B T 1 v E.length E) {i:Nat}(hi:i<E.length):∃ g cap,v= .slice(some⟨g,0,none⟩)E.length cap/\w.cell?⟨g,i,none⟩=some E[i]:=by
 obtain⟨g,cap,e,_,_⟩:=h.form(by omega);refine⟨g,cap,e, ?_⟩;rw [e]at h;rw [h.cellAt i(by omega),List.getElem?_eq_getElem hi]
theorem pN {l:List Nat}(h:l.Nodup) {i:Nat}(hi:i<l.length):l[i]∉l.take i:=by
 intro hm;have h2:=h;rw [<-List.take_append_drop i l,List.nodup_append]at h2;exact h2.2.2 _ hm _(by rw [List.drop_eq_getElem_cons hi];exact List.mem_cons_self)rfl
theorem rl(B:Nat)(w:World)(b:Nat)(who:Nat->Role)(n:Int)(f:Nat->Value)(K:Nat->List(Value × Int))(LI:List(Nat × List Int × Value))(LC:List(Nat × List Ins × Value))(LR:List(Nat × Nat))
  (h:Lx B w b who n f K(EL LI LC LR)LI LC LR 0)(hLI:LI.length<=1000)(hLC:LC.length<=5864062014634)(hLR:LR.length<=1000):
  Calls Tryz.prog 21 #[pt b]w fun e w'=>e= .returned(.bool true)/\∃ f',Hz B w' b who n f' K/\Fr w w' who who(fun _=>False):=by
 have HX:=hZ h;have bj:pt b= .pointer(some⟨b,0,none⟩):=rfl;rw [bj];have c0:=h.cell(o:=0)(by omega);have c1:=h.cell(o:=1)(by omega);have c2:=h.cell(o:=2)(by omega);have c3:=h.cell(o:=3)(by omega);have c4:=h.cell(o:=4)(by omega);have r0:w.ownsRow B 39 1(f 0)(EL LI LC LR 0).length(EL LI LC LR 0):=h.lr.r 0(by omega);have r1:w.ownsRow B 39 1(f 1)(EL LI LC LR 1).length(EL LI LC LR 1):=h.lr.r 1(by omega);have r2:w.ownsRow B 66 1(f 2)(EL LI LC LR 2).length(EL LI LC LR 2):=h.lr.r 2(by omega);have r3:w.ownsRow B 66 1(f 3)(EL LI LC LR 3).length(EL LI LC LR 3):=h.lr.r 3(by omega);have r4:w.ownsRow B 35 1(f 4)(EL LI LC LR 4).length(EL LI LC LR 4):=h.lr.r 4(by omega);have l0:(EL LI LC LR 0).length=LI.length:=by simp [EL]
 have l1:(EL LI LC LR 1).length=LI.length:=by simp [EL]
 have l2:(EL LI LC LR 2).length=LC.length:=by simp [EL]
 have l3:(EL LI LC LR 3).length=LC.length:=by simp [EL]
 have l4:(EL LI LC LR 4).length=LR.length:=by simp [EL]
 have wr:=h.lr.wr;have bm:=hZ r0;have bu:=hZ r1;have bD:=hZ r2;have bc:=hZ r3;have bl:=hZ r4;obtain⟨a0,b0,d0,e0⟩:=iq r0;obtain⟨a1,b1,d1,e1⟩:=iq r1;obtain⟨a2,b2,d2,e2⟩:=iq r2;obtain⟨a3,b3,d3,e3⟩:=iq r3;obtain⟨a4,b4,d4,e4⟩:=iq r4;have bI:b0=LI.length:=by rw [e0]at r0;have:=iy r0;omega
 have bF:b1=LI.length:=by rw [e1]at r1;have:=iy r1;omega
 have bK:b2=LC.length:=by rw [e2]at r2;have:=iy r2;omega
 have bp:b3=LC.length:=by rw [e3]at r3;have:=iy r3;omega
 have bv:b4=LR.length:=by rw [e4]at r4;have:=iy r4;omega
 subst bI bF bK bp bv;rw [e0]at c0;rw [e1]at c1;rw [e2]at c2;rw [e3]at c3;rw [e4]at c4;have aP:=hZ e0;have ba:=hZ e1;have a8:=hZ e2;have aM:=hZ e3;have bb:=hZ e4;have bw:=hZ c0;have bC:=hZ c1;have bA:=hZ c2;have a9:=hZ c3;have bz:=hZ c4;have aB:=hZ wr;have HL:=hZ h.le.lt;have aE:=hZ h.le.nd;have aS:Hid(∀ g,(g∈LR.map(·.1)\/g∈LC.map(·.1)\/g∈LI.map(·.1))->who g= .lent):=fun g e=>(h.le.lt g(by
  rcases e with e | e | e
  ·exact List.mem_append.2(Or.inr(List.mem_append.2(Or.inr e)))
  ·exact List.mem_append.2(Or.inr(List.mem_append.2(Or.inl e)))
  ·exact List.mem_append.2(Or.inl e))).2
 have aY:Hid(who b= .hands):=h.hs.1.wb;clear h bj r0 r1 r2 r3 r4 l0 l1 l2 l3 l4 e0 e1 e2 e3 e4 wr c0 c1 c2 c3 c4;have q0:(LI.length:Int)<=1000:=by omega
 have q1:(LC.length:Int)<=5864062014634:=by omega
 have q2:(LR.length:Int)<=1000:=by omega
 go_enter Tryz.func21,Tryz.ntmps21
 go_wp2_with fail
 go_loopw [3,4,5](fun ok cv iv w'=>∃ i off:Nat,i<=LR.length/\ok= .bool true/\cv= .int .i64 off/\Hid(((LR.take i).map(·.2)).sum=off)/\iv= .int .i64 i/\Hid(Chg w w'(fun g=>g∈(LR.take i).map(·.1))))(fun _ _ iv _=>LR.length - (intOf iv).toNat)
 case atStart=>exact⟨0,0,Nat.zero_le _,rfl,rfl,hZ rfl,rfl,hZ(Chg.refl _ _)⟩
 case round=>
  obtain⟨i,off,hi,rfl,rfl,a7,rfl,HG⟩:=hrel;obtain⟨w5,a6⟩:∃ w5,w5=wr:=⟨_,rfl⟩;rw [<-a6]at HG ⊢;clear a6;have ag:∀ g,g∈(LR.take i).map(·.1)->who g= .lent:=fun g e=>aS.out g(Or.inl(by
   obtain⟨x,hx,rfl⟩:=List.mem_map.1 e;exact List.mem_map.2⟨x,List.mem_of_mem_take hx,rfl⟩))
  have am:¬b∈(LR.take i).map(·.1):=fun e=>by have:=ag b e;rw [aY.out]at this;cases this
  have k4:=HG.out.cell bz.out am;by_cases ad:i<LR.length
  ·obtain⟨g4,cp4,e4,r4⟩:=nV bl.out(i:=i)(by simp [EL];exact ad);have aV:w.cell?⟨g4,i,none⟩=some(sl2 LR[i].1 LR[i].2):=by simpa [EL]using r4
   rw [bb.out]at e4;simp only [Value.slice.injEq]at e4;obtain⟨bH,bq,bJ⟩:=e4;clear bq;subst bH bJ;have bn:who g4= .lrow 4:=aB.out 4(by omega)g4(by rw [bb.out];rfl);have k5:=HG.out.cell aV(fun e=>by have:=ag g4 e;rw [bn]at this;cases this);obtain⟨ai,br,aX⟩:=HX.out.le.lr i ad;have aA:=HX.out.le.row_in i ad;have aG:¬LR[i].1∈(LR.take i).map(·.1):=by
    have ap:(LR.map(·.1)).Nodup:=by
     have:=aE.out;rw [List.nodup_append]at this;have h2:=this.2.1;rw [List.nodup_append]at h2;exact h2.2.1
    have:=pN ap(i:=i)(by simpa using ad);rw [<-List.map_take]at this;simpa using this
   have aT:Hid(((LR.take(i+1)).map(·.2)).sum=((LR.take i).map(·.2)).sum+LR[i].2):=by
    unfold Hid;rw [List.take_succ_eq_append_getElem ad,List.map_append,List.sum_append];simp
   have al:Hid((LR.take(i+1)).map(·.1)=(LR.take i).map(·.1)++ [LR[i].1]):=by
    unfold Hid;rw [List.take_succ_eq_append_getElem ad,List.map_append];rfl
   have bh:LR[i].1∈LR.map(·.1):=List.mem_map.2⟨_,List.getElem_mem ad,rfl⟩;have bG:Hid(LR[i].1∉LC.map(·.1)):=fun e=>by
    have:=aE.out;rw [List.nodup_append]at this;have h2:=this.2.1;rw [List.nodup_append]at h2;exact h2.2.2 _ e _ bh rfl
   have bk:Hid(∀ g,g∈(LR.take i).map(·.1)->g∉LC.map(·.1)):=fun g e e2=>by
    have:=aE.out;rw [List.nodup_append]at this;have h2:=this.2.1;rw [List.nodup_append]at h2;obtain⟨x,hx,rfl⟩:=List.mem_map.1 e;exact h2.2.2 _ e2 _(List.mem_map.2⟨x,List.mem_of_mem_take hx,rfl⟩)rfl
   have aJ:=a7.out;rw [aJ]at ai aA aT;generalize LR[i]=x at*;obtain⟨g,m⟩:=x;simp only at aV k5 ai br aX aA aG aT al bG;clear aV bh aJ;have aW:((LC.drop off).take m).length=m:=by rw [List.length_take,List.length_drop];omega
   have k6:w5.cell?⟨g,m,none⟩=some(.slice none 0 0):=HG.out.cell(by simp only [World.cell?,ai];have:=ua((LC.drop off).take m);rw [aW]at this;exact this)aG;have k7:w5.cell?⟨g,m+1,none⟩=some(.slice none 0 0):=HG.out.cell(by simp only [World.cell?,ai];have:=uq((LC.drop off).take m);rw [aW]at this;exact this)aG;have bo:Hid(∀ k(hk:k<m),w.cell?⟨g,k,none⟩=some(slC(LC[off+k]'(Nat.lt_of_lt_of_le(Nat.add_lt_add_left hk off)aA)))):=fun k hk=>by
    simp only [World.cell?,ai];rw [wQ _ k(by omega)];simp
   have bg:=hZ ai;have t0:(0:Int)<=(i:Int):=by omega
   have t1:(i:Int)<LR.length:=by omega
   have t2:(m:Int)<=5864062014634:=by omega
   have t3:(0:Int)<=(m:Int):=by omega
   have t4:(off:Int)+m<=LC.length:=by omega
   have t5:(m:Int)<(m:Int)+2:=by omega
   have t6:(m:Int)+1<(m:Int)+2:=by omega
   unfold sl2 at k5;clear ai aW;go_wp2_with fail
   go_loopw [3,4,8](fun ok cv kv w'=>∃ k q:Nat,k<=m/\ok= .bool true/\cv= .int .i64 q/\Hid(off+k=q)/\kv= .int .i64 k/\Hid(Chg w w'(fun g=>g∈(LR.take i).map(·.1))))(fun _ _ kv _=>m - (intOf kv).toNat)
   case atStart=>exact⟨0,off,Nat.zero_le _,rfl,rfl,hZ rfl,rfl,HG⟩
   case round=>
    clear k4 k5 k6 k7;obtain⟨k,q,hk,rfl,rfl,aN,rfl,ao⟩:=hrel;obtain⟨w7,aw⟩:∃ w7,w7=wr:=⟨_,rfl⟩;rw [<-aw]at ao ⊢;clear aw;by_cases bt:k<m
    ·have bf:=aN.out;have hy:q<LC.length:=by omega
     obtain⟨g3,be,e3,r3⟩:=nV bc.out(i:=q)(by simp [EL];omega);have ay:w.cell?⟨g3,q,none⟩=some LC[q].2.2:=by simpa [EL]using r3
     rw [aM.out]at e3;simp only [Value.slice.injEq]at e3;obtain⟨aF,aK,aI⟩:=e3;clear aK;subst aF aI;have aH:who g3= .lrow 3:=aB.out 3(by omega)g3(by rw [aM.out];rfl);have m3:=ao.out.cell a9.out am;have m4:=ao.out.cell ay(fun e=>by have:=ag g3 e;rw [aH]at this;cases this);have m5:=ao.out.cell(bo.out k bt)aG;simp only [bf]at m5;obtain⟨y1,y2,y3,y4,y5⟩:=HX.out.le.lc LC[q](List.getElem_mem hy);have ar:¬LC[q].1∈(LR.take i).map(·.1):=fun e=>bk.out _ e(List.mem_map.2⟨_,List.getElem_mem hy,rfl⟩)
     have hC:CodeAt w7(slC LC[q])LC[q].2.1:=pk(by rw [ao.out.blk _(Array.getElem?_eq_some_iff.1 y1).1 ar];exact y1)_;have hD:CodeAt w7 LC[q].2.2 LC[q].2.1:=qE y3 y4(fun g' h1 h2=>ao.out.blk g' h1(fun e=>by have:=ag g' e;rw [h2]at this;cases this));generalize LC[q]=y at*;obtain⟨yg,yc,yv⟩:=y;simp only [slC]at m4 m5 hC hD y5;obtain⟨ya,yb,rfl⟩:∃ ya yb,yv= .slice ya yc.length yb:=⟨_,_,hD.choose_spec.choose_spec.1⟩;have ac:∀ (d:Nat)(os:Array Obj),Calls Tryz.prog 52 #[.slice(some⟨yg,0,none⟩)yc.length(yc.length+2), .slice ya yc.length yb](Sort.grow(redrawn w7 d)os)fun e w''=>e= .returned(.bool true)/\∃ p:Regrown,w''=Sort.grow(redrawn w7 p.d)p.os:=by
      intro d os;have ae:=kR(below_regrown w7 d os);refine Calls.regrown_of((pW yc _ _ _(CodeAt.pres hC(ie ae))(CodeAt.pres hD(ie ae))y5).mono ?_);rintro e w'⟨rfl,hl⟩;refine⟨by simp, ?_⟩;have:=iH(r:=none)hl;exact⟨this.os,this.tape,this.output,this.size,fun k hk=>this.block k hk(by simp)⟩
     have n3:=fun d os=>cell_regrown m3 d os
     have n4:=fun d os=>cell_regrown m4 d os
     have n5:=fun d os=>cell_regrown m5 d os
     have s0:(0:Int)<=(k:Int):=by omega
     have s1:(k:Int)<m:=by omega
     have s2:(k:Int)<(m:Int)+2:=by omega
     have s3:(0:Int)<=(q:Int):=by omega
     have s4:(q:Int)<LC.length:=by omega
     clear hC hD y1 y2 y3 y4 r3 ay;clear bf hy ar;go_wp2_with fail
     refine wp_region_quiet_below(by kernel_rfl)(by kernel_rfl) ?_;repeat(quiet_step(exact ac _ _))
     refine wpQuiet_nil ?_;intro w8 aj;obtain⟨⟨dq,aD⟩,aj⟩:=aj;have ak:=below_regrown w7 dq aD;rw [<-aj]at ak;have bB:=hZ(ao.out.below ak);clear aj ac n3 n4 n5 ak m3 m4 m5;go_wp2_with fail
     go_roundw
     case rel=>exact⟨k+1,q+1,by omega,rfl,by go_num,hZ(by have:=aN.out;omega),by go_num,bB⟩
     case measure=>simp [intOf];omega
    ·have bx:k=m:=by omega
     have u1:(m:Int)<=(k:Int):=by omega
     have HQ:Hid(((LR.take(i+1)).map(·.2)).sum=q):=by unfold Hid;rw [aT.out];have:=aN.out;omega
     have av:Hid(Chg w w7(fun g'=>g'∈(LR.take(i+1)).map(·.1))/\∃ R:Array Value,R.size=m+2/\w7.heap[g]?=some(.cells R 66(0,0))):=by
      refine⟨ao.out.mono(fun g' e=>by rw [al.out];exact List.mem_append.2(Or.inl e)),_, ?_,by rw [ao.out.blk g(Array.getElem?_eq_some_iff.1 bg.out).1 aG];exact bg.out⟩;rw [uh,List.length_take,List.length_drop];omega
     have ah:g∈(LR.take(i+1)).map(·.1):=by rw [al.out];exact List.mem_append.2(Or.inr(by simp))
     clear ao bx aN;go_wp2_with fail
     go_loopw [10](fun kv w'=>∃ k:Nat,k<=m+2/\kv= .int .i64 k/\Hid(Chg w w'(fun g'=>g'∈(LR.take(i+1)).map(·.1))/\∃ R:Array Value,R.size=m+2/\w'.heap[g]?=some(.cells R 66(0,0))))(fun kv _=>m+2 - (intOf kv).toNat)
     case atStart=>exact⟨0,by omega,rfl,av⟩
     case round=>
      clear av;obtain⟨k,hk,rfl,HO⟩:=hrel;obtain⟨w9,au⟩:∃ w9,w9=wr:=⟨_,rfl⟩;rw [<-au]at HO ⊢;clear au;by_cases bi:k<m+2
      ·obtain⟨aq,R,ax,af⟩:=HO.out;obtain⟨u,y0⟩:∃ u,w9.cell?⟨g,k,none⟩=some u:=⟨R[k]'(by omega),by simp only [World.cell?,af];exact Array.getElem?_eq_getElem _⟩;have y1:w9.frozen?⟨g,k,none⟩=false:=by simp [World.frozen?,af]
       have aC:Hid(Chg w(w9.setCell⟨g,k,none⟩(.slice none 0 0))(fun g'=>g'∈(LR.take(i+1)).map(·.1))/\∃ R:Array Value,R.size=m+2/\(w9.setCell⟨g,k,none⟩(.slice none 0 0)).heap[g]?=some(.cells R 66(0,0))):=
        ⟨aq.set ah,R.setIfInBounds k(.slice none 0 0),by simpa using ax,heap_setCell_same w9 g k R _ _ af⟩
       have z0:(0:Int)<=(k:Int):=by omega
       have z1:(k:Int)<(m:Int)+2:=by omega
       clear af ax aq;go_wp2_with fail
       go_roundw
       case rel=>exact⟨k+1,by omega,by go_num,aC⟩
       case measure=>simp [intOf];omega
      ·have z1:(m:Int)+2<=(k:Int):=by omega
       go_wp2_with fail
       go_roundw
       case rel=>exact⟨i+1,q,by omega,rfl,rfl,HQ,by go_num,hZ HO.out.1⟩
       case measure=>simp [intOf];omega
  ·have ei:i=LR.length:=by omega
   have t1:(LR.length:Int)<=(i:Int):=by omega
   have bd:Hid(Chg w w5(fun g=>g∈LR.map(·.1)\/g∈(LC.take 0).map(·.1))):=by
    have:=HG.out;rw [ei,List.take_length]at this;exact this.mono(fun g e=>Or.inl e)
   clear HG ag am a7 ei;go_wp2_with fail
   go_loopw [3,11](fun ok iv w'=>∃ j:Nat,j<=LC.length/\ok= .bool true/\iv= .int .i64 j/\Hid(Chg w w'(fun g=>g∈LR.map(·.1)\/g∈(LC.take j).map(·.1))))(fun _ iv _=>LC.length - (intOf iv).toNat)
   case atStart=>exact⟨0,Nat.zero_le _,rfl,rfl,bd⟩
   case round=>
    clear bd k4;obtain⟨j,hj,rfl,rfl,HG⟩:=hrel;obtain⟨w7,aw⟩:∃ w7,w7=wr:=⟨_,rfl⟩;rw [<-aw]at HG ⊢;clear aw;have ag:∀ g,(g∈LR.map(·.1)\/g∈(LC.take j).map(·.1))->who g= .lent:=fun g e=>aS.out g(by
     rcases e with e | e
     ·exact Or.inl e
     ·obtain⟨x,hx,rfl⟩:=List.mem_map.1 e;exact Or.inr(Or.inl(List.mem_map.2⟨x,List.mem_of_mem_take hx,rfl⟩)))
    have am:¬(b∈LR.map(·.1)\/b∈(LC.take j).map(·.1)):=fun e=>by have:=ag b e;rw [aY.out]at this;cases this
    have k2:=HG.out.cell bA.out am;by_cases ad:j<LC.length
    ·obtain⟨g2,bE,e2,r2⟩:=nV bD.out(i:=j)(by simp [EL];exact ad);have aL:w.cell?⟨g2,j,none⟩=some(sl2 LC[j].1 LC[j].2.1.length):=by simpa [EL]using r2
     rw [a8.out]at e2;simp only [Value.slice.injEq]at e2;obtain⟨aZ,aR,aO⟩:=e2;clear aR;subst aZ aO;obtain⟨g3,be,e3,r3⟩:=nV bc.out(i:=j)(by simp [EL];exact ad);have ay:w.cell?⟨g3,j,none⟩=some LC[j].2.2:=by simpa [EL]using r3
     rw [aM.out]at e3;simp only [Value.slice.injEq]at e3;obtain⟨aF,aK,aI⟩:=e3;clear aK;subst aF aI;have aU:who g2= .lrow 2:=aB.out 2(by omega)g2(by rw [a8.out];rfl);have aH:who g3= .lrow 3:=aB.out 3(by omega)g3(by rw [aM.out];rfl);have m2:=HG.out.cell aL(fun e=>by have:=ag g2 e;rw [aU]at this;cases this);have m3:=HG.out.cell a9.out am;have m4:=HG.out.cell ay(fun e=>by have:=ag g3 e;rw [aH]at this;cases this);obtain⟨y1,y2,y3,y4,y5⟩:=HX.out.le.lc LC[j](List.getElem_mem ad);have ar:¬(LC[j].1∈LR.map(·.1)\/LC[j].1∈(LC.take j).map(·.1)):=by
      have ap:=aE.out;rw [List.nodup_append]at ap;have h2:=ap.2.1;rw [List.nodup_append]at h2;rintro(e | e)
      ·exact h2.2.2 _(List.mem_map.2⟨_,List.getElem_mem ad,rfl⟩)_ e rfl
      ·have:=pN h2.1(i:=j)(by simpa using ad);rw [<-List.map_take]at this;exact this(by simpa using e)
     have ab:w7.heap[LC[j].1]?=some(.cells(kg LC[j].2.1)65(0,0)):=by rw [HG.out.blk _(Array.getElem?_eq_some_iff.1 y1).1 ar];exact y1
     have hC:CodeAt w7(slC LC[j])LC[j].2.1:=pk ab _;have hD:CodeAt w7 LC[j].2.2 LC[j].2.1:=qE y3 y4(fun g' h1 h2=>HG.out.blk g' h1(fun e=>by have:=ag g' e;rw [h2]at this;cases this));have al:Hid((LC.take(j+1)).map(·.1)=(LC.take j).map(·.1)++ [LC[j].1]):=by
      unfold Hid;rw [List.take_succ_eq_append_getElem ad,List.map_append];rfl
     generalize LC[j]=y at*;obtain⟨yg,yc,yv⟩:=y;simp only [slC,sl2]at m2 m4 hC hD y5 ab al;obtain⟨ya,yb,rfl⟩:∃ ya yb,yv= .slice ya yc.length yb:=⟨_,_,hD.choose_spec.choose_spec.1⟩;have ac:∀ (d:Nat)(os:Array Obj),Calls Tryz.prog 52 #[.slice(some⟨yg,0,none⟩)yc.length(yc.length+2), .slice ya yc.length yb](Sort.grow(redrawn w7 d)os)fun e w''=>e= .returned(.bool true)/\∃ p:Regrown,w''=Sort.grow(redrawn w7 p.d)p.os:=by
      intro d os;have ae:=kR(below_regrown w7 d os);refine Calls.regrown_of((pW yc _ _ _(CodeAt.pres hC(ie ae))(CodeAt.pres hD(ie ae))y5).mono ?_);rintro e w'⟨rfl,hl⟩;refine⟨by simp, ?_⟩;have:=iH(r:=none)hl;exact⟨this.os,this.tape,this.output,this.size,fun k hk=>this.block k hk(by simp)⟩
     have n3:=fun d os=>cell_regrown m3 d os
     have n4:=fun d os=>cell_regrown m4 d os
     have s0:(0:Int)<=(j:Int):=by omega
     have s1:(j:Int)<LC.length:=by omega
     have s2:(yc.length:Int)<=4398046510976:=by omega
     have s3:(0:Int)<=(yc.length:Int):=by omega
     have s4:(yc.length:Int)<=(yc.length:Int)+2:=by omega
     have s5:(yc.length:Int)<(yc.length:Int)+2:=by omega
     have s6:(yc.length:Int)+1<(yc.length:Int)+2:=by omega
     have az:=hZ ab;clear hC hD y1 y2 y3 y4 r2 r3 aL ay ab ar;go_wp2_with fail
     refine wp_region_quiet_below(by kernel_rfl)(by kernel_rfl) ?_;repeat(quiet_step(exact ac _ _))
     refine wpQuiet_nil ?_;intro w8 aj;obtain⟨⟨dq,aD⟩,aj⟩:=aj;have ak:=below_regrown w7 dq aD;rw [<-aj]at ak;have aa:w8.heap[yg]?=some(.cells(kg yc)65(0,0)):=by rw [ak.block yg(Array.getElem?_eq_some_iff.1 az.out).1];exact az.out
     have p0:w8.cell?⟨yg,yc.length*4,none⟩=some(.int .i64(-77000000)):=by simp only [World.cell?,aa];exact(ky yc 0(by omega)).1
     have p1:w8.cell?⟨yg,yc.length*4+1,none⟩=some(.int .i64 0):=by simp only [World.cell?,aa];exact(ky yc 1(by omega)).1
     have p2:w8.cell?⟨yg,yc.length*4+2,none⟩=some(.int .i64 0):=by simp only [World.cell?,aa];exact(ky yc 2(by omega)).1
     have p3:w8.cell?⟨yg,yc.length*4+3,none⟩=some(.int .i64 0):=by simp only [World.cell?,aa];exact(ky yc 3(by omega)).1
     have p4:w8.cell?⟨yg,(yc.length+1)*4,none⟩=some(.int .i64(-77000000)):=by simp only [World.cell?,aa];exact(ky yc 0(by omega)).2
     have p5:w8.cell?⟨yg,(yc.length+1)*4+1,none⟩=some(.int .i64 0):=by simp only [World.cell?,aa];exact(ky yc 1(by omega)).2
     have p6:w8.cell?⟨yg,(yc.length+1)*4+2,none⟩=some(.int .i64 0):=by simp only [World.cell?,aa];exact(ky yc 2(by omega)).2
     have p7:w8.cell?⟨yg,(yc.length+1)*4+3,none⟩=some(.int .i64 0):=by simp only [World.cell?,aa];exact(ky yc 3(by omega)).2
     have av:Hid(Chg w w8(fun g=>g∈LR.map(·.1)\/g∈(LC.take(j+1)).map(·.1))/\∃ R:Array Value,R.size=(yc.length+2)*4/\w8.heap[yg]?=some(.cells R 65(0,0))):=
      ⟨(HG.out.below ak).mono(fun g e=>e.imp id(fun e=>by rw [al.out];exact List.mem_append.2(Or.inl e))),_,uk yc,aa⟩
     have ah:yg∈LR.map(·.1)\/yg∈(LC.take(j+1)).map(·.1):=Or.inr(by rw [al.out];exact List.mem_append.2(Or.inr(by simp)));clear aj ac n3 n4 ak m2 m3 m4 k2 aa az;go_wp2_with fail
     clear p0 p1 p2 p3 p4 p5 p6 p7;go_loopw [15](fun kv w'=>∃ k:Nat,k<=yc.length+2/\kv= .int .i64 k/\Hid(Chg w w'(fun g=>g∈LR.map(·.1)\/g∈(LC.take(j+1)).map(·.1))/\∃ R:Array Value,R.size=(yc.length+2)*4/\w'.heap[yg]?=some(.cells R 65(0,0))))(fun kv _=>yc.length+2 - (intOf kv).toNat)
     case atStart=>exact⟨0,by omega,rfl,av⟩
     case round=>
      clear av;obtain⟨k,hk,rfl,HO⟩:=hrel;obtain⟨w9,au⟩:∃ w9,w9=wr:=⟨_,rfl⟩;rw [<-au]at HO ⊢;clear au;by_cases bi:k<yc.length+2
      ·obtain⟨aq,R,ax,af⟩:=HO.out;obtain⟨u0,y0⟩:∃ u,w9.cell?⟨yg,k*4,none⟩=some u:=⟨R[k*4]'(by omega),by simp only [World.cell?,af];exact Array.getElem?_eq_getElem _⟩;obtain⟨u1,y1⟩:∃ u,w9.cell?⟨yg,k*4+1,none⟩=some u:=⟨R[k*4+1]'(by omega),by simp only [World.cell?,af];exact Array.getElem?_eq_getElem _⟩;obtain⟨u2,y2⟩:∃ u,w9.cell?⟨yg,k*4+2,none⟩=some u:=⟨R[k*4+2]'(by omega),by simp only [World.cell?,af];exact Array.getElem?_eq_getElem _⟩;obtain⟨u3,y3⟩:∃ u,w9.cell?⟨yg,k*4+3,none⟩=some u:=⟨R[k*4+3]'(by omega),by simp only [World.cell?,af];exact Array.getElem?_eq_getElem _⟩;have v0:w9.frozen?⟨yg,k*4,none⟩=false:=by simp [World.frozen?,af]
       have v1:w9.frozen?⟨yg,k*4+1,none⟩=false:=by simp [World.frozen?,af]
       have v2:w9.frozen?⟨yg,k*4+2,none⟩=false:=by simp [World.frozen?,af]
       have v3:w9.frozen?⟨yg,k*4+3,none⟩=false:=by simp [World.frozen?,af]
       have aC:Hid(Chg w((((w9.setCell⟨yg,k*4,none⟩(.int .i64 1)).setCell⟨yg,k*4+1,none⟩(.int .i64 0)).setCell⟨yg,k*4+2,none⟩(.int .i64 0)).setCell⟨yg,k*4+3,none⟩(.int .i64 99))(fun g=>g∈LR.map(·.1)\/g∈(LC.take(j+1)).map(·.1))/\
         ∃ R:Array Value,R.size=(yc.length+2)*4/\((((w9.setCell⟨yg,k*4,none⟩(.int .i64 1)).setCell⟨yg,k*4+1,none⟩(.int .i64 0)).setCell⟨yg,k*4+2,none⟩(.int .i64 0)).setCell⟨yg,k*4+3,none⟩(.int .i64 99)).heap[yg]?=some(.cells R 65(0,0))):=by
        refine⟨(((aq.set ah).set ah).set ah).set ah,_, ?_,heap_setCell_same _ yg _ _ _ _(heap_setCell_same _ yg _ _ _ _(heap_setCell_same _ yg _ _ _ _(heap_setCell_same w9 yg _ R _ _ af)))⟩;simpa using ax
       have z0:(0:Int)<=(k:Int):=by omega
       have z1:(k:Int)<(yc.length:Int)+2:=by omega
       clear af ax aq;go_wp2_with fail
       go_roundw
       case rel=>exact⟨k+1,by omega,by go_num,aC⟩
       case measure=>simp [intOf];omega
      ·have z1:(yc.length:Int)+2<=(k:Int):=by omega
       go_wp2_with fail
       go_roundw
       case rel=>exact⟨j+1,by omega,rfl,by go_num,hZ HO.out.1⟩
       case measure=>simp [intOf];omega
    ·have ej:j=LC.length:=by omega
     have t2:(LC.length:Int)<=(j:Int):=by omega
     have a5:Hid(Chg w w7(fun g=>(g∈LR.map(·.1)\/g∈LC.map(·.1))\/g∈(LI.take 0).map(·.1))):=by
      have:=HG.out;rw [ej,List.take_length]at this;exact this.mono(fun g e=>Or.inl e)
     clear HG ag am ej;go_wp2_with fail
     go_loopw [3,16](fun ok iv w'=>∃ j:Nat,j<=LI.length/\ok= .bool true/\iv= .int .i64 j/\Hid(Chg w w'(fun g=>(g∈LR.map(·.1)\/g∈LC.map(·.1))\/g∈(LI.take j).map(·.1))))(fun _ iv _=>LI.length - (intOf iv).toNat)
     case atStart=>exact⟨0,Nat.zero_le _,rfl,rfl,a5⟩
     case round=>
      clear a5 k2;obtain⟨j,hj,rfl,rfl,HG⟩:=hrel;obtain⟨w7,aw⟩:∃ w7,w7=wr:=⟨_,rfl⟩;rw [<-aw]at HG ⊢;clear aw;have ag:∀ g,((g∈LR.map(·.1)\/g∈LC.map(·.1))\/g∈(LI.take j).map(·.1))->who g= .lent:=fun g e=>aS.out g(by
       rcases e with(e | e) | e
       ·exact Or.inl e
       ·exact Or.inr(Or.inl e)
       ·obtain⟨x,hx,rfl⟩:=List.mem_map.1 e;exact Or.inr(Or.inr(List.mem_map.2⟨x,List.mem_of_mem_take hx,rfl⟩)))
      have am:¬((b∈LR.map(·.1)\/b∈LC.map(·.1))\/b∈(LI.take j).map(·.1)):=fun e=>by have:=ag b e;rw [aY.out]at this;cases this
      have k0:=HG.out.cell bw.out am;by_cases ad:j<LI.length
      ·obtain⟨g2,bE,e2,r2⟩:=nV bm.out(i:=j)(by simp [EL];exact ad);have aL:w.cell?⟨g2,j,none⟩=some(sl2 LI[j].1 LI[j].2.1.length):=by simpa [EL]using r2
       rw [aP.out]at e2;simp only [Value.slice.injEq]at e2;obtain⟨aZ,aR,aO⟩:=e2;clear aR;subst aZ aO;obtain⟨g3,be,e3,r3⟩:=nV bu.out(i:=j)(by simp [EL];exact ad);have ay:w.cell?⟨g3,j,none⟩=some LI[j].2.2:=by simpa [EL]using r3
       rw [ba.out]at e3;simp only [Value.slice.injEq]at e3;obtain⟨aF,aK,aI⟩:=e3;clear aK;subst aF aI;have aU:who g2= .lrow 0:=aB.out 0(by omega)g2(by rw [aP.out];rfl);have aH:who g3= .lrow 1:=aB.out 1(by omega)g3(by rw [ba.out];rfl);have m2:=HG.out.cell aL(fun e=>by have:=ag g2 e;rw [aU]at this;cases this);have m3:=HG.out.cell bC.out am;have m4:=HG.out.cell ay(fun e=>by have:=ag g3 e;rw [aH]at this;cases this);obtain⟨y1,y2,y3,y4,y5⟩:=HX.out.le.li LI[j](List.getElem_mem ad);have ar:¬((LI[j].1∈LR.map(·.1)\/LI[j].1∈LC.map(·.1))\/LI[j].1∈(LI.take j).map(·.1)):=by
        have ap:=aE.out;rw [List.nodup_append]at ap;have hm:LI[j].1∈LI.map(·.1):=List.mem_map.2⟨_,List.getElem_mem ad,rfl⟩;rintro((e | e) | e)
        ·exact ap.2.2 _ hm _(List.mem_append.2(Or.inr e))rfl
        ·exact ap.2.2 _ hm _(List.mem_append.2(Or.inl e))rfl
        ·have:=pN ap.1(i:=j)(by simpa using ad);rw [<-List.map_take]at this;exact this(by simpa using e)
       have ab:w7.heap[LI[j].1]?=some(.cells(kx LI[j].2.1)3(0,0)):=by rw [HG.out.blk _(Array.getElem?_eq_some_iff.1 y1).1 ar];exact y1
       have hC:=l9 ab;have hD:IntsAt w7.heap.size w7 LI[j].2.2 LI[j].2.1:=tp y3 y4 HG.out.size(fun g' h1 h2=>HG.out.blk g' h1(fun e=>by have:=ag g' e;rw [h2]at this;cases this));have al:Hid((LI.take(j+1)).map(·.1)=(LI.take j).map(·.1)++ [LI[j].1]):=by
        unfold Hid;rw [List.take_succ_eq_append_getElem ad,List.map_append];rfl
       generalize LI[j]=y at*;obtain⟨yg,yc,yv⟩:=y;simp only [sl2]at m2 m4 hC hD y5 ab al;obtain⟨ya,yb,rfl⟩:=hD.form;have ac:∀ (d:Nat)(os:Array Obj),Calls Tryz.prog 30 #[.slice(some⟨yg,0,none⟩)yc.length(yc.length+2), .slice ya yc.length yb](Sort.grow(redrawn w7 d)os)fun e w''=>e= .returned(.bool true)/\∃ p:Regrown,w''=Sort.grow(redrawn w7 p.d)p.os:=by
        intro d os;have ae:=kR(below_regrown w7 d os);refine Calls.regrown_of((tt yc yc _ _ _((hC.pres(ie ae)).mono ae.size)((hD.pres(ie ae)).mono ae.size)(by omega)).mono ?_);rintro e w'⟨rfl,hl⟩;refine⟨by simp, ?_⟩;have:=iH(r:=none)hl;exact⟨this.os,this.tape,this.output,this.size,fun k hk=>this.block k hk(by simp)⟩
       have n3:=fun d os=>cell_regrown m3 d os
       have n4:=fun d os=>cell_regrown m4 d os
       have s0:(0:Int)<=(j:Int):=by omega
       have s1:(j:Int)<LI.length:=by omega
       have s2:(yc.length:Int)<=17592186043904:=by omega
       have s3:(0:Int)<=(yc.length:Int):=by omega
       have s4:(yc.length:Int)<=(yc.length:Int)+2:=by omega
       have s5:(yc.length:Int)<(yc.length:Int)+2:=by omega
       have s6:(yc.length:Int)+1<(yc.length:Int)+2:=by omega
       have az:=hZ ab;clear hC hD y1 y2 y3 y4 r2 r3 aL ay ab ar;go_wp2_with fail
       refine wp_region_quiet_below(by kernel_rfl)(by kernel_rfl) ?_;repeat(quiet_step(exact ac _ _))
       refine wpQuiet_nil ?_;intro w8 aj;obtain⟨⟨dq,aD⟩,aj⟩:=aj;have ak:=below_regrown w7 dq aD;rw [<-aj]at ak;have aa:w8.heap[yg]?=some(.cells(kx yc)3(0,0)):=by rw [ak.block yg(Array.getElem?_eq_some_iff.1 az.out).1];exact az.out
       have p0:w8.cell?⟨yg,yc.length,none⟩=some(.int .i64(-77000000)):=by simp only [World.cell?,aa];exact vK yc
       have p1:w8.cell?⟨yg,yc.length+1,none⟩=some(.int .i64(-77000000)):=by simp only [World.cell?,aa];exact vS yc
       have av:Hid(Chg w w8(fun g=>(g∈LR.map(·.1)\/g∈LC.map(·.1))\/g∈(LI.take(j+1)).map(·.1))/\∃ R:Array Value,R.size=yc.length+2/\w8.heap[yg]?=some(.cells R 3(0,0))):=
        ⟨(HG.out.below ak).mono(fun g e=>e.imp id(fun e=>by rw [al.out];exact List.mem_append.2(Or.inl e))),_,xX yc,aa⟩
       have ah:(yg∈LR.map(·.1)\/yg∈LC.map(·.1))\/yg∈(LI.take(j+1)).map(·.1):=Or.inr(by rw [al.out];exact List.mem_append.2(Or.inr(by simp)));clear aj ac n3 n4 ak m2 m3 m4 k0 aa az;go_wp2_with fail
       clear p0 p1;go_loopw [20](fun kv w'=>∃ k:Nat,k<=yc.length+2/\kv= .int .i64 k/\Hid(Chg w w'(fun g=>(g∈LR.map(·.1)\/g∈LC.map(·.1))\/g∈(LI.take(j+1)).map(·.1))/\∃ R:Array Value,R.size=yc.length+2/\w'.heap[yg]?=some(.cells R 3(0,0))))(fun kv _=>yc.length+2 - (intOf kv).toNat)
       case atStart=>exact⟨0,by omega,rfl,av⟩
       case round=>
        clear av;obtain⟨k,hk,rfl,HO⟩:=hrel;obtain⟨w9,au⟩:∃ w9,w9=wr:=⟨_,rfl⟩;rw [<-au]at HO ⊢;clear au;by_cases bi:k<yc.length+2
        ·obtain⟨aq,R,ax,af⟩:=HO.out;obtain⟨u0,y0⟩:∃ u,w9.cell?⟨yg,k,none⟩=some u:=⟨R[k]'(by omega),by simp only [World.cell?,af];exact Array.getElem?_eq_getElem _⟩;have v0:w9.frozen?⟨yg,k,none⟩=false:=by simp [World.frozen?,af]
         have aC:Hid(Chg w(w9.setCell⟨yg,k,none⟩(.int .i64 3))(fun g=>(g∈LR.map(·.1)\/g∈LC.map(·.1))\/g∈(LI.take(j+1)).map(·.1))/\∃ R:Array Value,R.size=yc.length+2/\(w9.setCell⟨yg,k,none⟩(.int .i64 3)).heap[yg]?=some(.cells R 3(0,0))):=
          ⟨aq.set ah,R.setIfInBounds k(.int .i64 3),by simpa using ax,heap_setCell_same w9 yg k R _ _ af⟩
         have z0:(0:Int)<=(k:Int):=by omega
         have z1:(k:Int)<(yc.length:Int)+2:=by omega
         clear af ax aq;go_wp2_with fail
         go_roundw
         case rel=>exact⟨k+1,by omega,by go_num,aC⟩
         case measure=>simp [intOf];omega
        ·have z1:(yc.length:Int)+2<=(k:Int):=by omega
         go_wp2_with fail
         go_roundw
         case rel=>exact⟨j+1,by omega,rfl,by go_num,hZ HO.out.1⟩
         case measure=>simp [intOf];omega
      ·have t3:(LI.length:Int)<=(j:Int):=by omega
       have an:HB w7 b f:=HX.out.hs.1.blk.same(HG.out.blk b HX.out.low.2 am);have aQ:=hZ(HX.out.free HG.out ag);have x4:w7.cell?⟨b,4,none⟩=some(f 4):=an.cell(by omega);have x2:w7.cell?⟨b,2,none⟩=some(f 2):=an.cell(by omega);have x3:w7.cell?⟨b,3,none⟩=some(f 3):=an.cell(by omega);have x0:w7.cell?⟨b,0,none⟩=some(f 0):=an.cell(by omega);have x1:w7.cell?⟨b,1,none⟩=some(f 1):=an.cell(by omega);rw [aP.out]at x0;have f4:=an.frozen 4;have f2:=an.frozen 2;have f3:=an.frozen 3;have f0:=an.frozen 0;have f1:=an.frozen 1;clear an k0;go_wp2_with fail
       go_ret;obtain⟨f',h1,h2⟩:=aQ.out;exact⟨rfl,⟨f',h1⟩,h2⟩
end
end Go.Proofs.YtklenjmfalljgabGreatDoor
