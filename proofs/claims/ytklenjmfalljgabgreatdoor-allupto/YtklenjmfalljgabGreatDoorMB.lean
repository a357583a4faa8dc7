/- The texts Mk2 New New2 Rep Awk PureB Sch Sch2 Bas Ctr Rfa Rfb Rfc Rfd. -/
import Derived.Test.YtklenjmfalljgabGreatDoorMA
import Derived.WalkSpells
import Derived.WalkLawsBesides
import Derived.Deep.Light
import Derived.Lib.QuietBelow
import Derived.BigQuiet
import Derived.Deep.QuietTactic
import Derived.Deep.DeepCutAuto
import Derived.Deep.Cut
import Derived.Deep.AppendLies
namespace Go.Proofs.YtklenjmfalljgabGreatDoor
set_option maxRecDepth 100000
set_option maxHeartbeats 8000000
section
open Go.RowKit
attribute [local go_sem] Go.World.cell?_alloc_some
theorem Made.grow {w0 w w':World} {t:Nat} {i:Ins} {e:Ending}(h:Made w t i e w')(hg:w0.grownBy w none):Made w0 t i e w':=by
 obtain⟨v,h1,h2,h3⟩:=h;exact⟨v,h1,fun w2 hw2=>h2 w2 fun k hk hk2=>hw2 k(Nat.le_trans hg.size hk)hk2,ic hg h3⟩
theorem vN(t:Nat)(i:Ins)(h:i.op=1)(w:World):Calls Tryz.prog 79 #[.int .i64 t, .agg #[.int .i64 1, .int .i64 i.a, .int .i64 i.b, .int .i64 i.n]]w(Made w t i):=by
 have H:Hid(i.op=1):=h;clear h;go_enter Tryz.func79,Tryz.ntmps79
 go_wp2_with fail
 go_quiet(fail)
 go_wp2_with fail
 refine(Ge t i H.out _).mono ?_;rintro e w1⟨v,rfl,ha,hg⟩;have HA:=hZ ha;have HG:=hZ hg;clear ha hg;go_wp2_with fail
 go_ret;exact Made.grow(w:=_)⟨v,rfl,HA.out,HG.out⟩(iU _(ij(il _ _)))
theorem vB(t:Nat)(i:Ins)(h:i.op=2)(w:World):Calls Tryz.prog 79 #[.int .i64 t, .agg #[.int .i64 2, .int .i64 i.a, .int .i64 i.b, .int .i64 i.n]]w(Made w t i):=by
 have H:Hid(i.op=2):=h;clear h;go_enter Tryz.func79,Tryz.ntmps79
 go_wp2_with fail
 go_quiet(fail)
 go_wp2_with fail
 refine(EX t i H.out _).mono ?_;rintro e w1⟨v,rfl,ha,hg⟩;have HA:=hZ ha;have HG:=hZ hg;clear ha hg;go_wp2_with fail
 go_ret;exact Made.grow(w:=_)⟨v,rfl,HA.out,HG.out⟩(iU _(ij(il _ _)))
theorem vl(t:Nat)(i:Ins)(h:i.op=3)(w:World):Calls Tryz.prog 79 #[.int .i64 t, .agg #[.int .i64 3, .int .i64 i.a, .int .i64 i.b, .int .i64 i.n]]w(Made w t i):=by
 have H:Hid(i.op=3):=h;clear h;go_enter Tryz.func79,Tryz.ntmps79
 go_wp2_with fail
 go_quiet(fail)
 go_wp2_with fail
 refine(DJ t i H.out _).mono ?_;rintro e w1⟨v,rfl,ha,hg⟩;have HA:=hZ ha;have HG:=hZ hg;clear ha hg;go_wp2_with fail
 go_ret;exact Made.grow(w:=_)⟨v,rfl,HA.out,HG.out⟩(iU _(ij(il _ _)))
theorem vL(t:Nat)(i:Ins)(h:i.op=4)(w:World):Calls Tryz.prog 79 #[.int .i64 t, .agg #[.int .i64 4, .int .i64 i.a, .int .i64 i.b, .int .i64 i.n]]w(Made w t i):=by
 have H:Hid(i.op=4):=h;clear h;go_enter Tryz.func79,Tryz.ntmps79
 go_wp2_with fail
 go_quiet(fail)
 go_wp2_with fail
 refine(Gs t i H.out _).mono ?_;rintro e w1⟨v,rfl,ha,hg⟩;have HA:=hZ ha;have HG:=hZ hg;clear ha hg;go_wp2_with fail
 go_ret;exact Made.grow(w:=_)⟨v,rfl,HA.out,HG.out⟩(iU _(ij(il _ _)))
theorem vQ(t:Nat)(i:Ins)(h:i.op=5)(w:World):Calls Tryz.prog 79 #[.int .i64 t, .agg #[.int .i64 5, .int .i64 i.a, .int .i64 i.b, .int .i64 i.n]]w(Made w t i):=by
 have H:Hid(i.op=5):=h;clear h;go_enter Tryz.func79,Tryz.ntmps79
 go_wp2_with fail
 go_quiet(fail)
 go_wp2_with fail
 refine(FU t i H.out _).mono ?_;rintro e w1⟨v,rfl,ha,hg⟩;have HA:=hZ ha;have HG:=hZ hg;clear ha hg;go_wp2_with fail
 go_ret;exact Made.grow(w:=_)⟨v,rfl,HA.out,HG.out⟩(iU _(ij(il _ _)))
theorem vH(t:Nat)(i:Ins)(h:i.op=6)(w:World):Calls Tryz.prog 79 #[.int .i64 t, .agg #[.int .i64 6, .int .i64 i.a, .int .i64 i.b, .int .i64 i.n]]w(Made w t i):=by
 have H:Hid(i.op=6):=h;clear h;go_enter Tryz.func79,Tryz.ntmps79
 go_wp2_with fail
 go_quiet(fail)
 go_wp2_with fail
 refine(FO t i H.out _).mono ?_;rintro e w1⟨v,rfl,ha,hg⟩;have HA:=hZ ha;have HG:=hZ hg;clear ha hg;go_wp2_with fail
 go_ret;exact Made.grow(w:=_)⟨v,rfl,HA.out,HG.out⟩(iU _(ij(il _ _)))
theorem vR(t:Nat)(i:Ins)(h:i.op=7)(w:World):Calls Tryz.prog 79 #[.int .i64 t, .agg #[.int .i64 7, .int .i64 i.a, .int .i64 i.b, .int .i64 i.n]]w(Made w t i):=by
 have H:Hid(i.op=7):=h;clear h;go_enter Tryz.func79,Tryz.ntmps79
 go_wp2_with fail
 go_quiet(fail)
 go_wp2_with fail
 refine(AR t i H.out _).mono ?_;rintro e w1⟨v,rfl,ha,hg⟩;have HA:=hZ ha;have HG:=hZ hg;clear ha hg;go_wp2_with fail
 go_ret;exact Made.grow(w:=_)⟨v,rfl,HA.out,HG.out⟩(iU _(ij(il _ _)))
theorem vW(t:Nat)(i:Ins)(h:i.op=8)(w:World):Calls Tryz.prog 79 #[.int .i64 t, .agg #[.int .i64 8, .int .i64 i.a, .int .i64 i.b, .int .i64 i.n]]w(Made w t i):=by
 have H:Hid(i.op=8):=h;clear h;go_enter Tryz.func79,Tryz.ntmps79
 go_wp2_with fail
 go_quiet(fail)
 go_wp2_with fail
 refine(Ef t i H.out _).mono ?_;rintro e w1⟨v,rfl,ha,hg⟩;have HA:=hZ ha;have HG:=hZ hg;clear ha hg;go_wp2_with fail
 go_ret;exact Made.grow(w:=_)⟨v,rfl,HA.out,HG.out⟩(iU _(ij(il _ _)))
theorem vp(t:Nat)(i:Ins)(h:i.op=9)(w:World):Calls Tryz.prog 79 #[.int .i64 t, .agg #[.int .i64 9, .int .i64 i.a, .int .i64 i.b, .int .i64 i.n]]w(Made w t i):=by
 have H:Hid(i.op=9):=h;clear h;go_enter Tryz.func79,Tryz.ntmps79
 go_wp2_with fail
 go_quiet(fail)
 go_wp2_with fail
 refine(FB t i H.out _).mono ?_;rintro e w1⟨v,rfl,ha,hg⟩;have HA:=hZ ha;have HG:=hZ hg;clear ha hg;go_wp2_with fail
 go_ret;exact Made.grow(w:=_)⟨v,rfl,HA.out,HG.out⟩(iU _(ij(il _ _)))
theorem t8(t:Nat)(i:Ins)(h:i.op=10)(w:World):Calls Tryz.prog 79 #[.int .i64 t, .agg #[.int .i64 10, .int .i64 i.a, .int .i64 i.b, .int .i64 i.n]]w(Made w t i):=by
 have H:Hid(i.op=10):=h;clear h;go_enter Tryz.func79,Tryz.ntmps79
 go_wp2_with fail
 go_quiet(fail)
 go_wp2_with fail
 refine(zC t i H.out _).mono ?_;rintro e w1⟨v,rfl,ha,hg⟩;have HA:=hZ ha;have HG:=hZ hg;clear ha hg;go_wp2_with fail
 go_ret;exact Made.grow(w:=_)⟨v,rfl,HA.out,HG.out⟩(iU _(ij(il _ _)))
theorem uf(t:Nat)(i:Ins)(h:i.op=11)(w:World):Calls Tryz.prog 79 #[.int .i64 t, .agg #[.int .i64 11, .int .i64 i.a, .int .i64 i.b, .int .i64 i.n]]w(Made w t i):=by
 have H:Hid(i.op=11):=h;clear h;go_enter Tryz.func79,Tryz.ntmps79
 go_wp2_with fail
 go_quiet(fail)
 go_wp2_with fail
 refine(BJ t i H.out _).mono ?_;rintro e w1⟨v,rfl,ha,hg⟩;have HA:=hZ ha;have HG:=hZ hg;clear ha hg;go_wp2_with fail
 go_ret;exact Made.grow(w:=_)⟨v,rfl,HA.out,HG.out⟩(iU _(ij(il _ _)))
theorem vz(t:Nat)(i:Ins)(h1:1<=i.op)(h2:i.op<=11)(w:World):Calls Tryz.prog 79 #[.int .i64 t, .agg #[.int .i64 i.op, .int .i64 i.a, .int .i64 i.b, .int .i64 i.n]]w(Made w t i):=by
 have hc:i.op=1\/i.op=2\/i.op=3\/i.op=4\/i.op=5\/i.op=6\/i.op=7\/i.op=8\/i.op=9\/i.op=10\/i.op=11:=by omega
 rcases hc with e | e | e | e | e | e | e | e | e | e | e
 ·rw [e];exact vN t i e w
 ·rw [e];exact vB t i e w
 ·rw [e];exact vl t i e w
 ·rw [e];exact vL t i e w
 ·rw [e];exact vQ t i e w
 ·rw [e];exact vH t i e w
 ·rw [e];exact vR t i e w
 ·rw [e];exact vW t i e w
 ·rw [e];exact vp t i e w
 ·rw [e];exact t8 t i e w
 ·rw [e];exact uf t i e w
theorem yC {w:World} {g:Nat} {x0 x1 x2 x3:Value} {t:TypeId}(h:w.heap[g]?=some(.cells #[x0,x1,x2,x3]t(0,0))):
  w.cell?⟨g,0,none⟩=some x0/\w.cell?⟨g,1,none⟩=some x1/\w.cell?⟨g,2,none⟩=some x2/\w.cell?⟨g,3,none⟩=some x3/\(∀ o,w.frozen?⟨g,o,none⟩=false):=by
 simp [World.cell?,World.frozen?,h]
def C5(w:World)(t:Nat)(i:Ins)(e:Ending)(w':World):Prop:=
 ∃ kf caps,e= .returned(.agg #[.func(.func kf) #[]caps, .bool(i.op==9), .int .i64(if i.op=9 then i.a else 0)])/\(∀ w2:World,(∀ k,w.heap.size<=k->k<w'.heap.size->w2.heap[k]?=w'.heap[k]?)->ActIs w'.heap.size w2(.func(.func kf) #[]caps)t i)/\w.grownBy w' none
theorem ActIs.form {B:Nat} {w:World} {v:Value} {t:Nat} {i:Ins}(h:ActIs B w v t i):∃ kf caps,v= .func(.func kf) #[]caps:=by
 obtain⟨x,y,z,u,_,_,_,_,h⟩:=h;rcases h with⟨_,e,_⟩ | ⟨_,e,_⟩ | ⟨_,e,_⟩ | ⟨_,_,e,_⟩ | ⟨_,e,_⟩ | ⟨_,e,_⟩ | ⟨_,e,_⟩ | ⟨_,e,_⟩ | ⟨_,e,_⟩<;>exact⟨_,_,e⟩
theorem yL(t:Nat)(i:Ins)(h1:1<=i.op)(h2:i.op<=11)(w:World):Calls Tryz.prog 49 #[.int .i64 t, .agg #[.int .i64 i.op, .int .i64 i.a, .int .i64 i.b, .int .i64 i.n]]w(C5 w t i):=by
 go_enter Tryz.func49,Tryz.ntmps49
 go_wp2_with fail
 refine(vz t i h1 h2 _).mono ?_;rintro e w1⟨v,rfl,ha,hg⟩;obtain⟨kf,aa,rfl⟩:=(ha w1 fun _ _ _=>rfl).form;have HA:=hZ ha;have HG:=hZ hg;have hsz:w.heap.size+2<=w1.heap.size:=by have:=hg.size;simpa using this
 have ae:w1.heap[w.heap.size]?=some(.cells #[.int .i64 i.op, .int .i64 i.a, .int .i64 i.b, .int .i64 i.n]65(0,0)):=by
  rw [hg.block _(by simp;omega)(by simp),Below.heap_alloc _ _ _(by simp)];exact heap_alloc_new w _
 have ac:w1.heap[w.heap.size+1]?=some(.cells #[.nilFunc, .bool false, .int .i64 0]115(0,0)):=by
  rw [hg.block _(by simp)(by simp)];have:=heap_alloc_new(w.alloc(.cells #[.int .i64 i.op, .int .i64 i.a, .int .i64 i.b, .int .i64 i.n]65))(.cells #[.nilFunc, .bool false, .int .i64 0]115);simpa using this
 clear ha hg;obtain⟨c0,c1,c2,c3,_⟩:=yC ae;obtain⟨d0,d1,d2,df⟩:=l8 ac;have dfa:∀ (o:Obj)(k:Nat),(w1.alloc o).frozen?⟨w.heap.size+1,k,none⟩=false:=fun o k=>by
  rw [World.frozen?_alloc_old _ _ _(by simp;omega)];exact df k
 clear df ae ac c2 c3;have ad:Hid(w.grownBy w1 none):=ic(ij(ij(il _ _)))HG.out;by_cases h9:i.op=9
 ·have H9:=hZ h9;have hq:(i.op==9)=true:=by simpa using h9
  clear h9;go_wp2_with fail
  refine bodyPost_ret(v:= .agg #[.func(.func kf) #[]aa, .bool true, .int .i64 i.a]) ?_ rfl⟨kf,aa, ?_, ?_, ?_⟩
  ·simp [results,Tryz.results49,go_sem,d0,d1,d2]
  ·rw [hq,if_pos H9.out]
  ·intro w2 ab;refine(HA.out _ fun k hk hk2=> ?_).mono(by simp);rw [ab k(by simp at hk;omega)(by simp;omega)];have af:w.heap.size+2<=k:=by simpa using hk
   rw [Below.heap_setCell _ _ _ _(by simp;omega),Below.heap_setCell _ _ _ _(by simp;omega),Below.heap_setCell _ _ _ _(by simp;omega),Below.heap_alloc _ _ _ hk2]
  ·iterate 3 refine iC ?_(by omega)
   exact ij ad.out
 ·have H9:=hZ h9;have hq:(i.op==9)=false:=by simpa using h9
  clear h9;go_wp2_with fail
  refine bodyPost_ret(v:= .agg #[.func(.func kf) #[]aa, .bool false, .int .i64 0]) ?_ rfl⟨kf,aa, ?_, ?_, ?_⟩
  ·simp [results,Tryz.results49,go_sem,d0,d1,d2]
  ·rw [hq,if_neg H9.out]
  ·intro w2 ab;refine(HA.out _ fun k hk hk2=> ?_).mono(by simp);rw [ab k(by simp at hk;omega)(by simp;omega)];have af:w.heap.size+2<=k:=by simpa using hk
   rw [Below.heap_setCell _ _ _ _(by simp;omega),Below.heap_setCell _ _ _ _(by simp;omega),Below.heap_setCell _ _ _ _(by simp;omega),Below.heap_alloc _ _ _ hk2]
  ·iterate 3 refine iC ?_(by omega)
   exact ij ad.out
end
section
open Go.RowKit
attribute [local go_sem] Go.World.cell?_alloc_some
def uA(kf:Nat)(caps:Array Value)(i:Ins):List Value:= [.func(.func kf) #[]caps, .bool(i.op==9), .int .i64(if i.op=9 then i.a else 0)]
def FF(a b:Nat)(w:World)(v:Value)(t:Nat)(i:Ins):Prop:=∀ w':World,(∀ k,a<=k->k<b->w'.heap[k]?=w.heap[k]?)->ActIs b w' v t i
def MovesIn(L B:Nat)(w:World)(own:Option Nat)(xs:List Value)(t:Nat)(c:List Ins):Prop:=
 ∀ k(hk:k<c.length),∃ kf caps a b,xs[k*3]?=some(.func(.func kf) #[]caps)/\xs[k*3+1]?=some(.bool(c[k].op==9))/\xs[k*3+2]?=some(.int .i64(if c[k].op=9 then c[k].a else 0))/\
  L<=a/\b<=B/\(∀ h,own=some h->h<a\/b<=h)/\FF a b w(.func(.func kf) #[]caps)t c[k]
theorem MovesIn.step {L B:Nat} {w w':World} {own r:Option Nat} {xs:List Value} {t:Nat} {c:List Ins}(h:MovesIn L B w own xs t c)(hB:B<=w.heap.size)(hg:w.grownBy w' r)(hr:∀ q,r=some q->own=some q\/q<L\/B<=q):MovesIn L B w' own xs t c:=by
 intro k hk;obtain⟨kf,aa,a,b,h1,h2,h3,h4,h5,h6,h7⟩:=h k hk;refine⟨kf,aa,a,b,h1,h2,h3,h4,h5,h6,fun w2 hw2=>h7 w2 fun q hq hq2=> ?_⟩;rw [hw2 q hq hq2,hg.block q(by omega)(fun e=>by
  rcases hr q e.symm with e2 | e2 | e2
  ·rcases h6 q e2 with e3 | e3<;>omega
  ·omega
  ·omega)]
theorem MovesIn.mono {L B B':Nat} {w:World} {own:Option Nat} {xs:List Value} {t:Nat} {c:List Ins}(h:MovesIn L B w own xs t c)(hB:B<=B'):MovesIn L B' w own xs t c:=by
 intro k hk;obtain⟨kf,aa,a,b,h1,h2,h3,h4,h5,h6,h7⟩:=h k hk;exact⟨kf,aa,a,b,h1,h2,h3,h4,by omega,h6,h7⟩
theorem MovesIn.reown {L B g:Nat} {w:World} {own:Option Nat} {xs:List Value} {t:Nat} {c:List Ins}(h:MovesIn L B w own xs t c)(ab:own=some g\/B<=g):MovesIn L B w(some g)xs t c:=by
 intro k hk;obtain⟨kf,aa,a,b,h1,h2,h3,h4,h5,h6,h7⟩:=h k hk;refine⟨kf,aa,a,b,h1,h2,h3,h4,h5,fun q e=> ?_,h7⟩;cases e
 rcases ab with e | e
 ·exact h6 _ e
 ·exact Or.inr(by omega)
theorem MovesIn.snoc {L B:Nat} {w:World} {own:Option Nat} {xs:List Value} {t:Nat} {c:List Ins} {i:Ins} {kf:Nat} {aa:Array Value} {a b:Nat}(h:MovesIn L B w own xs t c)(hl:xs.length=c.length*3)
  (ha:L<=a)(hb:b<=B)(ho:∀ h,own=some h->h<a\/b<=h)(hA:FF a b w(.func(.func kf) #[]aa)t i):
  MovesIn L B w own(xs++uA kf aa i)t(c++ [i]):=by
 intro k hk;by_cases ac:k<c.length
 ·obtain⟨ad,ab,a',b',h1,h2,h3,h4⟩:=h k ac;have e:(c++ [i])[k]=c[k]:=List.getElem_append_left ac;refine⟨ad,ab,a',b', ?_, ?_, ?_, ?_⟩
  ·rw [List.getElem?_append_left(by omega)];exact h1
  ·rw [List.getElem?_append_left(by omega),e];exact h2
  ·rw [List.getElem?_append_left(by omega),e];exact h3
  ·rw [e];exact h4
 ·have ek:k=c.length:=by simp at hk;omega
  subst ek;have e:(c++ [i])[c.length]=i:=by simp
  refine⟨kf,aa,a,b, ?_, ?_, ?_,ha,hb,ho, ?_⟩
  ·rw [List.getElem?_append_right(by omega),hl];simp [uA]
  ·rw [List.getElem?_append_right(by omega),hl,e];have:c.length*3+1 - c.length*3=1:=by omega
   rw [this];rfl
  ·rw [List.getElem?_append_right(by omega),hl,e];have:c.length*3+2 - c.length*3=2:=by omega
   rw [this];rfl
  ·rw [e];exact hA
def Fin(L B:Nat)(w:World)(rows:Array Value)(t:Nat)(p:List(List Ins)):Prop:=
 ∀ j,j<t->∃ v xs,rows[j]?=some v/\w.ownsRow L 115 3 v(iL p j).length xs/\(∀ h,v.ownBlock=some h->h<B)/\MovesIn L B w v.ownBlock xs j(iL p j)
theorem Fin.step {L B:Nat} {w w':World} {rows:Array Value} {t:Nat} {p:List(List Ins)} {r:Option Nat}(h:Fin L B w rows t p)(ab:B<=w.heap.size)(hg:w.grownBy w' r)(hr:∀ k,r=some k->k<L\/B<=k):Fin L B w' rows t p:=by
 intro j hj;obtain⟨v,xs,h1,h2,h3,h4⟩:=h j hj;refine⟨v,xs,h1, ?_,h3,h4.step ab hg(fun q e=>Or.inr(hr q e))⟩;obtain⟨q1,q2⟩:=h2;refine⟨q1, ?_⟩;rcases q2 with q2 | ⟨g,cap,cur,hv,hb,hh,rest⟩
 ·exact Or.inl q2
 ·have aa:g<w.heap.size:=(Array.getElem?_eq_some_iff.1 hh).1;have hB:=h3 g(by rw [hv];rfl);refine Or.inr⟨g,cap,cur,hv,hb, ?_,rest⟩;rw [hg.block g aa(fun e=>by have:=hr g e.symm;omega)];exact hh
theorem Fin.rows {L B:Nat} {w:World} {rows:Array Value} {t u:Nat} {x:Value} {p:List(List Ins)}(h:Fin L B w rows t p)(hu:t<=u):Fin L B w(rows.setIfInBounds u x)t p:=by
 intro j hj;obtain⟨v,xs,h1,h2,h3,h4⟩:=h j hj;exact⟨v,xs,by rw [Array.getElem?_setIfInBounds_ne(by omega)];exact h1,h2,h3,h4⟩
theorem Fin.mono {L B B':Nat} {w:World} {rows:Array Value} {t:Nat} {p:List(List Ins)}(h:Fin L B w rows t p)(hb:B<=B'):Fin L B' w rows t p:=by
 intro j hj;obtain⟨v,xs,h1,h2,h3,h4⟩:=h j hj;exact⟨v,xs,h1,h2,fun h e=>Nat.lt_of_lt_of_le(h3 h e)hb,h4.mono hb⟩
theorem Fin.succ {L B:Nat} {w:World} {rows:Array Value} {t:Nat} {p:List(List Ins)} {v:Value} {xs:List Value}(h:Fin L B w rows t p)(h1:rows[t]?=some v)(h2:w.ownsRow L 115 3 v(iL p t).length xs)
  (h3:∀ h,v.ownBlock=some h->h<B)(h4:MovesIn L B w v.ownBlock xs t(iL p t)):Fin L B w rows(t+1)p:=by
 intro j hj;by_cases e:j=t
 ·subst e;exact⟨v,xs,h1,h2,h3,h4⟩
 ·exact h j(by omega)
theorem Fin.rowIs {L B:Nat} {w:World} {rows:Array Value} {t:Nat} {p:List(List Ins)}(h:Fin L B w rows t p) {j:Nat}(hj:j<t):∃ v,rows[j]?=some v/\RowIs B w v j(iL p j):=by
 obtain⟨v,xs,h1,h2,h3,h4⟩:=h j hj;refine⟨v,h1, ?_⟩;rcases h2.2 with⟨e,e0⟩ | ⟨g,cap,cur,hv,hb,hh,hrest⟩
 ·exact Or.inl⟨List.length_eq_zero_iff.1 e0,e⟩
 ·refine Or.inr⟨g,cap,hv,h3 g(by rw [hv];rfl),fun k hk=> ?_⟩;obtain⟨kf,aa,a,b,q1,q2,q3,q4,q5,q6,q7⟩:=h4 k hk;rw [hv]at h2;have hc:=fun j hj=>h2.cellAt j hj
  exact⟨kf,aa,by rw [hc _(by omega)];exact q1,(q7 w fun _ _ _=>rfl).mono q5,by rw [hc _(by omega)];exact q2,by rw [hc _(by omega)];exact q3⟩
theorem Bq:((Tryz.prog.info? 115).map fun i=>(i.zero,i.size,i.bytes))=some(some(.agg #[.nilFunc, .bool false, .int .i64 0]),3,24):=by kernel_rfl
theorem Du:((Tryz.prog.info? 111).map fun i=>(i.zero,i.size,i.bytes))=some(some(.slice none 0 0),1,24):=by kernel_rfl
end
section
open Go.RowKit
attribute [local go_sem] Go.World.cell?_alloc_some
def CP(w0:World)(L Bt g m n t k:Nat)(p:List(List Ins))(w:World):Prop:=
 ∃ rows v xs,w.heap[g]?=some(.cells rows 111(0,0))/\rows.size=n/\rows[t]?=some v/\w.ownsRow Bt 115 3 v k xs/\MovesIn L w.heap.size w v.ownBlock xs t((iL p t).take k)/\
  Fin L Bt w rows t p/\(∀ j,t<j->j<n->rows[j]?=some(.slice none 0 0))/\w.cell?⟨m,0,none⟩=some(.slice(some⟨g,0,none⟩)n n)/\w0.grownBy w none/\L<=Bt/\Bt<=w.heap.size/\g<L/\m<L/\g≠m/\w0.heap.size<=g
theorem yn {w0:World} {L Bt g m n t k:Nat} {p:List(List Ins)} {wr w4 w5:World} {rows:Array Value} {v:Value} {xs:List Value} {kf:Nat} {ab:Array Value} {i:Ins} {E:Obj} {g2 aa:Nat}
  (j1:wr.heap[g]?=some(.cells rows 111(0,0)))(j2:rows.size=n)(j4:wr.ownsRow Bt 115 3 v k xs)(j5:MovesIn L wr.heap.size wr v.ownBlock xs t((iL p t).take k))
  (j6:Fin L Bt wr rows t p)(j7:∀ j,t<j->j<n->rows[j]?=some(.slice none 0 0))(j9:w0.grownBy wr none)(aq:L<=Bt)(am:Bt<=wr.heap.size)(ah:g<L)(au:m<L)(aj:g≠m)(al:w0.heap.size<=g)
  (ht:t<n)(hk:k<(iL p t).length)(hi:(iL p t)[k]=i)
  (ai:∀ u:World,(∀ q,wr.heap.size+1<=q->q<w4.heap.size->u.heap[q]?=w4.heap[q]?)->ActIs w4.heap.size u(.func(.func kf) #[]ab)t i)(ar:wr.grownBy w4 none)(hsz4:wr.heap.size+1<=w4.heap.size)
  (ae:w5.ownsRow Bt 115 3(.slice(some⟨g2,0,none⟩)(k+1)aa)(k+1)(xs++uA kf ab i))(ac:(w4.alloc E).grownBy w5 v.ownBlock)(ak:v.ownBlock=some g2\/g2=w4.heap.size+1)
  (s1:w5.cell?⟨m,0,none⟩=some(.slice(some⟨g,0,none⟩)n n)):
  CP w0 L Bt g m n t(k+1)p(w5.setCell⟨g,t,none⟩(.slice(some⟨g2,0,none⟩)(k+1)aa)):=by
 have ad:∀ q,v.ownBlock=some q->Bt<=q/\q<wr.heap.size:=fun q e=>⟨iw j4 q e,by
  rcases j4.2 with⟨e1,_⟩ | ⟨g',_,_,hv,_,hh,_⟩
  ·rw [e1]at e;cases e
  ·rw [hv]at e;have:=(Array.getElem?_eq_some_iff.1 hh).1;simp [Value.ownBlock]at e;omega⟩
 have ag:wr.grownBy(w4.alloc E)none:=ij ar;have aw:=ac.size;simp only [World.size_alloc]at aw;have an:g<wr.heap.size:=by omega
 have ax:w5.heap[g]?=some(.cells rows 111(0,0)):=by
  rw [ac.block g(by simp;omega)(fun e=>by have:=ad g e.symm;omega),ag.block g an(by simp)];exact j1
 have af:w5.grownBy(w5.setCell⟨g,t,none⟩(.slice(some⟨g2,0,none⟩)(k+1)aa))(some g):=iS;have ao:∀ q,wr.heap.size+1<=q->q<w4.heap.size->(w5.setCell⟨g,t,none⟩(.slice(some⟨g2,0,none⟩)(k+1)aa)).heap[q]?=w4.heap[q]?:=fun q h1 h2=>by
  rw [Below.heap_setCell _ _ _ _(by simp;omega),ac.block q(by simp;omega)(fun e=>by have:=ad q e.symm;omega),Below.heap_alloc _ _ _ h2]
 have av:MovesIn L wr.heap.size w5 v.ownBlock xs t((iL p t).take k):=(j5.step(Nat.le_refl _)ag(fun q e=>by cases e)).step(by simp;omega)ac(fun q e=>Or.inl e);have ap:=(av.reown(g:=g2)(ak.imp id(fun e=>by omega))).step(by omega)af(fun q e=>by cases e;exact Or.inr(Or.inl ah));refine⟨rows.setIfInBounds t(.slice(some⟨g2,0,none⟩)(k+1)aa), .slice(some⟨g2,0,none⟩)(k+1)aa,xs++uA kf ab i,heap_setCell_same w5 g t rows _ _ ax,by simp [j2],by simp [j2,ht],ownsRow_setCell_below ae(by simp;omega)_, ?_, ?_, ?_, ?_, ?_,aq,by simp;omega,ah,au,aj,al⟩
 ·rw [List.take_succ_eq_append_getElem hk,hi];refine MovesIn.snoc(a:=wr.heap.size+1)(b:=w4.heap.size)(ap.mono(by simp;omega))(by rw [j4.1];simp;omega)(by omega)(by simp;omega)(fun h e=> ?_)(fun u hu=>ai u fun q h1 h2=>by rw [hu q h1 h2,ao q h1 h2]);have e':h=g2:=by simp [Value.ownBlock]at e;omega
  subst e';rcases ak with e2 | e2
  ·have:=ad _ e2;omega
  ·omega
 ·exact(((j6.step am ag(fun q e=>by cases e)).step(by simp;omega)ac(fun q e=>Or.inr(ad q e).1)).step(by omega)af(fun q e=>by cases e;exact Or.inl ah)).rows(Nat.le_refl _)
 ·intro j h1 h2;rw [Array.getElem?_setIfInBounds_ne(by omega)];exact j7 j h1 h2
 ·rw [World.cell?_setCell_far _ _ _ _(by simpa using aj)];exact s1
 ·exact iC(jD(ic j9 ag)ac(fun q e=>by have:=ad q e;omega))al
theorem Ab {p:List(List Ins)} {pv:Value} {w:World}(hp:iR p=true)(hP:ProgAt w pv p):
  Calls Tryz.prog 16 #[pv]w fun e w'=>∃ m,e= .returned(.pointer(some⟨m,0,none⟩))/\MachAt w'.heap.size w' m p/\w.grownBy w' none:=by
 obtain⟨i0,a9,aZ,a1,aX⟩:=info_parts Du;obtain⟨i1,aU,hy0,hy1,hy2⟩:=info_parts Bq;obtain⟨ao,a4,rfl,hP⟩:=hP;have hlen:=ju hp;have HP:=hZ hP;have HV:=hZ hp;clear hp hP;have h4:(p.length:Int)<=4:=by omega
 go_enter Tryz.func16,Tryz.ntmps16
 go_wp2_with(at_make;refine wpList_make_full _ rfl _ _ _ rfl(w.heap.size+1)111 i0 _ 1 Tryz.underlying108 a9 aZ a1 .i64 .i64 _ _ p.length rfl rfl rfl rfl(by rw [aX];omega)(by unfold maxLen;omega)(by simp) ?_;intro w2 af az;have a7:w2.cell?⟨w.heap.size,0,none⟩=some(.slice ao p.length a4):=(by rw [az.cell_far _(by simp)(by simp)];simp))
 have a5:Hid(w.grownBy w2 none):=ic(ij(il _ _))az;have hsz2:w.heap.size+2<=w2.heap.size:=by
  obtain⟨cur,ay,_⟩:=te af;have:=(Array.getElem?_eq_some_iff.1 ay).1;simp at this;omega
 have HR:Hid(∃ rows:Array Value,w2.heap[w.heap.size+1]?=some(.cells rows 111(0,0))/\rows.size=p.length/\∀ j,j<p.length->rows[j]?=some(.slice none 0 0)):=by
  rcases af.2 with⟨e,_⟩ | ⟨g,c,cur,hv,_,hh,_,_,hs,ht⟩
  ·cases e
  ·simp at hv;obtain⟨e1,e2⟩:=hv;subst e1;subst e2
   refine⟨cur,hh,by omega,fun j hj=> ?_⟩;have e:cur.toList=(madeCells #[Value.slice none 0 0]p.length).toList:=by
    rw [List.take_of_length_le(by simp;omega)]at ht;simpa [Value.cells]using ht
   rw [<-Array.getElem?_toList,e,toList_madeCells_one];simp [hj]
 clear af az a7;go_loopw [17](fun i w'=>∃ t:Nat,t<=p.length/\i= .int .i64 t/\Hid(∃ rows,w'.heap[w.heap.size+1]?=some(.cells rows 111(0,0))/\rows.size=p.length/\Fin(w2.heap.size+1)w'.heap.size w' rows t p/\(∀ j,t<=j->j<p.length->rows[j]?=some(.slice none 0 0))/\
   w'.cell?⟨w2.heap.size,0,none⟩=some(.slice(some⟨w.heap.size+1,0,none⟩)p.length p.length)/\w.grownBy w' none/\w2.heap.size+1<=w'.heap.size))(fun i _=>p.length - (intOf i).toNat)
 case atStart=>
  obtain⟨rows,h1,h2,h3⟩:=HR.out;refine⟨0,Nat.zero_le _,rfl,rows, ?_,h2,fun j hj=>by omega,fun j _ hj=>h3 j hj, ?_,ij a5.out,by simp⟩
  ·rw [Below.heap_alloc _ _ _(by omega)];exact h1
  ·simp
 case round=>
  obtain⟨t,ht,rfl,HI⟩:=hrel;obtain⟨w3,a8⟩:∃ w3,w3=wr:=⟨_,rfl⟩;subst a8;by_cases ai:t<p.length
  ·obtain⟨pg,po,rfl,rv,aW,ad⟩:=HP.out t ai;obtain⟨ca,aI,rfl,ad⟩:=ad;have hcl:p[t].length<=16:=by have:=lh(kl HV.out ai);rwa [nw ai]at this
   have hcl2:(p[t].length:Int)<=16:=by omega
   have HC:=hZ ad;clear ad;have hrv':w3.cell?⟨pg,po+t,none⟩=some(.slice ca p[t].length aI):=by
    obtain⟨rows,_,_,_,_,_,hg,_⟩:=HI.out;exact ie hg _ _ aW
   have ht0:(0:Int)<=(t:Int):=by omega
   have ht1:(t:Int)<p.length:=by omega
   have HT:Hid(iL p t=p[t]):=nw ai;generalize a2:p[t]=c at*;clear a2;go_wp2_with fail
   go_loopw [24](fun i w'=>∃ k:Nat,k<=c.length/\i= .int .i64 k/\Hid(CP w(w2.heap.size+1)w3.heap.size(w.heap.size+1)w2.heap.size p.length t k p w'))(fun i _=>c.length - (intOf i).toNat)
   case atStart=>
    obtain⟨rows,h1,h2,h3,h4,h5,h6,h7⟩:=HI.out;exact⟨0,Nat.zero_le _,rfl,rows,_, [],h1,h2,h4 t(Nat.le_refl _)ai,⟨rfl,Or.inl⟨rfl,rfl⟩⟩,fun k hk=>by simp at hk,h3,fun j hj hj2=>h4 j(by omega)hj2,h5,h6,h7,Nat.le_refl _,by omega,by omega,by omega,by omega⟩
   case round=>
    obtain⟨k,hk,rfl,aD⟩:=hrel;by_cases aA:k<c.length
    ·obtain⟨cg,co,rfl,c0,c1,c2,c3⟩:=HC.out k aA;have ab:Pres w wr:=by
      obtain⟨rows,v,xs,_,_,_,_,_,_,_,_,hg,_⟩:=aD.out;exact ie hg
     have d0:=ab _ _ c0;have d1:=ab _ _ c1;have d2:=ab _ _ c2;have d3:=ab _ _ c3;clear c0 c1 c2 c3 ab;have hk0:(0:Int)<=(k:Int):=by omega
     have hk1:(k:Int)<c.length:=by omega
     obtain⟨rows,v,xs,j1,j2,j3,j4,j5,j6,j7,j8,j9,aK,ax,aP,aN,aL,aM⟩:=aD.out;have a0:wr.cell?⟨w.heap.size+1,t,none⟩=some v:=by simp [World.cell?,j1,j3]
     have aY:wr.frozen?⟨w.heap.size+1,t,none⟩=false:=by simp [World.frozen?,j1]
     have J4:=hZ j4;have J5:=hZ j5;have J1:=hZ j1;have J2:=hZ j2;have J6:=hZ j6;have J7:=hZ j7;have J9:=hZ j9;clear j1 j2 j3 j4 j5 j6 j7 j9;go_wp2_with fail
     refine iu(fun u=>u.cell?⟨w2.heap.size,0,none⟩=some(.slice(some⟨w.heap.size+1,0,none⟩)p.length p.length)/\u.cell?⟨w.heap.size+1,t,none⟩=some v/\u.cell?⟨wr.heap.size,0,none⟩=some(.int .i64 c[k].op)/\u.cell?⟨wr.heap.size,1,none⟩=some(.int .i64 c[k].a)/\u.cell?⟨wr.heap.size,2,none⟩=some(.int .i64 c[k].b)/\u.cell?⟨wr.heap.size,3,none⟩=some(.int .i64 c[k].n))18(by kernel_rfl)(by kernel_rfl) ?_ ?_
     ·refine⟨?_, ?_, ?_, ?_, ?_, ?_⟩<;>simp [go_sem,j8,a0]
     intro ah;refine hY(i:=0)(v:= ?vv0)rfl(by kernel_rfl)(fun _ _ _ h=>h)(Or.inl⟨by rfl, ?hy0⟩)(by assumption) ?rest0
     case hy0=>(intro u hu;obtain⟨g1,g2,g3,g4,g5,g6⟩:=hu;go_simp;try with_reducible rfl)
     simp only [Act.put,List.setIfInBounds_toArray];refine hY(i:=1)(v:= ?vv1)rfl(by kernel_rfl)(fun _ _ _ h=>h)(Or.inl⟨by rfl, ?hy1⟩)(by assumption) ?rest1
     case hy1=>(intro u hu;obtain⟨g1,g2,g3,g4,g5,g6⟩:=hu;go_simp;try with_reducible rfl)
     simp only [Act.put];refine hY(i:=2)(v:= ?vv2)rfl(by kernel_rfl)(fun _ _ _ h=>h)(Or.inl⟨by rfl, ?hy2⟩)(by assumption) ?rest2
     case hy2=>(intro u hu;obtain⟨g1,g2,g3,g4,g5,g6⟩:=hu;go_simp;try with_reducible rfl)
     simp only [Act.put];refine hY(i:=3)(v:= ?vv3)rfl(by kernel_rfl)(fun _ _ _ h=>h)(Or.inl⟨by rfl, ?hy3⟩)(by assumption) ?rest3
     case hy3=>(intro u hu;obtain⟨g1,g2,g3,g4,g5,g6⟩:=hu;go_simp;try with_reducible rfl)
     simp only [Act.put];refine hY(i:=4)(v:= ?vv4)rfl(by kernel_rfl)(fun _ _ _ h=>h)(Or.inl⟨by rfl, ?hy4⟩)(by assumption) ?rest4
     case hy4=>(intro u hu;obtain⟨g1,g2,g3,g4,g5,g6⟩:=hu;go_simp;try with_reducible rfl)
     simp only [Act.put];refine hY(i:=5)(v:= ?vv5)rfl(by kernel_rfl)(fun _ _ _ h=>h)(Or.inl⟨by rfl, ?hy5⟩)(by assumption) ?rest5
     case hy5=>(intro u hu;obtain⟨g1,g2,g3,g4,g5,g6⟩:=hu;go_simp;try with_reducible rfl)
     simp only [Act.put];refine hY(i:=6)(v:= ?vv6)rfl(by kernel_rfl)(fun _ _ _ h=>h)(Or.inl⟨by rfl, ?hy6⟩)(by assumption) ?rest6
     case hy6=>(intro u hu;obtain⟨g1,g2,g3,g4,g5,g6⟩:=hu;go_simp;try with_reducible rfl)
     simp only [Act.put];refine hY(i:=7)(v:= ?vv7)rfl(by kernel_rfl)(fun _ _ _ h=>h)(Or.inl⟨by rfl, ?hy7⟩)(by assumption) ?rest7
     case hy7=>(intro u hu;obtain⟨g1,g2,g3,g4,g5,g6⟩:=hu;go_simp;try with_reducible rfl)
     simp only [Act.put];refine hY(i:=8)(v:= ?vv8)rfl(by kernel_rfl)(fun _ _ _ h=>h)(Or.inl⟨by rfl, ?hy8⟩)(by assumption) ?rest8
     case hy8=>(intro u hu;obtain⟨g1,g2,g3,g4,g5,g6⟩:=hu;go_simp;try with_reducible rfl)
     simp only [Act.put];refine hY(i:=9)(v:= ?vv9)rfl(by kernel_rfl)(fun _ _ _ h=>h)(Or.inl⟨by rfl, ?hy9⟩)(by assumption) ?rest9
     case hy9=>(intro u hu;obtain⟨g1,g2,g3,g4,g5,g6⟩:=hu;go_simp;try with_reducible rfl)
     simp only [Act.put];refine hY(i:=10)(v:= ?vv10)rfl(by kernel_rfl)(fun _ _ _ h=>h)(Or.inl⟨by rfl, ?hy10⟩)(by assumption) ?rest10
     case hy10=>(intro u hu;obtain⟨g1,g2,g3,g4,g5,g6⟩:=hu;go_simp;try with_reducible rfl)
     simp only [Act.put];refine hY(i:=11)(v:= ?vv11)rfl(by kernel_rfl)(fun _ _ _ h=>h)(Or.inl⟨by rfl, ?hy11⟩)(by assumption) ?rest11
     case hy11=>(intro u hu;obtain⟨g1,g2,g3,g4,g5,g6⟩:=hu;go_simp;try with_reducible rfl)
     simp only [Act.put];refine hY(i:=12)(v:= ?vv12)rfl(by kernel_rfl)(fun _ _ _ h=>h)(Or.inl⟨by rfl, ?hy12⟩)(by assumption) ?rest12
     case hy12=>(intro u hu;obtain⟨g1,g2,g3,g4,g5,g6⟩:=hu;go_simp;try with_reducible rfl)
     simp only [Act.put];refine hY(i:=13)(v:= ?vv13)rfl(by kernel_rfl)(fun _ _ _ h=>h)(Or.inl⟨by rfl, ?hy13⟩)(by assumption) ?rest13
     case hy13=>(intro u hu;obtain⟨g1,g2,g3,g4,g5,g6⟩:=hu;go_simp;try with_reducible rfl)
     simp only [Act.put];have aR:=vJ(uO(by have:=kl HV.out ai;rw [HT.out]at this;exact this)aA);refine ip(i:=14)rfl(by kernel_rfl)(by kernel_rfl)(by rfl) ?_;intro K14 av;have au:=hZ av;clear av;go_simp;refine(yL t c[k]aR.1 aR.2 _).mono ?_;rintro e w4⟨kf,aa,rfl,ak,aw⟩;simp only [];have ar:=hZ ak;have aF:=hZ aw;have aC:wr.heap.size+1<=w4.heap.size:=by have:=aw.size;simpa using this
     have aG:w4.cell?⟨w2.heap.size,0,none⟩=some(.slice(some⟨w.heap.size+1,0,none⟩)p.length p.length)/\w4.cell?⟨w.heap.size+1,t,none⟩=some v/\w4.cell?⟨wr.heap.size,0,none⟩=some(.int .i64 c[k].op)/\w4.cell?⟨wr.heap.size,1,none⟩=some(.int .i64 c[k].a)/\w4.cell?⟨wr.heap.size,2,none⟩=some(.int .i64 c[k].b)/\w4.cell?⟨wr.heap.size,3,none⟩=some(.int .i64 c[k].n):=by
      obtain⟨q1,q2,q3,q4,q5,q6⟩:=ah;have ab:=ie aw;exact⟨ab _ _ q1,ab _ _ q2,ab _ _ q3,ab _ _ q4,ab _ _ q5,ab _ _ q6⟩
     clear ak aw ah;refine au.out _ _ aG ?_;clear au;refine ip(i:=15)rfl(by kernel_rfl)(by kernel_rfl)(by rfl) ?_;intro K15 aq;have al:=hZ aq;clear aq;go_simp;have aH:(w4.alloc(.cells #[.func(.func kf) #[]aa, .bool(c[k].op==9), .int .i64(if c[k].op=9 then c[k].a else 0)]115)).cell?⟨w2.heap.size,0,none⟩=some(.slice(some⟨w.heap.size+1,0,none⟩)p.length p.length)/\(w4.alloc(.cells #[.func(.func kf) #[]aa, .bool(c[k].op==9), .int .i64(if c[k].op=9 then c[k].a else 0)]115)).cell?⟨w.heap.size+1,t,none⟩=some v/\(w4.alloc(.cells #[.func(.func kf) #[]aa, .bool(c[k].op==9), .int .i64(if c[k].op=9 then c[k].a else 0)]115)).cell?⟨wr.heap.size,0,none⟩=some(.int .i64 c[k].op)/\(w4.alloc(.cells #[.func(.func kf) #[]aa, .bool(c[k].op==9), .int .i64(if c[k].op=9 then c[k].a else 0)]115)).cell?⟨wr.heap.size,1,none⟩=some(.int .i64 c[k].a)/\(w4.alloc(.cells #[.func(.func kf) #[]aa, .bool(c[k].op==9), .int .i64(if c[k].op=9 then c[k].a else 0)]115)).cell?⟨wr.heap.size,2,none⟩=some(.int .i64 c[k].b)/\(w4.alloc(.cells #[.func(.func kf) #[]aa, .bool(c[k].op==9), .int .i64(if c[k].op=9 then c[k].a else 0)]115)).cell?⟨wr.heap.size,3,none⟩=some(.int .i64 c[k].n):=by
      obtain⟨q1,q2,q3,q4,q5,q6⟩:=aG;have ab:=ie(ij(o:= .cells #[.func(.func kf) #[]aa, .bool(c[k].op==9), .int .i64(if c[k].op=9 then c[k].a else 0)]115)(il w4 none));exact⟨ab _ _ q1,ab _ _ q2,ab _ _ q3,ab _ _ q4,ab _ _ q5,ab _ _ q6⟩
     refine al.out _ _ aH ?_;clear al;have aJ:Hid(wr.grownBy(w4.alloc(.cells #[.func(.func kf) #[]aa, .bool(c[k].op==9), .int .i64(if c[k].op=9 then c[k].a else 0)]115))none):=ij(ic(ir(ij(il _ _)))aF.out);have ba:k+1<=maxLen:=by unfold maxLen;omega
     have a3:(k+1)*24<=140737488355328:=by omega
     refine ip(i:=16)rfl(by kernel_rfl)(by kernel_rfl)(by rfl) ?_;intro K16 ap;have an:=hZ ap;clear ap;refine wp_append_lies _(.tmp 39)(.tmp 43)111(by rfl)w3.heap.size 115 i1 _ 3 24 Tryz.underlying111 aU hy0 hy1 hy2 rfl(by omega)v k xs(by rfl)(iA J4.out aJ.out(fun _ e=>by cases e))⟨w4.heap.size,0,none⟩1 1(uA kf aa c[k])(by rfl)(by rfl)(World.news_of_block(cs:= #[.func(.func kf) #[]aa, .bool(c[k].op==9), .int .i64(if c[k].op=9 then c[k].a else 0)])(t:=115)(fr:=(0,0))(heap_alloc_new w4 _))(by simp [uA,Value.oneCell'])(by omega)ba a3(by simp;omega)(w4.heap.size+1)(by simp) ?_;intro g2 aB w5 ag ae aQ hlt5;have aS:∀ q,v.ownBlock=some q->w3.heap.size<=q/\q<wr.heap.size:=fun q e=>⟨iw J4.out q e,by
      rcases J4.out.2 with⟨e1,_⟩ | ⟨g',_,_,hv,_,hh,_⟩
      ·rw [e1]at e;cases e
      ·rw [hv]at e;have:=(Array.getElem?_eq_some_iff.1 hh).1;simp [Value.ownBlock]at e;omega⟩
     have ac:∀ q o x,(q<w3.heap.size\/wr.heap.size<=q)->(w4.alloc(.cells #[.func(.func kf) #[]aa, .bool(c[k].op==9), .int .i64(if c[k].op=9 then c[k].a else 0)]115)).cell?⟨q,o,none⟩=some x->w5.cell?⟨q,o,none⟩=some x:=fun q o x hq hx=>by
      rw [ae.cell_far _(World.block_lt_of_cell? _ _ hx)(fun e=>by have:=aS q e.symm;omega)];exact hx
     have aO:w5.cell?⟨w2.heap.size,0,none⟩=some(.slice(some⟨w.heap.size+1,0,none⟩)p.length p.length)/\w5.cell?⟨w.heap.size+1,t,none⟩=some v/\w5.cell?⟨wr.heap.size,0,none⟩=some(.int .i64 c[k].op)/\w5.cell?⟨wr.heap.size,1,none⟩=some(.int .i64 c[k].a)/\w5.cell?⟨wr.heap.size,2,none⟩=some(.int .i64 c[k].b)/\w5.cell?⟨wr.heap.size,3,none⟩=some(.int .i64 c[k].n):=by
      obtain⟨q1,q2,q3,q4,q5,q6⟩:=aH;exact⟨ac _ _ _(by omega)q1,ac _ _ _(by omega)q2,ac _ _ _(by omega)q3,ac _ _ _(by omega)q4,ac _ _ _(by omega)q5,ac _ _ _(by omega)q6⟩
     have am:=hZ ag;have aE:=hZ ae;have aT:=hZ aQ;clear ag ae aQ aG aH ac;refine an.out _ _ aO ?_;clear an;simp only [Act.put,List.setIfInBounds_toArray];refine hY(i:=17)(v:= ?vv17)rfl(by kernel_rfl)(fun _ _ _ h=>h)(Or.inl⟨by rfl, ?hy17⟩)(by assumption) ?rest17
     case hy17=>(intro u hu;obtain⟨g1,g2,g3,g4,g5,g6⟩:=hu;go_simp;try with_reducible rfl)
     simp only [Act.put];refine iE rfl(by kernel_rfl)(by kernel_rfl)(by rfl) ?_;obtain⟨s1,s2,_⟩:=aO;have s2f:w5.frozen?⟨w.heap.size+1,t,none⟩=false:=by
      rw [aE.out.frozen_far _(by simp;omega)(fun e=>by have:=aS _ e.symm;simp at this;omega),aJ.out.frozen_far _(by simp;omega)(by simp)];exact aY
     have aj:Hid(CP w(w2.heap.size+1)w3.heap.size(w.heap.size+1)w2.heap.size p.length t(k+1)p(w5.setCell⟨w.heap.size+1,t,none⟩(.slice(some⟨g2,0,none⟩)(k+1)aB))):=
      yn J1.out J2.out J4.out J5.out J6.out J7.out J9.out aK ax aP aN aL aM ai(by rw [HT.out];exact aA)(i:=c[k])(by simp [HT.out])(fun u hu=>ar.out u(fun q h1 h2=>hu q(by simpa using h1)h2))(ic(ir(ij(il _ _)))aF.out)aC am.out aE.out aT.out s1
     clear J1 J2 J4 J5 J6 J7 J9 ar aF am aE aT aJ;go_simp;go_wp2
     go_roundw
     case rel=>exact⟨k+1,by omega,by go_num,aj⟩
     case measure=>simp [intOf];omega
    ·have ek:k=c.length:=by omega
     have aj:Hid(∃ rows,wr.heap[w.heap.size+1]?=some(.cells rows 111(0,0))/\rows.size=p.length/\Fin(w2.heap.size+1)wr.heap.size wr rows(t+1)p/\(∀ j,t+1<=j->j<p.length->rows[j]?=some(.slice none 0 0))/\
       wr.cell?⟨w2.heap.size,0,none⟩=some(.slice(some⟨w.heap.size+1,0,none⟩)p.length p.length)/\w.grownBy wr none/\w2.heap.size+1<=wr.heap.size):=by
      obtain⟨rows,v,xs,j1,j2,j3,j4,j5,j6,j7,j8,j9,aK,ax,aP,aN,aL,aM⟩:=aD.out;have a6:(iL p t).length=k:=by rw [HT.out];omega
      rw [List.take_of_length_le(by omega)]at j5;have aV:∀ h,v.ownBlock=some h->h<wr.heap.size:=fun q e=>by
       rcases j4.2 with⟨e1,_⟩ | ⟨g',_,_,hv,_,hh,_⟩
       ·rw [e1]at e;cases e
       ·rw [hv]at e;have:=(Array.getElem?_eq_some_iff.1 hh).1;simp [Value.ownBlock]at e;omega
      refine⟨rows,j1,j2,(j6.mono ax).succ j3(by rw [a6];exact iN j4(by omega))aV j5,fun j h1 h2=>j7 j(by omega)h2,j8,j9,by omega⟩
     clear ek;go_wp2
     go_roundw
     case rel=>exact⟨t+1,by omega,by go_num,aj⟩
     case measure=>simp [intOf];omega
  ·have et:t=p.length:=by omega
   have aj:Hid(MachAt w3.heap.size w3 w2.heap.size p/\w.grownBy w3 none):=by
    obtain⟨rows,j1,j2,j3,j4,j5,j6,j7⟩:=HI.out;refine⟨⟨w.heap.size+1,p.length,by omega,by omega,j5,fun j hj=> ?_⟩,j6⟩;obtain⟨v,e1,e2⟩:=j3.rowIs(j:=j)(by omega);exact⟨v,by simp [World.cell?,j1,e1],e2⟩
   clear et;go_wp2
   go_ret;exact⟨w2.heap.size,rfl,aj.out.1,aj.out.2⟩
end
section
open Go.RowKit
attribute [local go_sem] Go.World.cell?_alloc_some
theorem Ah(p:List(List Ins))(pv:Value)(w:World)(hS:ShpAt w)(hP:ProgAt w pv p):
  Calls Tryz.prog 51 #[pv]w fun e w'=>e= .returned(.bool(iR p))/\w.grownBy w' none:=by
 obtain⟨ao,cap,rfl,hP⟩:=hP;have ah:=hZ hS;have HP:=hZ hP;clear hS hP;by_cases h1:1<=p.length
 ·by_cases h4:p.length<=4
  ·have g1:(1:Int)<=p.length:=by omega
   have g4:(p.length:Int)<=4:=by omega
   have HV:Hid(iR p=p.all kW):=by unfold Hid;simp [iR,h1,h4]
   go_enter Tryz.func51,Tryz.ntmps51
   go_wp2
   go_loopw [18](fun i w'=>∃ k:Nat,k<=p.length/\i= .int .i64 k/\Hid(w.grownBy w' none)/\Hid((p.take k).all kW=true))(fun i _=>p.length - (intOf i).toNat)
   case atStart=>exact⟨0,Nat.zero_le _,rfl,ij(il _ _),rfl⟩
   case round=>
    obtain⟨k,hk,rfl,HG,HA⟩:=hrel;by_cases ae:k<p.length
    ·obtain⟨g,o,rfl,rv,c0,c1⟩:=HP.out k ae;have aa:=ie HG.out;have d0:=aa _ _ c0;have D1:=hZ(c1.pres aa);have ab:=hZ(la p kW k ae);have ac:Hid(ShpAt wr):=ah.out.pres aa;clear c0 c1 aa;have hk0:(0:Int)<=(k:Int):=by omega
     have hk1:(k:Int)<p.length:=by omega
     generalize p[k]=c at*;go_wp2_with fail
     refine(ut c rv _ ac.out D1.out).mono ?_;rintro e w1⟨rfl,af⟩;have ad:Hid(w.grownBy w1 none):=ic HG.out af;clear af;cases hv:kW c
     ·have HE:Hid(iR p=false):=by
       unfold Hid;rw [HV.out];have:(p.take(k+1)).all kW=false:=by rw [ab.out,hv];simp
       rw [<-List.take_append_drop(k+1)p,List.all_append,this];rfl
      go_wp2_with fail
      go_ret;exact⟨by rw [HE.out];rfl,ad⟩
     ·have ag:Hid((p.take(k+1)).all kW=true):=by unfold Hid;rw [ab.out,hv,HA.out];rfl
      clear ab hv;go_wp2
      go_roundw
      case rel=>exact⟨k+1,by omega,by go_num,ad,ag⟩
      case measure=>simp [intOf];omega
    ·have HE:Hid(iR p=true):=by
      unfold Hid;rw [HV.out];have:=HA.out;rw [List.take_of_length_le(by omega)]at this;exact this
     go_wp2
     go_ret;exact⟨by rw [HE.out];rfl,HG⟩
  ·have HV:Hid(iR p=false):=by unfold Hid;simp [iR,h4]
   have g4:(4:Int)<p.length:=by omega
   go_enter Tryz.func51,Tryz.ntmps51
   go_wp2
   go_ret;exact⟨by rw [HV.out];rfl,ij(il _ _)⟩
 ·have HV:Hid(iR p=false):=by unfold Hid;simp [iR,h1]
  have g1:(p.length:Int)<1:=by omega
  go_enter Tryz.func51,Tryz.ntmps51
  go_wp2
  go_ret;exact⟨by rw [HV.out];rfl,ij(il _ _)⟩
theorem ProgAt.form {w:World} {pv:Value} {p:List(List Ins)}(h:ProgAt w pv p):∃ ao cap,pv= .agg #[.slice ao p.length cap]:=by
 obtain⟨ao,cap,e,_⟩:=h;exact⟨ao,cap,e⟩
def je(p:List(List Ins)):Int:=if iR p=true then 0 else 1
def iz(p:List(List Ins))(s:List Int):Int:=if iR p=true then(if s.length<=500 then 0 else 2)else 1
theorem zW(p:List(List Ins))(pv:Value)(w:World)(hS:ShpAt w)(hP:ProgAt w pv p):
  Calls Tryz.prog 18 #[pv]w fun e w'=>e= .returned(.int .i64(je p))/\w.grownBy w' none:=by
 have ac:=hZ hS;have HP:=hZ hP;obtain⟨ao,cap,rfl⟩:=hP.form;clear hS hP;go_enter Tryz.func18,Tryz.ntmps18
 go_wp2_with fail
 refine(Ah p _ _(ac.out.pres(ie(ij(il _ _))))(HP.out.pres(ie(ij(il _ _))))).mono ?_;rintro e w1⟨rfl,ab⟩;have aa:Hid(w.grownBy w1 none):=ic(ij(il _ _))ab;clear ab;cases hv:iR p
 ·have HE:Hid(je p=1):=by unfold Hid je;simp [hv]
  go_wp2_with fail
  go_ret;exact⟨by rw [HE.out];rfl,aa⟩
 ·have HE:Hid(je p=0):=by unfold Hid je;simp [hv]
  go_wp2_with fail
  go_ret;exact⟨by rw [HE.out];rfl,aa⟩
def vY(w:World)(v:Value)(ss:List(List Int)):Prop:=
 ∃ g o cap,v= .slice(some⟨g,o,none⟩)ss.length cap/\∀ k(hk:k<ss.length),∃ so sc,w.cell?⟨g,o+k,none⟩=some(.slice so ss[k].length sc)
theorem rI {W:World} {so:Option Addr} {s:List Int} {sc:Nat} {t:TypeId} {g:Nat}(hg:W.heap.size=g):vY(W.alloc(.cells #[.slice so s.length sc]t))(.slice(some⟨g,0,none⟩)1 1) [s]:=by
 subst hg;refine⟨W.heap.size,0,1,rfl,fun k hk=>⟨so,sc, ?_⟩⟩;have aa:k=0:=by simp at hk;omega
 subst aa;have h:=heap_alloc_new W(.cells #[.slice so s.length sc]t);simp only [World.cell?,h];rfl
def iQ(p:List(List Ins))(ss:List(List Int)):Int:=if iR p=true then(if ss.all(fun s=>decide(s.length<=500))=true then 0 else 2)else 1
theorem nR(p:List(List Ins))(s:List Int):iQ p [s]=iz p s:=by simp [iQ,iz]
theorem oy(p:List(List Ins))(ss:List(List Int))(pv sv:Value)(w:World)(hS:ShpAt w)(hP:ProgAt w pv p)(hL:vY w sv ss)(hn:ss.length<=1000):
  Calls Tryz.prog 15 #[pv,sv]w fun e w'=>e= .returned(.int .i64(iQ p ss))/\w.grownBy w' none:=by
 have ah:=hZ hS;have HP:=hZ hP;obtain⟨ao,cap,rfl⟩:=hP.form;obtain⟨g,o,scap,rfl,hc⟩:=hL;have HC:=hZ hc;clear hS hP hc;go_enter Tryz.func15,Tryz.ntmps15
 go_wp2_with fail
 refine(zW p _ _(ah.out.pres(ie(ij(il _ _))))(HP.out.pres(ie(ij(il _ _))))).mono ?_;rintro e w1⟨rfl,af⟩;have aa:Hid(w.grownBy w1 none):=ic(ij(il _ _))af;clear af;cases hv:iR p
 ·have HE:Hid(iQ p ss=1):=by unfold Hid iQ;simp [hv]
  have e1:je p=1:=by unfold je;simp [hv]
  rw [e1];clear e1;go_wp2_with fail
  go_ret;exact⟨by rw [HE.out];rfl,aa⟩
 ·have e1:je p=0:=by unfold je;simp [hv]
  rw [e1];have HV:Hid(iQ p ss=if ss.all(fun s=>decide(s.length<=500))=true then 0 else 2):=by unfold Hid iQ;rw [if_pos hv]
  clear e1 hv;have hn':(ss.length:Int)<=1000:=by omega
  go_wp2_with fail
  go_loopw [15](fun i w'=>∃ k:Nat,k<=ss.length/\i= .int .i64 k/\Hid(w.grownBy w' none)/\Hid((ss.take k).all(fun s=>decide(s.length<=500))=true))(fun i _=>ss.length - (intOf i).toNat)
  case atStart=>exact⟨0,Nat.zero_le _,rfl,aa,rfl⟩
  case round=>
   clear aa;obtain⟨k,hk,rfl,HG,HA⟩:=hrel;obtain⟨w5,ae⟩:∃ w5,w5=wr:=⟨_,rfl⟩;rw [<-ae]at HG ⊢;clear ae;by_cases ad:k<ss.length
   ·obtain⟨so,sc,c0⟩:=HC.out k ad;have d0:=ie HG.out _ _ c0;have ac:=hZ(la ss(fun s=>decide(s.length<=500))k ad);have ab:Hid(ss[k].length<=500\/(ss.all(fun s=>decide(s.length<=500))=false)):=by
     unfold Hid;by_cases h5:ss[k].length<=500
     ·exact Or.inl h5
     ·right
      cases ha:ss.all(fun s=>decide(s.length<=500))with
      | false=>rfl
      | true=>
       rw [List.all_eq_true]at ha;have:=ha _(List.getElem_mem ad);simp at this;omega
    clear c0;have hk0:(0:Int)<=(k:Int):=by omega
    have hk1:(k:Int)<ss.length:=by omega
    generalize ss[k]=s at*;by_cases h5:s.length<=500
    ·have h6:(s.length:Int)<=500:=by omega
     have ag:Hid((ss.take(k+1)).all(fun s=>decide(s.length<=500))=true):=by unfold Hid;rw [ac.out,HA.out];simp [h5]
     clear ac ab;go_wp2_with fail
     go_roundw
     case rel=>exact⟨k+1,by omega,by go_num,HG,ag⟩
     case measure=>simp [intOf];omega
    ·have h6:(500:Int)<s.length:=by omega
     have HE:Hid(iQ p ss=2):=by
      unfold Hid;rw [HV.out,if_neg]
      rw [ab.out.resolve_left h5];simp
     clear ac ab;go_wp2_with fail
     go_ret;exact⟨by rw [HE.out];rfl,HG⟩
   ·have HE:Hid(iQ p ss=0):=by
     unfold Hid;rw [HV.out,if_pos]
     have:=HA.out;rwa [List.take_of_length_le(by omega)]at this
    go_wp2_with fail
    go_ret;exact⟨by rw [HE.out];rfl,HG⟩
theorem IntsAt.mono {B B':Nat} {w:World} {v:Value} {l:List Int}(h:IntsAt B w v l)(hb:B<=B'):IntsAt B' w v l:=by
 obtain⟨ao,aa,e,h1,h2⟩:=h;refine⟨ao,aa,e,h1,fun k hk=> ?_⟩;obtain⟨g,o,e1,e2,e3⟩:=h2 k hk;exact⟨g,o,e1,by omega,e3⟩
theorem IntsAt.pres {B:Nat} {w w':World} {v:Value} {l:List Int}(h:IntsAt B w v l)(hp:Pres w w'):IntsAt B w' v l:=by
 obtain⟨ao,aa,e,h1,h2⟩:=h;refine⟨ao,aa,e,h1,fun k hk=> ?_⟩;obtain⟨g,o,e1,e2,e3⟩:=h2 k hk;exact⟨g,o,e1,e2,hp _ _ e3⟩
theorem IntsAt.form {B:Nat} {w:World} {v:Value} {l:List Int}(h:IntsAt B w v l):∃ ao cap,v= .slice ao l.length cap:=by
 obtain⟨ao,cap,e,_⟩:=h;exact⟨ao,cap,e⟩
def Replayed(p:List(List Ins))(s:List Int)(w:World)(e:Ending)(w':World):Prop:=
 w.grownBy w' none/\
 ((iz p s=0/\∃ rv,e= .returned(.tuple #[rv, .int .i64 0])/\Dw w.heap.size w'(iF p s)p.length rv)\/
  (iz p s≠0/\e= .returned(.tuple #[.agg #[.int .i64 0, .int .i64 0, .int .i64 0, .slice none 0 0, .int .i64 0, .int .i64 0, .int .i64 0, .int .i64 0, .slice none 0 0], .int .i64(iz p s)])))
theorem wD(p:List(List Ins))(s:List Int)(pv sv:Value)(w:World)(hS:ShpAt w)(hP:ProgAt w pv p)(hI:IntsAt w.heap.size w sv s):
  Calls Tryz.prog 4 #[pv,sv]w(Replayed p s w):=by
 have aq:=hZ hS;have HP:=hZ hP;have HI:=hZ hI;obtain⟨ao,ah,rfl⟩:=hP.form;obtain⟨so,sc,rfl⟩:=hI.form;clear hS hP hI;go_enter Tryz.func4,Tryz.ntmps4
 go_wp2_with fail
 have af:∀ a b c,w.grownBy(((w.alloc a).alloc b).alloc c)none:=fun a b c=>ij(ij(ij(il _ _)))
 refine(oy p [s]_ _ _(aq.out.pres(ie(af _ _ _)))(HP.out.pres(ie(af _ _ _)))(rI(by simp))(by simp)).mono ?_;rw [nR];rintro e w1⟨rfl,aa⟩;have ad:Hid(w.grownBy w1 none):=ic(af _ _ _)aa;have hsz1:w.heap.size+2<=w1.heap.size:=by have:=aa.size;simp at this;omega
 have ak:w1.heap[w.heap.size]?=some(.cells #[.slice ao p.length ah]37(0,0)):=by
  rw [aa.block w.heap.size(by simp;omega)(by simp),Below.heap_alloc _ _ _(by simp;omega),Below.heap_alloc _ _ _(by simp)];exact heap_alloc_new w _
 have ab:w1.heap[w.heap.size+1]?=some(.cells #[.int .i64 0, .int .i64 0, .int .i64 0, .slice none 0 0, .int .i64 0, .int .i64 0, .int .i64 0, .int .i64 0, .slice none 0 0]31(0,0)):=by
  rw [aa.block(w.heap.size+1)(by simp)(by simp),Below.heap_alloc _ _ _(by simp)];have:=heap_alloc_new(w.alloc(.cells #[.slice ao p.length ah]37))(.cells #[.int .i64 0, .int .i64 0, .int .i64 0, .slice none 0 0, .int .i64 0, .int .i64 0, .int .i64 0, .int .i64 0, .slice none 0 0]31);simpa using this
 have ar:=hZ ab;have c0:w1.cell?⟨w.heap.size,0,none⟩=some(.slice ao p.length ah):=by simp [World.cell?,ak]
 clear ak aa;by_cases h0:iz p s=0
 ·have H0:=hZ h0;have hv:iR p=true:=by
   unfold iz at h0;by_cases hv:iR p=true
   ·exact hv
   ·simp [hv]at h0
  have h5:s.length<=500:=by
   unfold iz at h0;by_cases h5:s.length<=500
   ·exact h5
   ·simp [hv,h5]at h0
  have HV:=hZ hv;rw [h0];clear h0 hv ab;go_wp2_with fail
  refine(Ab HV.out(HP.out.pres(ie ad.out))).mono ?_;rintro e w2⟨m,rfl,hM,ac⟩;have HM:=hZ hM;have aj:Hid(w.grownBy w2 none):=ic ad.out ac;have hsz2:w.heap.size+2<=w2.heap.size:=by have:=ac.size;omega
  have am:Hid(w2.heap[w.heap.size+1]?=some(.cells #[.int .i64 0, .int .i64 0, .int .i64 0, .slice none 0 0, .int .i64 0, .int .i64 0, .int .i64 0, .int .i64 0, .slice none 0 0]31(0,0))):=by
   unfold Hid;rw [ac.block _(by omega)(by simp)];exact ar.out
  clear hM ac c0;go_wp2_with fail
  refine(uY HV.out HM.out(Nat.le_refl _)((HI.out.pres(ie aj.out)).mono(by omega))h5).mono ?_;rintro e w3⟨rv,rfl,⟨sv,gv,rfl,ai,ag⟩,ae⟩;obtain⟨x1,x2,x3,rfl⟩:=iq ai;obtain⟨y1,y2,y3,rfl⟩:=iq ag;have ap:=hZ ai;have au:=hZ ag;have an:Hid(w.grownBy w3 none):=ic aj.out ae;have al:w3.heap[w.heap.size+1]?=some(.cells #[.int .i64 0, .int .i64 0, .int .i64 0, .slice none 0 0, .int .i64 0, .int .i64 0, .int .i64 0, .int .i64 0, .slice none 0 0]31(0,0)):=by
   rw [ae.block _(by omega)(by simp)];exact am.out
  obtain⟨r0,r1,r2,r3,r4,r5,r6,r7,r8,rf⟩:=kA al;have f0:=rf 0;have f1:=rf 1;have f2:=rf 2;have f3:=rf 3;have f4:=rf 4;have f5:=rf 5;have f6:=rf 6;have f7:=rf 7;have f8:=rf 8;clear rf al ai ag ae;generalize hO:iF p s=o at*;have av:=hZ hO;clear hO;go_wp2_with fail
  refine bodyPost_ret(v:= .tuple #[.agg #[.int .i64 o.kind, .int .i64 o.thread, .int .i64 o.at_, .slice x1 x2 x3, .int .i64(o.st.vars 0), .int .i64(o.st.vars 1), .int .i64(o.st.vars 2), .int .i64(o.st.vars 3), .slice y1 y2 y3], .int .i64 0]) ?_ rfl⟨?_,Or.inl⟨H0.out,_,rfl, ?_⟩⟩
  ·simp [results,Tryz.results4,go_sem,r0,r1,r2,r3,r4,r5,r6,r7,r8]
  ·iterate 9 refine iC ?_(by omega)
   exact an.out
  ·rw [av.out];refine⟨_,_,rfl, ?_, ?_⟩
   ·refine iN(base:=w2.heap.size) ?_(by omega);iterate 9 refine ownsRow_setCell_below ?_(by simp;omega)_
    exact ap.out
   ·refine iN(base:=w2.heap.size) ?_(by omega);iterate 9 refine ownsRow_setCell_below ?_(by simp;omega)_
    exact au.out
 ·have H0:=hZ h0;obtain⟨r0,r1,r2,r3,r4,r5,r6,r7,r8,rf⟩:=kA ab;have f0:=rf 0;have f1:=rf 1;have f2:=rf 2;have f3:=rf 3;have f4:=rf 4;have f5:=rf 5;have f6:=rf 6;have f7:=rf 7;have f8:=rf 8;have hne:(iz p s !=0)=true:=by simpa using h0
  clear rf ab h0;generalize hE:iz p s=e at*;have HE:=hZ hE;clear hE;go_wp2_with fail
  refine bodyPost_ret(v:= .tuple #[.agg #[.int .i64 0, .int .i64 0, .int .i64 0, .slice none 0 0, .int .i64 0, .int .i64 0, .int .i64 0, .int .i64 0, .slice none 0 0], .int .i64 e]) ?_ rfl⟨?_,Or.inr⟨by rw [HE.out];exact H0.out,by rw [HE.out]⟩⟩
  ·simp [results,Tryz.results4,go_sem,r0,r1,r2,r3,r4,r5,r6,r7,r8]
  ·iterate 9 refine iC ?_(by omega)
   exact ad.out
end
section
open Go.RowKit
attribute [local go_sem] Go.World.cell?_alloc_some
end
section
theorem pF(p:List(List Ins))(s:St):3<=jN p s/\jN p s<=5:=by
 unfold jN;split
 ·omega
 ·split<;>omega
def FH(p:List(List Ins))(a:List Int):Prop:=(iF p a).kind≠2/\(iF p a).steps.length=a.length
end
section
open Go.RowKit
attribute [local go_sem] Go.World.cell?_alloc_some
def iI(a:List Int):List Value:=a.map fun x=> .int .i64 x
theorem jW(a:List Int):(iI a).length=a.length:=by simp [iI]
theorem oT(a:List Int):∀ v∈iI a,v.oneCell'=true:=by
 intro v hv;simp only [iI,List.mem_map]at hv;obtain⟨x,_,rfl⟩:=hv;rfl
theorem Bd(a:List Int)(x:Int):iI(a++ [x])=iI a++ [.int .i64 x]:=by simp [iI]
theorem jw {w:World} {base:Nat} {v:Value} {a:List Int}(h:w.ownsRow base 3 1 v a.length(iI a)):IntsAt w.heap.size w v a:=by
 rcases h.2 with⟨e,e0⟩ | ⟨g,cap,cur,hv,hb,hh,hc,_⟩
 ·refine⟨none,0,by rw [e,e0],by omega,fun k hk=>by omega⟩
 ·refine⟨some⟨g,0,none⟩,cap,hv,hc,fun k hk=>⟨g,0,rfl,(Array.getElem?_eq_some_iff.1 hh).1, ?_⟩⟩;rw [hv]at h;rw [Nat.zero_add,h.cellAt k(by omega)];simp [iI,hk]
def B8(o:Out)(s1 g1:Value):Array Value:= #[.int .i64 o.kind, .int .i64 o.thread, .int .i64 o.at_,s1, .int .i64(o.st.vars 0), .int .i64(o.st.vars 1), .int .i64(o.st.vars 2), .int .i64(o.st.vars 3),g1]
def EO:Array Value:= #[.int .i64 0, .int .i64 0, .int .i64 0, .slice none 0 0, .int .i64 0, .int .i64 0, .int .i64 0, .int .i64 0, .slice none 0 0]
structure SchAt(w:World)(p:List(List Ins))(pb:Value)(rb:Nat)(a:List Int)(sv:Value)(w':World):Prop where
 grown:w.grownBy w' none
 row:w'.ownsRow w.heap.size 3 1 sv a.length(iI a)
 nil:a= []->sv= .slice none 0 0
 apart:sv.ownBlock≠some rb
 res:∃ s1 g1,w'.heap[rb]?=some(.cells(B8(iF p a)s1 g1)31(0,0))/\w'.ownsRow w.heap.size 76 2 s1(iF p a).steps.length(iO(iF p a).steps)/\w'.ownsRow w.heap.size 28 4 g1 p.length(jm p.length(iF p a).st)/\s1.ownBlock≠some rb/\g1.ownBlock≠some rb
 box:w'.heap[w.heap.size]?=some(.cells #[pb]37(0,0))
 out:w'.heap[w.heap.size+1]?=some(.cells EO 31(0,0))
 lo:w.heap.size+2<=rb
 hi:rb<w'.heap.size
 good:FH p a
theorem SchAt.step {w:World} {p:List(List Ins)} {pb:Value} {rb:Nat} {a:List Int} {sv:Value} {w' aa:World}(h:SchAt w p pb rb a sv w')(hg:w'.grownBy aa none):SchAt w p pb rb a sv aa:=by
 obtain⟨s1,g1,h1,h2,h3,h4,h5⟩:=h.res;exact⟨ic h.grown hg,iA h.row hg(fun _ e=>by cases e),h.nil,h.apart,⟨s1,g1,by rw [hg.block _ h.hi(by simp)];exact h1,iA h2 hg(fun _ e=>by cases e),iA h3 hg(fun _ e=>by cases e),h4,h5⟩,
  by rw [hg.block _(by have:=h.lo;have:=h.hi;omega)(by simp)];exact h.box,by rw [hg.block _(by have:=h.lo;have:=h.hi;omega)(by simp)];exact h.out,h.lo,Nat.lt_of_lt_of_le h.hi hg.size,h.good⟩
theorem mZ {w:World} {base:Nat} {e:TypeId} {aa:Nat} {v:Value} {n:Nat} {xs:List Value} {g o:Nat} {u:Value}(h:w.ownsRow base e aa v n xs)(ab:v.ownBlock≠some g):(w.setCell⟨g,o,none⟩u).ownsRow base e aa v n xs:=by
 obtain⟨h1,h2⟩:=h;refine⟨h1, ?_⟩;rcases h2 with h2 | ⟨b,cap,cur,hv,hb,hh,rest⟩
 ·exact Or.inl h2
 ·refine Or.inr⟨b,cap,cur,hv,hb, ?_,rest⟩;rw [Below.heap_setCell _ _ _ _(fun e=>ab(by rw [hv];simp [Value.ownBlock,e]))];exact hh
theorem GT {w:World} {g:Nat} {x0 x1 x2 x3 x4 x5 x6 x7 x8 y0 y1 y2 y3 y4 y5 y6 y7 y8:Value} {t:TypeId}(h:w.heap[g]?=some(.cells #[x0,x1,x2,x3,x4,x5,x6,x7,x8]t(0,0))):
  (((((((((w.setCell⟨g,0,none⟩y0).setCell⟨g,1,none⟩y1).setCell⟨g,2,none⟩y2).setCell⟨g,3,none⟩y3).setCell⟨g,4,none⟩y4).setCell⟨g,5,none⟩y5).setCell⟨g,6,none⟩y6).setCell⟨g,7,none⟩y7).setCell⟨g,8,none⟩y8).heap[g]?=some(.cells #[y0,y1,y2,y3,y4,y5,y6,y7,y8]t(0,0)):=by
 have h0:=heap_setCell_same w g 0 _ t y0 h;have h1:=heap_setCell_same _ g 1 _ t y1 h0;have h2:=heap_setCell_same _ g 2 _ t y2 h1;have h3:=heap_setCell_same _ g 3 _ t y3 h2;have h4:=heap_setCell_same _ g 4 _ t y4 h3;have h5:=heap_setCell_same _ g 5 _ t y5 h4;have h6:=heap_setCell_same _ g 6 _ t y6 h5;have h7:=heap_setCell_same _ g 7 _ t y7 h6;have h8:=heap_setCell_same _ g 8 _ t y8 h7;simpa using h8
theorem SchAt.set {w:World} {p:List(List Ins)} {pb:Value} {rb:Nat} {a b:List Int} {sv tv:Value} {w':World}(h:SchAt w p pb rb a sv w')(hb:b≠ [])(ht:w'.ownsRow w.heap.size 3 1 tv b.length(iI b))(ab:tv.ownBlock≠some rb) {s1 g1:Value}
  (hs:w'.ownsRow w.heap.size 76 2 s1(iF p b).steps.length(iO(iF p b).steps))(hg:w'.ownsRow w.heap.size 28 4 g1 p.length(jm p.length(iF p b).st))(ad:s1.ownBlock≠some rb)(ac:g1.ownBlock≠some rb)(ae:FH p b):
  SchAt w p pb rb b tv(((((((((w'.setCell⟨rb,0,none⟩(.int .i64(iF p b).kind)).setCell⟨rb,1,none⟩(.int .i64(iF p b).thread)).setCell⟨rb,2,none⟩(.int .i64(iF p b).at_)).setCell⟨rb,3,none⟩s1).setCell⟨rb,4,none⟩(.int .i64((iF p b).st.vars 0))).setCell⟨rb,5,none⟩(.int .i64((iF p b).st.vars 1))).setCell⟨rb,6,none⟩(.int .i64((iF p b).st.vars 2))).setCell⟨rb,7,none⟩(.int .i64((iF p b).st.vars 3))).setCell⟨rb,8,none⟩g1):=by
 obtain⟨s0,g0,h1,_⟩:=h.res;have af:=h.lo;have hhi:=h.hi;have aa:∀ k,k≠rb->(((((((((w'.setCell⟨rb,0,none⟩(.int .i64(iF p b).kind)).setCell⟨rb,1,none⟩(.int .i64(iF p b).thread)).setCell⟨rb,2,none⟩(.int .i64(iF p b).at_)).setCell⟨rb,3,none⟩s1).setCell⟨rb,4,none⟩(.int .i64((iF p b).st.vars 0))).setCell⟨rb,5,none⟩(.int .i64((iF p b).st.vars 1))).setCell⟨rb,6,none⟩(.int .i64((iF p b).st.vars 2))).setCell⟨rb,7,none⟩(.int .i64((iF p b).st.vars 3))).setCell⟨rb,8,none⟩g1).heap[k]?=w'.heap[k]?:=fun k hk=>by
  iterate 9 rw [Below.heap_setCell _ _ _ _(by simpa using hk)]
 refine⟨?_, ?_,fun e=>absurd e hb,ab,⟨s1,g1,GT h1, ?_, ?_,ad,ac⟩, ?_, ?_,af,by simp;omega,ae⟩
 ·iterate 9 refine iC ?_(by omega)
  exact h.grown
 ·iterate 9 refine mZ ?_ ab
  exact ht
 ·iterate 9 refine mZ ?_ ad
  exact hs
 ·iterate 9 refine mZ ?_ ac
  exact hg
 ·rw [aa _(by omega)];exact h.box
 ·rw [aa _(by omega)];exact h.out
section
variable {P : Program} {w : World} {ops : Array Oper} {rest : List Oper} {o : Oper} {a : Act} {Q : Exit -> Act -> World -> Prop}
end
end
section
open Go.RowKit
attribute [local go_sem] Go.World.cell?_alloc_some
theorem kt:((Tryz.prog.info? 3).map fun i=>(i.zero,i.size,i.bytes))=some(some(.int .i64 0),1,8):=by kernel_rfl
theorem iy {w:World} {base e aa:Nat} {ao:Option Addr} {n c m:Nat} {xs:List Value}(h:w.ownsRow base e aa(.slice ao n c)m xs):n=m:=by
 rcases h.2 with⟨e,e0⟩ | ⟨g,cap,cur,hv,_⟩
 ·simp at e;omega
 ·simp at hv;omega
end
section
open Go.RowKit
theorem jp(w:World):jr w w:=⟨rfl,rfl,rfl,rfl⟩
theorem jR {w' w:World}(h:jr w' w)(n:Nat):jr(w'.drewN n)w:=by
 have:=lq w' n;exact⟨this.1.trans h.1,this.2.1.trans h.2.1,this.2.2.1.trans h.2.2.1,this.2.2.2.trans h.2.2.2⟩
theorem jo {w:World} {base:Nat} {e:TypeId} {aa g n ab:Nat} {xs:List Value}(h:w.ownsRow base e aa(.slice(some⟨g,0,none⟩)n ab)n xs)(j:Nat)(u:Value):
  (w.setCell⟨g,j,none⟩u).ownsRow base e aa(.slice(some⟨g,0,none⟩)n ab)n(xs.set j u):=by
 obtain⟨h1,h2⟩:=h;refine⟨by simpa using h1, ?_⟩;rcases h2 with⟨e1,_⟩ | ⟨g',cap',cur,hv,hb,hh,h3,h4,h5,h6⟩
 ·cases e1
 ·simp only [Value.slice.injEq,Option.some.injEq,Addr.mk.injEq,true_and,and_true]at hv;obtain⟨rfl,rfl⟩:=hv;exact Or.inr⟨g,ab,cur.setIfInBounds j u,rfl,hb,heap_setCell_same w g j cur e u hh,h3,h4,by simpa using h5,by rw [<-h6,Array.toList_setIfInBounds,List.take_set]⟩
theorem kR {w w':World}(h:Below w.heap.size w w'):w.grownBy w' none:=⟨h.os,h.tape,h.output,h.size,fun k hk _=>h.block k hk⟩
end
section
open Go.RowKit
attribute [local go_sem] Go.World.cell?_alloc_some
def D4:List Ins:= [⟨2,0,0,0⟩,⟨1,1,0,1⟩,⟨4,0,1,0⟩,⟨3,0,0,0⟩]
def qO:List(List Ins):= [D4,D4]
def DZ:Array Value:= #[.int .i64 2, .int .i64 0, .int .i64 0, .int .i64 0, .int .i64 1, .int .i64 1, .int .i64 0, .int .i64 1, .int .i64 4, .int .i64 0, .int .i64 1, .int .i64 0, .int .i64 3, .int .i64 0, .int .i64 0, .int .i64 0]
theorem CW {w:World} {g:Nat} {ty:TypeId}(h:w.heap[g]?=some(.cells DZ ty(0,0))):CodeAt w(.slice(some⟨g,0,none⟩)4 4)D4:=by
 refine⟨some⟨g,0,none⟩,4,rfl,fun k hk=>⟨g,0,rfl, ?_⟩⟩;have aa:k=0\/k=1\/k=2\/k=3:=by simp [D4]at hk;omega
 simp only [World.cell?,h];rcases aa with rfl | rfl | rfl | rfl<;>exact⟨rfl,rfl,rfl,rfl⟩
theorem CM {w:World} {g g2:Nat} {ty ty2:TypeId}(h:w.heap[g]?=some(.cells DZ ty(0,0)))(h2:w.heap[g2]?=some(.cells #[.slice(some⟨g,0,none⟩)4 4, .slice(some⟨g,0,none⟩)4 4]ty2(0,0))):
  ProgAt w(.agg #[.slice(some⟨g2,0,none⟩)2 2])qO:=by
 refine⟨some⟨g2,0,none⟩,2,rfl,fun t ht=>⟨g2,0,rfl, .slice(some⟨g,0,none⟩)4 4, ?_, ?_⟩⟩
 ·have aa:t=0\/t=1:=by simp [qO]at ht;omega
  simp only [World.cell?,h2];rcases aa with rfl | rfl<;>rfl
 ·have aa:t=0\/t=1:=by simp [qO]at ht;omega
  rcases aa with rfl | rfl<;>exact CW h
theorem uK(w:World):Calls Tryz.prog 5 #[]w fun e w'=>∃ pv,e= .returned pv/\ProgAt w' pv qO/\w.grownBy w' none:=by
 go_enter Tryz.func5,Tryz.ntmps5
 go_wp2_with fail
 refine bodyPost_ret(v:= .agg #[.slice(some⟨w.heap.size+1+1,0,none⟩)2 2]) ?_ rfl⟨_,rfl,CM(g:=w.heap.size+1)(ty:=65)(ty2:=66) ?_ ?_,ij(ij(ij(il _ _)))⟩
 ·simp [results,Tryz.results5,go_sem]
 ·rw [Below.heap_alloc _ _ _(by simp)];have:=heap_alloc_new(w.alloc(.cells #[.slice(some⟨w.heap.size+1+1,0,none⟩)2 2]37))(.cells DZ 65);simp only [World.size_alloc]at this;exact this
 ·have:=heap_alloc_new((w.alloc(.cells #[.slice(some⟨w.heap.size+1+1,0,none⟩)2 2]37)).alloc(.cells DZ 65))(.cells #[.slice(some⟨w.heap.size+1,0,none⟩)4 4, .slice(some⟨w.heap.size+1,0,none⟩)4 4]66);simp only [World.size_alloc]at this;exact this
end
section
open Go.RowKit
attribute [local go_sem] Go.World.cell?_alloc_some
def kd(op:Int):Int × Int × Int:=
 if op=1 then(4,0,1)else if 2<=op/\op<=7 then(4,4,0)else if op=8 then(4,0,2)else if op=9\/op=10 then(3,0,0)else if op=11 then(4,0,0)else(-1,0,0)
def kB(v n:Int):Bool:=v==0 || (decide(0<v)&& decide(v<n))
def kj(c v n:Int):Bool:=c==1 || v==0 || (c==2 && decide(0<v)&& decide(v<=n))
def nQ(i:Ins)(n:Int):Bool:= !decide((kd i.op).1<0)&& kB i.a(kd i.op).1 && kB i.b(kd i.op).2.1 && kj(kd i.op).2.2 i.n n
theorem xJ(v:Int):kB v 4=jA v 4:=by
 unfold kB jA;rw [Bool.eq_iff_iff];simp;omega
theorem vZ(v:Int):kB v 3=jA v 3:=by
 unfold kB jA;rw [Bool.eq_iff_iff];simp;omega
theorem yj(v:Int):kB v 0=(v==0):=by
 unfold kB;rw [Bool.eq_iff_iff];simp;omega
theorem yw(v n:Int)(hn:0<=n):kj 2 v n=jA v(n+1):=by
 unfold kj jA;rw [Bool.eq_iff_iff];simp;omega
theorem Fh(i:Ins)(n:Int)(hn:0<=n):nQ i n=lL i n:=by
 obtain⟨op,a,b,m⟩:=i;by_cases h:1<=op/\op<=11
 ·have hc:op=1\/op=2\/op=3\/op=4\/op=5\/op=6\/op=7\/op=8\/op=9\/op=10\/op=11:=by omega
  have z0:kj 0 m n=(m==0):=by unfold kj;simp
  have z1:kj 1 m n=true:=by unfold kj;simp
  have z2:=yw m n hn;rcases hc with rfl | rfl | rfl | rfl | rfl | rfl | rfl | rfl | rfl | rfl | rfl<;>simp [nQ,lL,kd,shp,mw,xJ,vZ,yj,z0,z1,z2,Bool.and_assoc]
 ·have hs:kd op=(-1,0,0):=by
   unfold kd;rw [if_neg(by omega),if_neg(by omega),if_neg(by omega),if_neg(by omega),if_neg(by omega)]
  have hv:lL⟨op,a,b,m⟩n=false:=by
   simp only [lL];by_cases h1:1<=op
   ·have:¬op<=11:=by omega
    simp [this]
   ·simp [h1]
  rw [hv];simp [nQ,hs]
theorem xh(v n:Int)(w:World):Calls Tryz.prog 54 #[.int .i64 v, .int .i64 n]w fun e w'=>e= .returned(.bool(kB v n))/\w'=w:=by
 by_cases h0:v=0
 ·have HB:Hid(kB v n=true):=by unfold Hid kB;simp [h0]
  subst h0;go_enter Tryz.func54,Tryz.ntmps54
  go_wp2_with fail
  go_ret;exact⟨by rw [HB.out];rfl,rfl⟩
 ·have h0':(v==0)=false:=by simpa using h0
  by_cases h1:0<v
  ·by_cases h2:v<n
   ·have HB:Hid(kB v n=true):=by unfold Hid kB;simp [h1,h2]
    go_enter Tryz.func54,Tryz.ntmps54
    go_wp2_with fail
    go_ret;exact⟨by rw [HB.out];rfl,rfl⟩
   ·have HB:Hid(kB v n=false):=by unfold Hid kB;simp [h0,h2]
    have h3:n<=v:=by omega
    go_enter Tryz.func54,Tryz.ntmps54
    go_wp2_with fail
    go_ret;exact⟨by rw [HB.out];rfl,rfl⟩
  ·have HB:Hid(kB v n=false):=by unfold Hid kB;simp [h0,h1]
   have h3:v<=0:=by omega
   go_enter Tryz.func54,Tryz.ntmps54
   go_wp2_with fail
   go_ret;exact⟨by rw [HB.out];rfl,rfl⟩
def rr(x:Int × Int × Int):Value:= .tuple #[.int .i64 x.1, .int .i64 x.2.1, .int .i64 x.2.2]
theorem Ez(op:Int)(w:World):Calls Tryz.prog 53 #[.int .i64 op]w fun e w'=>e= .returned(rr(kd op))/\w'=w:=by
 by_cases h:1<=op/\op<=11
 ·have hc:op=1\/op=2\/op=3\/op=4\/op=5\/op=6\/op=7\/op=8\/op=9\/op=10\/op=11:=by omega
  rcases hc with rfl | rfl | rfl | rfl | rfl | rfl | rfl | rfl | rfl | rfl | rfl
  all_goals
   go_enter Tryz.func53,Tryz.ntmps53
   go_wp2_with fail
   refine bodyPost_ret(v:=rr(kd _))(by simp [results,Tryz.results53,go_sem,rr,kd])rfl⟨rfl,rfl⟩
 ·have hs:kd op=(-1,0,0):=by
   unfold kd;rw [if_neg(by omega),if_neg(by omega),if_neg(by omega),if_neg(by omega),if_neg(by omega)]
  have n1:(op==1)=false:=by simp;omega
  have n2:(op==2)=false:=by simp;omega
  have n3:(op==3)=false:=by simp;omega
  have n4:(op==4)=false:=by simp;omega
  have n5:(op==5)=false:=by simp;omega
  have n6:(op==6)=false:=by simp;omega
  have n7:(op==7)=false:=by simp;omega
  have n8:(op==8)=false:=by simp;omega
  have n9:(op==9)=false:=by simp;omega
  have n10:(op==10)=false:=by simp;omega
  have n11:(op==11)=false:=by simp;omega
  rw [hs];clear hs h;go_enter Tryz.func53,Tryz.ntmps53
  go_wp2_with fail
  refine bodyPost_ret(v:=rr(-1,0,0))(by simp [results,Tryz.results53,go_sem,rr])rfl⟨rfl,rfl⟩
end
section
open Go.RowKit
attribute [local go_sem] Go.World.cell?_alloc_some
def yN(p:List(List Ins)):Bool:=decide(1<=p.length)&&(decide(p.length<=4)&& p.all fun c=>decide(c.length<=16)&& c.all fun i=>nQ i c.length)
theorem zK(p:List(List Ins)):yN p=iR p:=by
 unfold yN iR kW;congr 2
 congr 1
 funext c
 congr 2
 funext i
 exact Fh i _(by omega)
theorem uz {α:Type}(l:List α)(f:α->Bool)(k:Nat)(hk:k<l.length)(h:f l[k]=false):l.all f=false:=by
 rw [List.all_eq_false];exact⟨_,List.getElem_mem hk,by simp [h]⟩
theorem wX {α:Type}(l:List α)(f:α->Bool)(k:Nat)(hk:k<l.length)(h:(l.take k).all f=true)(h2:f l[k]=true):(l.take(k+1)).all f=true:=by
 rw [List.take_succ_eq_append_getElem hk,List.all_append,h];simp [h2]
theorem mE(p:List(List Ins))(pv:Value)(w:World)(hP:ProgAt w pv p)(hp:p.length<=5864062014634)(aH:∀ c∈p,c.length<=4398046510976):
  Calls Tryz.prog 24 #[pv]w fun e w'=>e= .returned(.int .i64(je p))/\w.grownBy w' none:=by
 have HP:=hZ hP;have aV:=hZ aH;obtain⟨ao,ag,rfl⟩:=hP.form;clear hP aH;have q0:(p.length:Int)<=5864062014634:=by omega
 have aA:Hid(yN p=false->je p=1):=fun e=>by rw [zK]at e;unfold je;simp [e]
 have aP:Hid(yN p=true->je p=0):=fun e=>by rw [zK]at e;unfold je;simp [e]
 by_cases aj:1<=p.length/\p.length<=4
 ·have g1:(1:Int)<=p.length:=by omega
  have g4:(p.length:Int)<=4:=by omega
  have av:Hid(∀ r,(p.all fun c=>decide(c.length<=16)&& c.all fun i=>nQ i c.length)=r->yN p=r):=fun r e=>by unfold yN;rw [e];simp [aj.1,aj.2]
  go_enter Tryz.func24,Tryz.ntmps24
  go_wp2_with fail
  have au:w.grownBy(w.alloc(.cells #[.slice ao p.length ag]37))none:=ij(il _ _);have am:=heap_alloc_new w(.cells #[.slice ao p.length ag]37);generalize w.alloc(.cells #[.slice ao p.length ag]37)=w1 at au am ⊢;have aK:=hZ am;have ah:=hZ au;have hbx:w.heap.size<w1.heap.size:=(Array.getElem?_eq_some_iff.1 am).1;clear au am;go_loopw [3](fun i w'=>∃ t:Nat,t<=p.length/\i= .int .i64 t/\Hid(w1.grownBy w' none)/\Hid((p.take t).all(fun c=>decide(c.length<=16)&& c.all fun i=>nQ i c.length)=true))(fun i _=>p.length - (intOf i).toNat)
  case atStart=>exact⟨0,Nat.zero_le _,rfl,hZ(il _ _),by simp [Hid]⟩
  case round=>
   obtain⟨t,ht,rfl,HG,HA⟩:=hrel;obtain⟨w5,aG⟩:∃ w5,w5=wr:=⟨_,rfl⟩;rw [<-aG]at HG ⊢;clear aG;have c0:w5.cell?⟨w.heap.size,0,none⟩=some(.slice ao p.length ag):=ie HG.out _ _(by have:=aK.out;simp [World.cell?,this]);by_cases al:t<p.length
   ·obtain⟨ao',cap',e1,ac⟩:=HP.out;obtain⟨pg,po,e2,rv,r1,r2⟩:=ac t al;simp only [Value.agg.injEq,Array.mk.injEq,List.cons.injEq,Value.slice.injEq,and_true,true_and]at e1;obtain⟨e1,aO⟩:=e1;subst e1 aO e2;have hpl:p[t].length<=4398046510976:=aV.out _(List.getElem_mem al);obtain⟨ca,cc,rfl,aB⟩:=r2;have d0:w5.cell?⟨pg,po+t,none⟩=some(.slice ca p[t].length cc):=ie(ic ah.out HG.out)_ _ r1;have HF:Hid(∀ r,(decide(p[t].length<=16)&& p[t].all fun i=>nQ i p[t].length)=r->(r=false->(p.all fun c=>decide(c.length<=16)&& c.all fun i=>nQ i c.length)=false)/\(r=true->(p.take(t+1)).all(fun c=>decide(c.length<=16)&& c.all fun i=>nQ i c.length)=true)):=fun r e=>
     ⟨fun e2=>uz p _ t al(by rw [e,e2]),fun e2=>wX p _ t al HA.out(by rw [e,e2])⟩
    have aT:=hZ r1;have aU:=hZ aB;clear ac r1 aB;generalize p[t]=c at*;have t0:(0:Int)<=(t:Int):=by omega
    have t1:(t:Int)<p.length:=by omega
    have t2:(c.length:Int)<=4398046510976:=by omega
    by_cases aN:c.length<=16
    ·have t3:(c.length:Int)<=16:=by omega
     go_wp2_with fail
     go_loopw [5](fun i w'=>∃ k:Nat,k<=c.length/\i= .int .i64 k/\Hid(w1.grownBy w' none)/\Hid((c.take k).all(fun i=>nQ i c.length)=true))(fun i _=>c.length - (intOf i).toNat)
     case atStart=>exact⟨0,Nat.zero_le _,rfl,HG,by simp [Hid]⟩
     case round=>
      clear c0 d0 HG;obtain⟨k,hk,rfl,HG,aJ⟩:=hrel;obtain⟨w7,aD⟩:∃ w7,w7=wr:=⟨_,rfl⟩;rw [<-aD]at HG ⊢;clear aD;by_cases ay:k<c.length
      ·obtain⟨ig,io,rfl,x1,x2,x3,x4⟩:=aU.out k ay;have ae:=ic ah.out HG.out;have c0:w7.cell?⟨w.heap.size,0,none⟩=some(.slice(some⟨pg,po,none⟩)p.length ag):=ie HG.out _ _(by have:=aK.out;simp [World.cell?,this]);have d0:w7.cell?⟨pg,po+t,none⟩=some(.slice(some⟨ig,io,none⟩)c.length cc):=ie ae _ _ aT.out;have y1:=ie ae _ _ x1;have y2:=ie ae _ _ x2;have y3:=ie ae _ _ x3;have y4:=ie ae _ _ x4;have aF:Hid(∀ r,nQ c[k]c.length=r->(r=false->(c.all fun i=>nQ i c.length)=false)/\(r=true->(c.take(k+1)).all(fun i=>nQ i c.length)=true)):=fun r e=>
        ⟨fun e2=>uz c _ k ay(by rw [e,e2]),fun e2=>wX c _ k ay aJ.out(by rw [e,e2])⟩
       clear x1 x2 x3 x4 ae;generalize c[k]=ins at*;obtain⟨op,ia,ib,im⟩:=ins;simp only at y1 y2 y3 y4;have s0:(0:Int)<=(k:Int):=by omega
       have s1:(k:Int)<c.length:=by omega
       go_wp2_with fail
       have az:w7.grownBy(w7.alloc(.cells #[.int .i64 op, .int .i64 ia, .int .i64 ib, .int .i64 im]65))none:=ij(il _ _);have ai:=heap_alloc_new w7(.cells #[.int .i64 op, .int .i64 ia, .int .i64 ib, .int .i64 im]65);generalize w7.alloc(.cells #[.int .i64 op, .int .i64 ia, .int .i64 ib, .int .i64 im]65)=w8 at az ai ⊢;have z1:w8.cell?⟨w7.heap.size,1,none⟩=some(.int .i64 ia):=by simp [World.cell?,ai]
       have z2:w8.cell?⟨w7.heap.size,2,none⟩=some(.int .i64 ib):=by simp [World.cell?,ai]
       have z3:w8.cell?⟨w7.heap.size,3,none⟩=some(.int .i64 im):=by simp [World.cell?,ai]
       have aE:=hZ(ic HG.out az);clear az ai y1 y2 y3 y4 d0 c0 HG;refine(Ez op w8).mono ?_;rintro e w9⟨rfl,ab⟩;have ab:=ab.symm;subst ab;have ap:Hid(∀ r,(!decide((kd op).1<0)&& kB ia(kd op).1 && kB ib(kd op).2.1 && kj(kd op).2.2 im c.length)=r->nQ⟨op,ia,ib,im⟩c.length=r):=fun r e=>e
       have ak:(kd op).2.2=0\/(kd op).2.2=1\/(kd op).2.2=2:=by
        unfold kd;repeat' split
        all_goals simp
       have an:(kd op).1= -1\/0<=(kd op).1:=by
        unfold kd;repeat' split
        all_goals simp
       unfold rr;generalize kd op=sr at*;obtain⟨sa,sb,sc⟩:=sr;simp only at ap ak an ⊢;go_wp2_with fail
       refine(xh ia sa w8).mono ?_;rintro e w9⟨rfl,ab⟩;have ab:=ab.symm;subst ab;go_wp2_with fail
       refine(xh ib sb w8).mono ?_;rintro e w9⟨rfl,ab⟩;have ab:=ab.symm;subst ab;generalize kB ia sa=xb at*;generalize kB ib sb=yb at*;have aM:Hid(∀ r,kj sc im c.length=r->nQ⟨op,ia,ib,im⟩c.length=(!decide(sa<0)&& xb && yb && r)):=fun r e=>ap.out _(by rw [e])
       clear ap;go_upto_region 16 with fail
       go_cut [12](fun zv w'=>zv= .bool(kj sc im c.length)/\w'=w8)
       case first=>
        by_cases af:im=0
        ·have aa:kj sc im c.length=true:=by unfold kj;simp [af]
         have ax:(im==0)=true:=by simpa using af
         rcases ak with rfl | rfl | rfl
         all_goals
          go_wp2_with fail
          go_meet
          exact⟨by rw [aa],rfl⟩
        ·have ax:(im==0)=false:=by simpa using af
         rcases ak with rfl | rfl | rfl
         ·have aa:kj 0 im c.length=false:=by unfold kj;simp [af]
          go_wp2_with fail
          go_meet
          exact⟨by rw [aa],rfl⟩
         ·have aa:kj 1 im c.length=true:=by unfold kj;simp
          go_wp2_with fail
          go_meet
          exact⟨by rw [aa],rfl⟩
         ·by_cases aI:0<im
          ·by_cases aL:im<=(c.length:Int)
           ·have aa:kj 2 im c.length=true:=by unfold kj;simp [aI,aL]
            go_wp2_with fail
            go_meet
            exact⟨by rw [aa],rfl⟩
           ·have aa:kj 2 im c.length=false:=by unfold kj;simp [af,aL]
            have hic':(c.length:Int)<im:=by omega
            go_wp2_with fail
            go_meet
            exact⟨by rw [aa],rfl⟩
          ·have aa:kj 2 im c.length=false:=by unfold kj;simp [af,aI]
           have hip':im<=0:=by omega
           go_wp2_with fail
           go_meet
           exact⟨by rw [aa],rfl⟩
       case rest=>
       obtain⟨rfl,aw⟩:=hcut;have ad:=aw.symm;subst ad;generalize kj sc im c.length=zb at*;have ar:=hZ(aM.out zb rfl);clear aM z1 z2 z3 ak;go_upto_region 17 with fail
       go_cut [101](fun bv w'=>bv= .bool(!nQ⟨op,ia,ib,im⟩c.length)/\w'=w8)
       case first=>
        rcases an with rfl | an
        ·have aq:nQ⟨op,ia,ib,im⟩c.length=false:=by rw [ar.out];simp
         go_wp2_with fail
         go_meet
         exact⟨by rw [aq];rfl,rfl⟩
        ·have aR:¬sa<0:=by omega
         have aq:nQ⟨op,ia,ib,im⟩c.length=(xb && yb && zb):=by rw [ar.out];simp [aR]
         cases xb<;>cases yb<;>cases zb
         all_goals
          go_wp2_with fail
          go_meet
          exact⟨by rw [aq];rfl,rfl⟩
       case rest=>
       obtain⟨rfl,aw⟩:=hcut;have ad:=aw.symm;subst ad;clear ar an;have aC:=hZ(aF.out(nQ⟨op,ia,ib,im⟩c.length)rfl);clear aF;generalize nQ⟨op,ia,ib,im⟩c.length=rb at*;cases rb
       ·have HE:Hid(je p=1):=by
         refine aA.out(av.out _ ?_);refine(HF.out _ rfl).1 ?_;rw [aC.out.1 rfl];simp
        go_wp2_with fail
        go_ret;exact⟨by rw [HE.out];rfl,ic ah.out aE.out⟩
       ·have aS:=hZ(aC.out.2 rfl);go_wp2_with fail
        go_roundw
        case rel=>exact⟨k+1,by omega,by go_num,aE,aS⟩
        case measure=>simp [intOf];omega
      ·have s1:(c.length:Int)<=(k:Int):=by omega
       have aQ:Hid((p.take(t+1)).all(fun c=>decide(c.length<=16)&& c.all fun i=>nQ i c.length)=true):=by
        refine(HF.out _ rfl).2 ?_;have:=aJ.out;rw [List.take_of_length_le(by omega)]at this;rw [this];simp [aN]
       go_wp2_with fail
       go_roundw
       case rel=>exact⟨t+1,by omega,by go_num,HG,aQ⟩
       case measure=>simp [intOf];omega
    ·have t3:(16:Int)<c.length:=by omega
     have HE:Hid(je p=1):=by
      refine aA.out(av.out _ ?_);refine(HF.out _ rfl).1 ?_;simp [aN]
     go_wp2_with fail
     go_ret;exact⟨by rw [HE.out];rfl,ic ah.out HG.out⟩
   ·have t1:(p.length:Int)<=(t:Int):=by omega
    have HE:Hid(je p=0):=by
     refine aP.out(av.out _ ?_);have:=HA.out;rw [List.take_of_length_le(by omega)]at this;exact this
    go_wp2_with fail
    go_ret;exact⟨by rw [HE.out];rfl,ic ah.out HG.out⟩
 ·have HE:Hid(je p=1):=aA.out(by
   unfold yN;by_cases h1:1<=p.length
   ·have h4:¬p.length<=4:=by omega
    simp [h4]
   ·simp [h1])
  by_cases h1:p.length<1
  ·have g1:(p.length:Int)<1:=by omega
   go_enter Tryz.func24,Tryz.ntmps24
   go_wp2_with fail
   go_ret;exact⟨by rw [HE.out];rfl,ij(il _ _)⟩
  ·have g1:(1:Int)<=p.length:=by omega
   have g4:(4:Int)<p.length:=by omega
   go_enter Tryz.func24,Tryz.ntmps24
   go_wp2_with fail
   go_ret;exact⟨by rw [HE.out];rfl,ij(il _ _)⟩
end
section
open Go.RowKit
attribute [local go_sem] Go.World.cell?_alloc_some
theorem vq(b ab n aa c2 g o t len c:Nat)(ao:Option Addr)(x:Int)(w:World)(ht:t<n)(ht4:t<4)(hlen:len<=16)
  (hp:w.cell?⟨b,0,none⟩=some(.slice(some⟨g,o,none⟩)n aa))(ha:w.cell?⟨b,1,none⟩=some(.slice(some⟨ab,0,none⟩)n c2))
  (hr:w.cell?⟨g,o+t,none⟩=some(.slice ao len c))(hx:w.cell?⟨ab,t,none⟩=some(.int .i64 x)):
  Calls Tryz.prog 38 #[.pointer(some⟨b,0,none⟩), .int .i64 t]w fun e w'=>e= .returned(.bool(decide((len:Int)<=x)))/\jr w' w:=by
 have h1:(0:Int)<=(t:Int):=by omega
 have h2:(t:Int)<4:=by omega
 have h3:(t:Int)<n:=by omega
 have h4:(len:Int)<=16:=by omega
 go_enter Tryz.func38,Tryz.ntmps38
 go_wp2
 go_region
 all_goals(go_wp2;go_ret;exact⟨rfl,rfl,rfl,rfl,rfl⟩)
theorem wR(b ab n ac c2 g o t len c:Nat)(ao:Option Addr)(x:Int)(w:World)(ht:t<n)(ad:t<4)(aa:len<=16)(hd:(len:Int)<=x)
  (hp:w.cell?⟨b,0,none⟩=some(.slice(some⟨g,o,none⟩)n ac))(ha:w.cell?⟨b,1,none⟩=some(.slice(some⟨ab,0,none⟩)n c2))
  (hr:w.cell?⟨g,o+t,none⟩=some(.slice ao len c))(hx:w.cell?⟨ab,t,none⟩=some(.int .i64 x)):
  Calls Tryz.prog 36 #[.pointer(some⟨b,0,none⟩), .int .i64 t]w fun e w'=>e= .returned(.bool false)/\w.grownBy w' none:=by
 go_enter Tryz.func36,Tryz.ntmps36
 go_wp2_with fail
 refine(vq b ab n ac c2 g o t len c ao x w ht ad aa hp ha hr hx).mono ?_;rintro e w'⟨rfl,hl⟩;simp only [hd,decide_true];go_wp2
 go_ret;exact⟨rfl,jd(il _ _)hl⟩
theorem CZ(b ab n ag c2 g o t len c h ho k:Nat)(i:Ins)(ow:Int)(w:World)(ht:t<n)(ah:t<4)(af:len<=16)(hk:k<len)
  (ha0:0<=i.a)(ae:i.op=9->i.a<3)
  (hp:w.cell?⟨b,0,none⟩=some(.slice(some⟨g,o,none⟩)n ag))(ha:w.cell?⟨b,1,none⟩=some(.slice(some⟨ab,0,none⟩)n c2))
  (hr:w.cell?⟨g,o+t,none⟩=some(.slice(some⟨h,ho,none⟩)len c))(hx:w.cell?⟨ab,t,none⟩=some(.int .i64 k))
  (y1:w.cell?⟨h,ho+k*4,none⟩=some(.int .i64 i.op))(y2:w.cell?⟨h,ho+k*4+1,none⟩=some(.int .i64 i.a))
  (y3:w.cell?⟨h,ho+k*4+2,none⟩=some(.int .i64 i.b))(y4:w.cell?⟨h,ho+k*4+3,none⟩=some(.int .i64 i.n))
  (_hb:b<w.heap.size)(aa:i.op=9->w.cell?⟨b,7+i.a.toNat,none⟩=some(.int .i64 ow)):
  Calls Tryz.prog 36 #[.pointer(some⟨b,0,none⟩), .int .i64 t]w fun e w'=>e= .returned(.bool(!(i.op==9) || decide(ow<0)))/\w.grownBy w' none:=by
 obtain⟨op,a,ib,im⟩:=i;simp only at*;have h1:(0:Int)<=(t:Int):=by omega
 have h2:(t:Int)<4:=by omega
 have h3:(t:Int)<n:=by omega
 have h4:(0:Int)<=(k:Int):=by omega
 have h5:(k:Int)<len:=by omega
 have ai:decide((len:Int)<=(k:Int))=false:=by simp;omega
 go_enter Tryz.func36,Tryz.ntmps36
 go_wp2_with fail
 refine(vq b ab n ag c2 g o t len c _ k w ht ah af hp ha hr hx).mono ?_;rintro e w1⟨rfl,hl⟩;have ac:w.grownBy w1 none:=jd(il _ _)hl;have HG:=hZ ac;simp only [ai];replace hp:=ie ac _ _ hp;replace ha:=ie ac _ _ ha;replace hr:=ie ac _ _ hr;replace hx:=ie ac _ _ hx;replace y1:=ie ac _ _ y1;replace y2:=ie ac _ _ y2;replace y3:=ie ac _ _ y3;replace y4:=ie ac _ _ y4;replace aa:Hid(op=9->w1.cell?⟨b,7+a.toNat,none⟩=some(.int .i64 ow)):=fun e=>ie ac _ _(aa e)
 clear ac hl;have n1:=World.new_ne w1 _ hp;have n2:=World.new_ne w1 _ hr;have n3:=World.new_ne w1 _ hx;have n4:=World.new_ne w1 _ y1;simp only at n1 n2 n3 n4;have m1:=Ne.symm n1;have m2:=Ne.symm n2;have m3:=Ne.symm n3;have m4:=Ne.symm n4;by_cases h9:op=9
 ·subst h9;have aa:=aa.out rfl;have ha3:=ae rfl;obtain⟨l,rfl⟩:∃ l:Nat,a=l:=⟨a.toNat,by omega⟩;simp only [Int.toNat_natCast]at aa;have h6:(l:Int)<3:=by omega
  clear ae;go_wp2
  go_region
  go_wp2
  go_quiet(fail)
  go_wp2
  go_ret;exact⟨by simp,iU _(ir(ij HG.out))⟩
 ·have h9':(op !=9)=true:=by simpa using h9
  have ad:(op==9)=false:=by simpa using h9
  clear ae h9;go_wp2
  go_region
  go_wp2
  go_quiet(fail)
  go_wp2
  go_ret;exact⟨by simp [ad],iU _(ir(ij HG.out))⟩
def jl(op a b:Int):Int × Bool:=
 if op=4 then(wrap64(a+b),true)else if op=5 then(wrap64(a - b),true)else if op=6 then(wrap64(a*b),true)else if b=0 then(a,false)else(wrap64(a.tdiv b),true)
theorem qA(op a b:Int)(w:World)(h:op=4\/op=5\/op=6\/op=7):
  Calls Tryz.prog 62 #[.int .i64 op, .int .i64 a, .int .i64 b]w fun e w'=>e= .returned(.tuple #[.int .i64(jl op a b).1, .bool(jl op a b).2])/\w'=w:=by
 rcases h with rfl | rfl | rfl | rfl
 ·go_enter Tryz.func62,Tryz.ntmps62
  go_wp2_with fail
  refine bodyPost_ret(v:= .tuple #[.int .i64(wrap64(a+b)), .bool true])(by simp [results,Tryz.results62,go_sem])rfl⟨rfl,rfl⟩
 ·go_enter Tryz.func62,Tryz.ntmps62
  go_wp2_with fail
  refine bodyPost_ret(v:= .tuple #[.int .i64(wrap64(a - b)), .bool true])(by simp [results,Tryz.results62,go_sem])rfl⟨rfl,rfl⟩
 ·go_enter Tryz.func62,Tryz.ntmps62
  go_wp2_with fail
  refine bodyPost_ret(v:= .tuple #[.int .i64(wrap64(a*b)), .bool true])(by simp [results,Tryz.results62,go_sem])rfl⟨rfl,rfl⟩
 ·have HR:Hid(jl 7 a b=if b=0 then(a,false)else(wrap64(a.tdiv b),true)):=by unfold Hid jl;simp
  by_cases h0:b=0
  ·subst h0;go_enter Tryz.func62,Tryz.ntmps62
   go_wp2_with fail
   refine bodyPost_ret(v:= .tuple #[.int .i64 a, .bool false])(by simp [results,Tryz.results62,go_sem])rfl⟨by rw [HR.out];rfl,rfl⟩
  ·have h0':(b==0)=false:=by simpa using h0
   by_cases hm:b= -1
   ·subst hm;have HT:Hid(a.tdiv(-1)= -a):=by unfold Hid;simp
    go_enter Tryz.func62,Tryz.ntmps62
    go_wp2_with fail
    refine bodyPost_ret(v:= .tuple #[.int .i64(wrap64(-a)), .bool true])(by simp [results,Tryz.results62,go_sem])rfl⟨by rw [HR.out,if_neg h0,HT.out],rfl⟩
   ·have hm':(b== -1)=false:=by simpa using hm
    go_enter Tryz.func62,Tryz.ntmps62
    go_wp2_with fail
    refine bodyPost_ret(v:= .tuple #[.int .i64(wrap64(a.tdiv b)), .bool true])(by simp [results,Tryz.results62,go_sem])rfl⟨by rw [HR.out,if_neg h0],rfl⟩
end
section
open Go.RowKit
attribute [local go_sem] Go.World.cell?_alloc_some
def tE(s:St)(l:Nat):Int:=if s.held l=true then s.own l else -1
def atF(n:Nat)(s:St):List Value:=(List.range n).map fun t=> .int .i64(s.next t)
def wT(ps:Value)(ab rb n:Nat)(st:Value)(s:St)(k th a:Int):Array Value:=
 #[ps, .slice(some⟨ab,0,none⟩)n n, .slice(some⟨rb,0,none⟩)n n, .int .i64(s.vars 0), .int .i64(s.vars 1), .int .i64(s.vars 2), .int .i64(s.vars 3),
  .int .i64(tE s 0), .int .i64(tE s 1), .int .i64(tE s 2),st, .int .i64 k, .int .i64 th, .int .i64 a]
structure RunAt(w0 w:World)(b ab rb n:Nat)(ps st:Value)(s:St)(acc:List(Int × Int))(k th a:Int):Prop where
 main:w.heap[b]?=some(.cells(wT ps ab rb n st s k th a)51(0,0))
 ats:∃ ty,w.heap[ab]?=some(.cells(atF n s).toArray ty(0,0))
 regs:w.heap[rb]?=some(.cells(jm n s).toArray 28(0,0))
 row:w.ownsRow(b+1)76 2 st acc.length(iO acc)
 frame:w0.grownBy w none
 ab0:w0.heap.size<=ab
 rb0:w0.heap.size<=rb
 abb:ab<b
 rbb:rb<b
 ne:ab≠rb
theorem Dp {n t:Nat}(hn:n<=4)(h:t<n):(n=1/\t=0)\/(n=2/\t=0)\/(n=2/\t=1)\/(n=3/\t=0)\/(n=3/\t=1)\/(n=3/\t=2)\/(n=4/\t=0)\/(n=4/\t=1)\/(n=4/\t=2)\/(n=4/\t=3):=by omega
theorem Fs(s:St) {n t:Nat}(hn:n<=4)(h:t<n)(v:Int):(atF n s).toArray.setIfInBounds t(.int .i64 v)=(atF n(s.setNext t v)).toArray:=by
 rcases Dp hn h with⟨rfl,rfl⟩ | ⟨rfl,rfl⟩ | ⟨rfl,rfl⟩ | ⟨rfl,rfl⟩ | ⟨rfl,rfl⟩ | ⟨rfl,rfl⟩ | ⟨rfl,rfl⟩ | ⟨rfl,rfl⟩ | ⟨rfl,rfl⟩ | ⟨rfl,rfl⟩<;>rfl
theorem Bl(s:St) {n t r:Nat}(hn:n<=4)(h:t<n)(hr:r<4)(v:Int):(jm n s).toArray.setIfInBounds(t*4+r)(.int .i64 v)=(jm n(s.setReg t r v)).toArray:=by
 rcases Dp hn h with⟨rfl,rfl⟩ | ⟨rfl,rfl⟩ | ⟨rfl,rfl⟩ | ⟨rfl,rfl⟩ | ⟨rfl,rfl⟩ | ⟨rfl,rfl⟩ | ⟨rfl,rfl⟩ | ⟨rfl,rfl⟩ | ⟨rfl,rfl⟩ | ⟨rfl,rfl⟩<;>rcases lt4 hr with rfl | rfl | rfl | rfl<;>rfl
theorem RunAt.cell {w0 w:World} {b ab rb n:Nat} {ps st:Value} {s:St} {aa:List(Int × Int)} {k th a:Int}(h:RunAt w0 w b ab rb n ps st s aa k th a)(j:Nat):
  w.cell?⟨b,j,none⟩=(wT ps ab rb n st s k th a)[j]?/\w.frozen?⟨b,j,none⟩=false:=by
 simp [World.cell?,World.frozen?,h.main]
theorem RunAt.at_ {w0 w:World} {b ab rb n:Nat} {ps st:Value} {s:St} {aa:List(Int × Int)} {k th a:Int}(h:RunAt w0 w b ab rb n ps st s aa k th a) {t:Nat}(ht:t<n):
  w.cell?⟨ab,t,none⟩=some(.int .i64(s.next t))/\w.frozen?⟨ab,t,none⟩=false:=by
 obtain⟨ty,h⟩:=h.ats;constructor
 ·simp [World.cell?,h,atF,ht]
 ·simp [World.frozen?,h]
theorem RunAt.reg {w0 w:World} {b ab rb n:Nat} {ps st:Value} {s:St} {aa:List(Int × Int)} {k th a:Int}(h:RunAt w0 w b ab rb n ps st s aa k th a)(hn:n<=4) {t r:Nat}(ht:t<n)(hr:r<4):
  w.cell?⟨rb,t*4+r,none⟩=some(.int .i64(s.regs t r))/\w.frozen?⟨rb,t*4+r,none⟩=false:=by
 have h:=h.regs;constructor
 ·simp only [World.cell?,h];rcases Dp hn ht with⟨rfl,rfl⟩ | ⟨rfl,rfl⟩ | ⟨rfl,rfl⟩ | ⟨rfl,rfl⟩ | ⟨rfl,rfl⟩ | ⟨rfl,rfl⟩ | ⟨rfl,rfl⟩ | ⟨rfl,rfl⟩ | ⟨rfl,rfl⟩ | ⟨rfl,rfl⟩<;>rcases lt4 hr with rfl | rfl | rfl | rfl<;>rfl
 ·simp [World.frozen?,h]
theorem RunAt.grown {w0 w w':World} {b ab rb n:Nat} {ps st:Value} {s:St} {aa:List(Int × Int)} {k th a:Int}(h:RunAt w0 w b ab rb n ps st s aa k th a)(hg:w.grownBy w' none):RunAt w0 w' b ab rb n ps st s aa k th a:=by
 obtain⟨t1,h1⟩:=h.ats;have h2:=h.regs;have B:∀ i o,w.heap[i]?=some o->w'.heap[i]?=some o:=fun i o e=>by rw [hg.block i(Array.getElem?_eq_some_iff.1 e).1(by simp)];exact e
 exact⟨B _ _ h.main,⟨t1,B _ _ h1⟩,B _ _ h2,iA h.row hg(fun _ e=>by cases e),ic h.frame hg,h.ab0,h.rb0,h.abb,h.rbb,h.ne⟩
theorem RunAt.setNext {w0 w:World} {b ab rb n:Nat} {ps st:Value} {s:St} {aa:List(Int × Int)} {k th a:Int}(h:RunAt w0 w b ab rb n ps st s aa k th a)(hn:n<=4) {t:Nat}(ht:t<n)(v:Int):
  RunAt w0(w.setCell⟨ab,t,none⟩(.int .i64 v))b ab rb n ps st(s.setNext t v)aa k th a:=by
 obtain⟨t1,h1⟩:=h.ats;have h2:=h.regs;have:=h.abb;refine⟨?_,⟨t1, ?_⟩, ?_,ownsRow_setCell_below h.row(by simp;omega)_,iC h.frame h.ab0,h.ab0,h.rb0,h.abb,h.rbb,h.ne⟩
 ·rw [Below.heap_setCell w _ _ b(by simp;omega)];exact h.main
 ·rw [heap_setCell_same w ab t _ _ _ h1,Fs s hn ht]
 ·rw [Below.heap_setCell w _ _ rb(by simp;exact fun e=>h.ne e.symm)];exact h2
theorem RunAt.setReg {w0 w:World} {b ab rb n:Nat} {ps st:Value} {s:St} {aa:List(Int × Int)} {k th a:Int}(h:RunAt w0 w b ab rb n ps st s aa k th a)(hn:n<=4) {t r:Nat}(ht:t<n)(hr:r<4)(v:Int):
  RunAt w0(w.setCell⟨rb,t*4+r,none⟩(.int .i64 v))b ab rb n ps st(s.setReg t r v)aa k th a:=by
 obtain⟨t1,h1⟩:=h.ats;have h2:=h.regs;have:=h.rbb;refine⟨?_,⟨t1, ?_⟩, ?_,ownsRow_setCell_below h.row(by simp;omega)_,iC h.frame h.rb0,h.ab0,h.rb0,h.abb,h.rbb,h.ne⟩
 ·rw [Below.heap_setCell w _ _ b(by simp;omega)];exact h.main
 ·rw [Below.heap_setCell w _ _ ab(by simp;exact h.ne)];exact h1
 ·rw [heap_setCell_same w rb _ _ _ _ h2,Bl s hn ht hr]
theorem RunAt.setMain {w0 w:World} {b ab rb n:Nat} {ps st ac:Value} {s s':St} {ae aa:List(Int × Int)} {k th a k' ad a':Int}(h:RunAt w0 w b ab rb n ps st s ae k th a) {j:Nat} {v:Value}
  (e:(wT ps ab rb n st s k th a).setIfInBounds j v=wT ps ab rb n ac s' k' ad a')(e1:s'.next=s.next)(e2:s'.regs=s.regs)(hr:w.ownsRow(b+1)76 2 ac aa.length(iO aa)):
  RunAt w0(w.setCell⟨b,j,none⟩v)b ab rb n ps ac s' aa k' ad a':=by
 obtain⟨t1,h1⟩:=h.ats;have h2:=h.regs;have:=h.abb;have:=h.rbb;refine⟨?_,⟨t1, ?_⟩, ?_,ownsRow_setCell_below hr(by simp)_,iC h.frame(by have:=h.ab0;omega),h.ab0,h.rb0,h.abb,h.rbb,h.ne⟩
 ·rw [heap_setCell_same w b j _ _ _ h.main,e]
 ·rw [Below.heap_setCell w _ _ ab(by simp;omega),h1];simp [atF,e1]
 ·rw [Below.heap_setCell w _ _ rb(by simp;omega),h2];simp [jm,e2]
theorem RunAt.setVar {w0 w:World} {b ab rb n:Nat} {ps st:Value} {s:St} {aa:List(Int × Int)} {k th a:Int}(h:RunAt w0 w b ab rb n ps st s aa k th a) {x:Nat}(hx:x<4)(v:Int):
  RunAt w0(w.setCell⟨b,3+x,none⟩(.int .i64 v))b ab rb n ps st(s.setVar x v)aa k th a:=by
 refine h.setMain ?_ rfl rfl h.row;rcases lt4 hx with rfl | rfl | rfl | rfl<;>rfl
theorem RunAt.setLock {w0 w:World} {b ab rb n:Nat} {ps st:Value} {s:St} {aa:List(Int × Int)} {k th a:Int}(h:RunAt w0 w b ab rb n ps st s aa k th a) {l:Nat}(hl:l<3)(hd:Bool)(o:Int):
  RunAt w0(w.setCell⟨b,7+l,none⟩(.int .i64(if hd=true then o else -1)))b ab rb n ps st(s.setLock l hd o)aa k th a:=by
 refine h.setMain ?_ rfl rfl h.row;rcases lt3 hl with rfl | rfl | rfl<;>rfl
theorem RunAt.like {w0 w w':World} {b ab rb n:Nat} {ps st:Value} {s:St} {acc:List(Int × Int)} {k th a:Int}(h:RunAt w0 w b ab rb n ps st s acc k th a)(hl:jr w' w):RunAt w0 w' b ab rb n ps st s acc k th a:=h.grown(jd(il _ _)hl)
theorem RunAt.own {w0 w:World} {b ab rb n:Nat} {ps st:Value} {s:St} {aa:List(Int × Int)} {k th a:Int}(h:RunAt w0 w b ab rb n ps st s aa k th a) {l:Nat}(hl:l<3):w.cell?⟨b,7+l,none⟩=some(.int .i64(tE s l)):=by
 rw [(h.cell _).1];rcases lt3 hl with rfl | rfl | rfl<;>rfl
theorem RunAt.var {w0 w:World} {b ab rb n:Nat} {ps st:Value} {s:St} {aa:List(Int × Int)} {k th a:Int}(h:RunAt w0 w b ab rb n ps st s aa k th a) {l:Nat}(hl:l<4):w.cell?⟨b,3+l,none⟩=some(.int .i64(s.vars l)):=by
 rw [(h.cell _).1];rcases lt4 hl with rfl | rfl | rfl | rfl<;>rfl
theorem wP(s:St)(t r:Nat):s.setReg t r(s.regs t r)=s:=by
 obtain⟨a,b,c,d,e⟩:=s;simp only [St.setReg,St.mk.injEq,true_and,and_true];funext t' r'
 by_cases h:t'=t/\r'=r
 ·simp [h.1,h.2]
 ·simp [h]
theorem ws {w:World} {base:Nat} {e:TypeId} {aa:Nat} {v:Value} {n:Nat} {xs:List Value}(h:w.ownsRow base e aa v n xs):v.ownBlock≠some w.heap.size:=by
 rcases h.2 with⟨e1,_⟩ | ⟨g',cap',cur,hv,hb,hh,_⟩
 ·rw [e1];simp [Value.ownBlock]
 ·rw [hv];have:=(Array.getElem?_eq_some_iff.1 hh).1;simp [Value.ownBlock];omega
theorem RunAt.push {w0 w w5:World} {b ab rb n:Nat} {ps st ad:Value} {s:St} {aa:List(Int × Int)} {k th a:Int} {x:Int × Int}(h:RunAt w0 w b ab rb n ps st s aa k th a)
  (hg:w.grownBy w5 st.ownBlock)(ac:w5.ownsRow(b+1)76 2 ad(aa.length+1)(iO aa++ [.int .i64 x.1, .int .i64 x.2])):
  RunAt w0(w5.setCell⟨b,10,none⟩ad)b ab rb n ps ad s(aa++ [x])k th a:=by
 obtain⟨t1,h1⟩:=h.ats;have h2:=h.regs;have e1:=h.abb;have e2:=h.rbb;have e3:=h.ab0;have ae:=iw h.row;have B:∀ i o,i<=b->w.heap[i]?=some o->w5.heap[i]?=some o:=fun i o hi e=>by
  rw [hg.block i(Array.getElem?_eq_some_iff.1 e).1(fun e=>by have:=ae _ e.symm;omega)];exact e
 refine⟨?_,⟨t1, ?_⟩, ?_,ownsRow_setCell_below ?_(by simp)_,iC(jD h.frame hg(fun q e=>by have:=ae q e;omega))(by omega),h.ab0,h.rb0,h.abb,h.rbb,h.ne⟩
 ·rw [heap_setCell_same w5 b 10 _ _ _(B _ _(Nat.le_refl _)h.main)];rfl
 ·rw [Below.heap_setCell w5 _ _ ab(by simp;omega)];exact B _ _(by omega)h1
 ·rw [Below.heap_setCell w5 _ _ rb(by simp;omega)];exact B _ _(by omega)h2
 ·rw [nu,List.length_append];exact ac
theorem EB(w0 w:World)(b ab rb n az g o t len c h ho kk:Nat)(st:Value)(s:St)(ae:List(Int × Int))(k th a:Int)(i:Ins)(hn:n<=4)(ht:t<n)(hlen:len<=16)(hk:kk<len)(hacc:ae.length<1048576)
  (hR:RunAt w0 w b ab rb n(.slice(some⟨g,o,none⟩)n az)st s ae k th a)(aF:s.next t=kk)
  (hr:w.cell?⟨g,o+t,none⟩=some(.slice(some⟨h,ho,none⟩)len c))
  (y1:w.cell?⟨h,ho+kk*4,none⟩=some(.int .i64 i.op))(y2:w.cell?⟨h,ho+kk*4+1,none⟩=some(.int .i64 i.a))
  (y3:w.cell?⟨h,ho+kk*4+2,none⟩=some(.int .i64 i.b))(y4:w.cell?⟨h,ho+kk*4+3,none⟩=some(.int .i64 i.n))(hv:lL i len=true)(s':St)(aM:s'=s.setNext t(kk+1))(ax:List(Int × Int))(aJ:ax=ae++ [((t:Int),(kk:Int))]):
  Calls Tryz.prog 37 #[.pointer(some⟨b,0,none⟩), .int .i64 t]w fun e w'=>∃ st',e= .returned(.bool(act t i s').1)/\
   RunAt w0 w' b ab rb n(.slice(some⟨g,o,none⟩)n az)st'(act t i s').2 ax k th a:=by
 have HS:=hZ aM;have aL:=hZ aJ;clear aM aJ;obtain⟨i0,aY,aZ,a0,aV⟩:=info_parts uF;have HV:=hZ(pf hv);clear hv;obtain⟨op,ia,ib,im⟩:=i;simp only at*;have h1:(0:Int)<=(t:Int):=by omega
 have h3:(t:Int)<n:=by omega
 have h4:(0:Int)<=(kk:Int):=by omega
 have h5:(kk:Int)<len:=by omega
 have p0:w.cell?⟨b,0,none⟩=some(.slice(some⟨g,o,none⟩)n az):=(hR.cell 0).1;have p1:w.cell?⟨b,1,none⟩=some(.slice(some⟨ab,0,none⟩)n n):=(hR.cell 1).1;have a1:w.cell?⟨ab,t,none⟩=some(.int .i64 kk):=by rw [(hR.at_ ht).1,aF]
 have HR:=hZ hR;have aC:=hZ aF;clear hR aF;have n1:=World.new_ne w _ p0;have n2:=World.new_ne w _ hr;have n3:=World.new_ne w _ a1;have n4:=World.new_ne w _ y1;simp only at n1 n2 n3 n4;have m1:=Ne.symm n1;have m2:=Ne.symm n2;have m3:=Ne.symm n3;have m4:=Ne.symm n4;go_enter Tryz.func37,Tryz.ntmps37
 go_wp2
 go_region
 go_upto_region 2 with fail
 have aE:w.grownBy(w.alloc(.cells #[.int .i64 op, .int .i64 ia, .int .i64 ib, .int .i64 im]65)).drew none:=ir(ij(il _ _));have aA:(w.alloc(.cells #[.int .i64 op, .int .i64 ia, .int .i64 ib, .int .i64 im]65)).drew.heap[w.heap.size]?=some(.cells #[.int .i64 op, .int .i64 ia, .int .i64 ib, .int .i64 im]65(0,0)):=heap_alloc_new w _;generalize(w.alloc(.cells #[.int .i64 op, .int .i64 ia, .int .i64 ib, .int .i64 im]65)).drew=w2 at aE aA ⊢;have ag:=hZ(HR.out.grown aE);have hbw:b<w.heap.size:=(Array.getElem?_eq_some_iff.1 HR.out.main).1;have hw2:w.heap.size<w2.heap.size:=(Array.getElem?_eq_some_iff.1 aA).1;have aN:=hZ aA;have aQ:Hid(st.ownBlock≠some w.heap.size):=ws HR.out.row;clear aE aA p0 p1 a1 hr y1 y2 y3 y4 n1 n2 n3 n4 m1 m2 m3 m4 HR;obtain⟨s1,s2,s3,rfl⟩:=iq ag.out.row;have q1:w2.cell?⟨b,10,none⟩=some(.slice s1 s2 s3):=(ag.out.cell 10).1;have q2:w2.cell?⟨b,1,none⟩=some(.slice(some⟨ab,0,none⟩)n n):=(ag.out.cell 1).1;have q3:w2.cell?⟨ab,t,none⟩=some(.int .i64 kk):=by rw [(ag.out.at_ ht).1,aC.out]
 refine iu(fun u=>u.cell?⟨b,10,none⟩=some(.slice s1 s2 s3)/\u.cell?⟨b,1,none⟩=some(.slice(some⟨ab,0,none⟩)n n)/\u.cell?⟨ab,t,none⟩=some(.int .i64 kk))18(by kernel_rfl)(by kernel_rfl) ?_ ?_
 ·exact⟨q1,q2,q3⟩
 intro ap;refine hY(i:=0)(v:= ?vv0)rfl(by kernel_rfl)(fun _ _ _ h=>h)(Or.inl⟨by rfl, ?hy0⟩)(by assumption) ?rest0
 case hy0=>(intro u hu;obtain⟨g1,g2,g3⟩:=hu;go_simp;try with_reducible rfl)
 simp only [Act.put,List.setIfInBounds_toArray];refine hY(i:=1)(v:= ?vv1)rfl(by kernel_rfl)(fun _ _ _ h=>h)(Or.inl⟨by rfl, ?hy1⟩)(by assumption) ?rest1
 case hy1=>(intro u hu;obtain⟨g1,g2,g3⟩:=hu;go_simp;try with_reducible rfl)
 simp only [Act.put];refine hY(i:=2)(v:= ?vv2)rfl(by kernel_rfl)(fun _ _ _ h=>h)(Or.inl⟨by rfl, ?hy2⟩)(by assumption) ?rest2
 case hy2=>(intro u hu;obtain⟨g1,g2,g3⟩:=hu;go_simp;try with_reducible rfl)
 simp only [Act.put];refine hY(i:=3)(v:= ?vv3)rfl(by kernel_rfl)(fun _ _ _ h=>h)(Or.inl⟨by rfl, ?hy3⟩)(by assumption) ?rest3
 case hy3=>(intro u hu;obtain⟨g1,g2,g3⟩:=hu;go_simp;try with_reducible rfl)
 simp only [Act.put];refine hY(i:=4)(v:= ?vv4)rfl(by kernel_rfl)(fun _ _ _ h=>h)(Or.inl⟨by rfl, ?hy4⟩)(by assumption) ?rest4
 case hy4=>(intro u hu;obtain⟨g1,g2,g3⟩:=hu;go_simp;try with_reducible rfl)
 simp only [Act.put];refine hY(i:=5)(v:= ?vv5)rfl(by kernel_rfl)(fun _ _ _ h=>h)(Or.inl⟨by rfl, ?hy5⟩)(by assumption) ?rest5
 case hy5=>(intro u hu;obtain⟨g1,g2,g3⟩:=hu;go_simp;try with_reducible rfl)
 simp only [Act.put];refine hY(i:=6)(v:= ?vv6)rfl(by kernel_rfl)(fun _ _ _ h=>h)(Or.inl⟨by rfl, ?hy6⟩)(by assumption) ?rest6
 case hy6=>(intro u hu;obtain⟨g1,g2,g3⟩:=hu;go_simp;try with_reducible rfl)
 simp only [Act.put];refine hY(i:=7)(v:= ?vv7)rfl(by kernel_rfl)(fun _ _ _ h=>h)(Or.inl⟨by rfl, ?hy7⟩)(by assumption) ?rest7
 case hy7=>(intro u hu;obtain⟨g1,g2,g3⟩:=hu;go_simp;try with_reducible rfl)
 simp only [Act.put];refine hY(i:=8)(v:= ?vv8)rfl(by kernel_rfl)(fun _ _ _ h=>h)(Or.inl⟨by rfl, ?hy8⟩)(by assumption) ?rest8
 case hy8=>(intro u hu;obtain⟨g1,g2,g3⟩:=hu;go_simp;try with_reducible rfl)
 simp only [Act.put];refine hY(i:=9)(v:= ?vv9)rfl(by kernel_rfl)(fun _ _ _ h=>h)(Or.inl⟨by rfl, ?hy9⟩)(by assumption) ?rest9
 case hy9=>(intro u hu;obtain⟨g1,g2,g3⟩:=hu;go_simp;try with_reducible rfl)
 simp only [Act.put];refine hY(i:=10)(v:= ?vv10)rfl(by kernel_rfl)(fun _ _ _ h=>h)(Or.inl⟨by rfl, ?hy10⟩)(by assumption) ?rest10
 case hy10=>(intro u hu;obtain⟨g1,g2,g3⟩:=hu;go_simp;try with_reducible rfl)
 simp only [Act.put];refine hY(i:=11)(v:= ?vv11)rfl(by kernel_rfl)(fun _ _ _ h=>h)(Or.inl⟨by rfl, ?hy11⟩)(by assumption) ?rest11
 case hy11=>(intro u hu;obtain⟨g1,g2,g3⟩:=hu;go_simp;try with_reducible rfl)
 simp only [Act.put];refine hY(i:=12)(v:= ?vv12)rfl(by kernel_rfl)(fun _ _ _ h=>h)(Or.inl⟨by rfl, ?hy12⟩)(by assumption) ?rest12
 case hy12=>(intro u hu;obtain⟨g1,g2,g3⟩:=hu;go_simp;try with_reducible rfl)
 simp only [Act.put];refine hY(i:=13)(v:= ?vv13)rfl(by kernel_rfl)(fun _ _ _ h=>h)(Or.inl⟨by rfl, ?hy13⟩)(by assumption) ?rest13
 case hy13=>(intro u hu;obtain⟨g1,g2,g3⟩:=hu;go_simp;try with_reducible rfl)
 simp only [Act.put];refine ip(i:=14)rfl(by kernel_rfl)(by kernel_rfl)(by rfl) ?_;intro K15 ar;have an:=hZ ar;clear ar;go_simp;have ay:w2.grownBy((w2.alloc(.cells #[.int .i64 t, .int .i64 kk]76)).drew)none:=ir(ij(il _ _));have aH:(w2.alloc(.cells #[.int .i64 t, .int .i64 kk]76)).drew.cell?⟨b,10,none⟩=some(.slice s1 s2 s3)/\(w2.alloc(.cells #[.int .i64 t, .int .i64 kk]76)).drew.cell?⟨b,1,none⟩=some(.slice(some⟨ab,0,none⟩)n n)/\(w2.alloc(.cells #[.int .i64 t, .int .i64 kk]76)).drew.cell?⟨ab,t,none⟩=some(.int .i64 kk):=
  ⟨ie ay _ _ q1,ie ay _ _ q2,ie ay _ _ q3⟩
 refine an.out _ _ aH ?_;clear an;have al:=hZ ay;clear ay;have aP:ae.length+1<=maxLen:=by unfold maxLen;omega
 have aK:(ae.length+1)*16<=140737488355328:=by omega
 refine ip(i:=15)rfl(by kernel_rfl)(by kernel_rfl)(by rfl) ?_;intro K16 aw;have ao:=hZ aw;clear aw;refine wp_append_lies _(.tmp 30)(.tmp 40)27(by rfl)(b+1)76 i0 _ 2 16 Tryz.underlying27 aY aZ a0 aV rfl(by omega)(.slice s1 s2 s3)ae.length(iO ae)(by rfl)(iA ag.out.row al.out(fun _ e=>by cases e))⟨w2.heap.size,0,none⟩1 1 [.int .i64 t, .int .i64 kk](by rfl)(by rfl)(World.news_of_block(cs:= #[.int .i64 t, .int .i64 kk])(t:=76)(fr:=(0,0))(heap_alloc_new w2 _))(by simp [Value.oneCell'])(by omega)aP aK(by simp;omega)(w2.heap.size+1)(by simp) ?_;intro g2 ai w5 ak ad aT hlt5;have aq:∀ q,(Value.slice s1 s2 s3).ownBlock=some q->b+1<=q:=fun q e=>iw ag.out.row q e
 have aO:w5.cell?⟨b,10,none⟩=some(.slice s1 s2 s3)/\w5.cell?⟨b,1,none⟩=some(.slice(some⟨ab,0,none⟩)n n)/\w5.cell?⟨ab,t,none⟩=some(.int .i64 kk):=by
  obtain⟨z1,z2,z3⟩:=aH;have:=ag.out.abb;refine⟨?_, ?_, ?_⟩
  ·rw [ad.cell_far _(World.block_lt_of_cell? _ _ z1)(fun e=>by have:=aq _ e.symm;simp only at this;omega)];exact z1
  ·rw [ad.cell_far _(World.block_lt_of_cell? _ _ z2)(fun e=>by have:=aq _ e.symm;simp only at this;omega)];exact z2
  ·rw [ad.cell_far _(World.block_lt_of_cell? _ _ z3)(fun e=>by have:=aq _ e.symm;simp only at this;omega)];exact z3
 have aj:Hid(RunAt w0(w5.setCell⟨b,10,none⟩(.slice(some⟨g2,0,none⟩)(ae.length+1)ai))b ab rb n(.slice(some⟨g,o,none⟩)n az)(.slice(some⟨g2,0,none⟩)(ae.length+1)ai)s(ae++ [((t:Int),(kk:Int))])k th a):=
  RunAt.push ag.out(ic(lX al.out)ad)ak
 have am:Hid((w5.setCell⟨b,10,none⟩(.slice(some⟨g2,0,none⟩)(ae.length+1)ai)).heap[w.heap.size]?=some(.cells #[.int .i64 op, .int .i64 ia, .int .i64 ib, .int .i64 im]65(0,0))):=by
  unfold Hid;have aD:(Value.slice s1 s2 s3).ownBlock≠some w.heap.size:=aQ.out;rw [Below.heap_setCell _ _ _ _(by simp;omega),ad.block _(by have:=al.out.size;omega)(fun e=>aD e.symm),al.out.block _(by omega)(by simp)];exact aN.out
 have aW:w5.frozen?⟨b,10,none⟩=false:=by
  have:=ag.out.main;have:=ad.block b(by have:=al.out.size;omega)(fun e=>by have:=aq _ e.symm;omega);simp [World.frozen?,this,al.out.block b(by omega)(by simp),ag.out.main]
 clear ak ad aT;refine ao.out _ _ aO ?_;clear ao;simp only [Act.put,List.setIfInBounds_toArray];refine hY(i:=16)(v:= ?vv16)rfl(by kernel_rfl)(fun _ _ _ h=>h)(Or.inl⟨by rfl, ?hy16⟩)(by assumption) ?rest16
 case hy16=>(intro u hu;obtain⟨g1,g2,g3⟩:=hu;go_simp;try with_reducible rfl)
 simp only [Act.put];refine hY(i:=17)(v:= ?vv17)rfl(by kernel_rfl)(fun _ _ _ h=>h)(Or.inl⟨by rfl, ?hy17⟩)(by assumption) ?rest17
 case hy17=>(intro u hu;obtain⟨g1,g2,g3⟩:=hu;go_simp;try with_reducible rfl)
 simp only [Act.put];refine iE rfl(by kernel_rfl)(by kernel_rfl)(by rfl) ?_;obtain⟨z1,z2,z3⟩:=aO;clear ap aH q1 q2 q3 ag aN al aq;go_simp;clear z1 z2 z3 aW;generalize w5.setCell⟨b,10,none⟩(.slice(some⟨g2,0,none⟩)(ae.length+1)ai)=w6 at aj am ⊢;have b1:w6.cell?⟨b,1,none⟩=some(.slice(some⟨ab,0,none⟩)n n):=(aj.out.cell 1).1;have b2:w6.cell?⟨b,2,none⟩=some(.slice(some⟨rb,0,none⟩)n n):=(aj.out.cell 2).1;have a6:w6.cell?⟨ab,t,none⟩=some(.int .i64 kk):=by rw [(aj.out.at_ ht).1,aC.out]
 have aS:=(aj.out.at_ ht).2;have e1:ab≠b:=by have:=aj.out.abb;omega
 have e2:b≠ab:=Ne.symm e1;have aR:(kk:Int)<16:=by omega
 go_upto_region 5 with fail
 have aB:=aj.out.setNext hn ht((kk:Int)+1);rw [<-HS.out,<-aL.out]at aB;have aa:=hZ aB;clear aB;have aD:w.heap.size≠ab:=by have:=aj.out.abb;omega
 have au:Hid((w6.setCell⟨ab,t,none⟩(.int .i64((kk:Int)+1))).heap[w.heap.size]?=some(.cells #[.int .i64 op, .int .i64 ia, .int .i64 ib, .int .i64 im]65(0,0))):=by
  unfold Hid;rw [Below.heap_setCell _ _ _ _(by simp;exact aD)];exact am.out
 generalize w6.setCell⟨ab,t,none⟩(.int .i64((kk:Int)+1))=w7 at aa au ⊢;generalize Value.slice(some⟨g2,0,none⟩)(ae.length+1)ai=st7 at*;clear HS aL aj am b1 b2 a6 aS h4 h5 aR aC aQ aP aK;have x0:w7.cell?⟨w.heap.size,0,none⟩=some(.int .i64 op):=by have:=au.out;simp [World.cell?,this]
 have x1:w7.cell?⟨w.heap.size,1,none⟩=some(.int .i64 ia):=by have:=au.out;simp [World.cell?,this]
 have x2:w7.cell?⟨w.heap.size,2,none⟩=some(.int .i64 ib):=by have:=au.out;simp [World.cell?,this]
 have x3:w7.cell?⟨w.heap.size,3,none⟩=some(.int .i64 im):=by have:=au.out;simp [World.cell?,this]
 have aX:=HV.out;clear HV;rcases aX with H | H | H | H | H | H | H | H | H | H | H
 ·obtain⟨rfl,e3,e4⟩:=H;obtain⟨r,rfl⟩:∃ r:Nat,ia=r:=⟨ia.toNat,by omega⟩;have ac:r<4:=by omega
  obtain⟨c1,c2⟩:=aa.out.reg hn ht ac;have HA:Hid(act t⟨1,r,ib,im⟩s'=(true,s'.setReg t r im)):=by simp [Hid,act]
  go_wp2
  go_region
  go_wp2
  go_ret;exact⟨st7,by rw [HA.out];rfl,by rw [HA.out];exact(aa.out.setReg hn ht ac im).like⟨rfl,rfl,rfl,rfl⟩⟩
 ·obtain⟨rfl,e3,e4,e5,e6⟩:=H;obtain⟨r,rfl⟩:∃ r:Nat,ia=r:=⟨ia.toNat,by omega⟩;obtain⟨v,rfl⟩:∃ v:Nat,ib=v:=⟨ib.toNat,by omega⟩;have ac:r<4:=by omega
  have af:v<4:=by omega
  obtain⟨c1,c2⟩:=aa.out.reg hn ht ac;have c3:=aa.out.var af;have HA:Hid(act t⟨2,r,v,im⟩s'=(true,s'.setReg t r(s'.vars v))):=by simp [Hid,act]
  go_wp2
  go_region
  go_wp2
  go_ret;exact⟨st7,by rw [HA.out];rfl,by rw [HA.out];exact(aa.out.setReg hn ht ac _).like⟨rfl,rfl,rfl,rfl⟩⟩
 ·obtain⟨rfl,e3,e4,e5,e6⟩:=H;obtain⟨r,rfl⟩:∃ r:Nat,ia=r:=⟨ia.toNat,by omega⟩;obtain⟨v,rfl⟩:∃ v:Nat,ib=v:=⟨ib.toNat,by omega⟩;have ac:r<4:=by omega
  have af:v<4:=by omega
  obtain⟨c1,c2⟩:=aa.out.reg hn ht af;have c3:=aa.out.var ac;have c4:=(aa.out.cell(3+r)).2;have HA:Hid(act t⟨3,r,v,im⟩s'=(true,s'.setVar r(s'.regs t v))):=by simp [Hid,act]
  go_wp2
  go_region
  go_wp2
  go_ret;exact⟨st7,by rw [HA.out];rfl,by rw [HA.out];exact(aa.out.setVar ac _).like⟨rfl,rfl,rfl,rfl⟩⟩
 ·obtain⟨rfl,e3,e4,e5,e6⟩:=H;obtain⟨r,rfl⟩:∃ r:Nat,ia=r:=⟨ia.toNat,by omega⟩;obtain⟨v,rfl⟩:∃ v:Nat,ib=v:=⟨ib.toNat,by omega⟩;have ac:r<4:=by omega
  have af:v<4:=by omega
  obtain⟨c1,c2⟩:=aa.out.reg hn ht ac;obtain⟨c3,c4⟩:=aa.out.reg hn ht af;have HA:Hid(act t⟨4,r,v,im⟩s'=((jl 4(s'.regs t r)(s'.regs t v)).2,s'.setReg t r(jl 4(s'.regs t r)(s'.regs t v)).1)):=by
   simp [Hid,act,jl]
  have ah:Hid(∀ u,Calls Tryz.prog 62 #[.int .i64 4, .int .i64(s'.regs t r), .int .i64(s'.regs t v)]u fun e w'=>e= .returned(.tuple #[.int .i64(jl 4(s'.regs t r)(s'.regs t v)).1, .bool(jl 4(s'.regs t r)(s'.regs t v)).2])/\w'=u):=fun u=>qA 4 _ _ u(by omega)
  generalize jl 4(s'.regs t r)(s'.regs t v)=rk at*;obtain⟨aG,aI⟩:=rk;simp only at HA ah;go_wp2_with fail
  go_quiet((go_at_call 62;exact Calls.quiet_of_same(ah.out _)))
  go_wp2
  go_region
  go_wp2
  go_ret;exact⟨st7,by rw [HA.out];rfl,by rw [HA.out];exact(aa.out.setReg hn ht ac _).like⟨rfl,rfl,rfl,rfl⟩⟩
 ·obtain⟨rfl,e3,e4,e5,e6⟩:=H;obtain⟨r,rfl⟩:∃ r:Nat,ia=r:=⟨ia.toNat,by omega⟩;obtain⟨v,rfl⟩:∃ v:Nat,ib=v:=⟨ib.toNat,by omega⟩;have ac:r<4:=by omega
  have af:v<4:=by omega
  obtain⟨c1,c2⟩:=aa.out.reg hn ht ac;obtain⟨c3,c4⟩:=aa.out.reg hn ht af;have HA:Hid(act t⟨5,r,v,im⟩s'=((jl 5(s'.regs t r)(s'.regs t v)).2,s'.setReg t r(jl 5(s'.regs t r)(s'.regs t v)).1)):=by
   simp [Hid,act,jl]
  have ah:Hid(∀ u,Calls Tryz.prog 62 #[.int .i64 5, .int .i64(s'.regs t r), .int .i64(s'.regs t v)]u fun e w'=>e= .returned(.tuple #[.int .i64(jl 5(s'.regs t r)(s'.regs t v)).1, .bool(jl 5(s'.regs t r)(s'.regs t v)).2])/\w'=u):=fun u=>qA 5 _ _ u(by omega)
  generalize jl 5(s'.regs t r)(s'.regs t v)=rk at*;obtain⟨aG,aI⟩:=rk;simp only at HA ah;go_wp2_with fail
  go_quiet((go_at_call 62;exact Calls.quiet_of_same(ah.out _)))
  go_wp2
  go_region
  go_wp2
  go_ret;exact⟨st7,by rw [HA.out];rfl,by rw [HA.out];exact(aa.out.setReg hn ht ac _).like⟨rfl,rfl,rfl,rfl⟩⟩
 ·obtain⟨rfl,e3,e4,e5,e6⟩:=H;obtain⟨r,rfl⟩:∃ r:Nat,ia=r:=⟨ia.toNat,by omega⟩;obtain⟨v,rfl⟩:∃ v:Nat,ib=v:=⟨ib.toNat,by omega⟩;have ac:r<4:=by omega
  have af:v<4:=by omega
  obtain⟨c1,c2⟩:=aa.out.reg hn ht ac;obtain⟨c3,c4⟩:=aa.out.reg hn ht af;have HA:Hid(act t⟨6,r,v,im⟩s'=((jl 6(s'.regs t r)(s'.regs t v)).2,s'.setReg t r(jl 6(s'.regs t r)(s'.regs t v)).1)):=by
   simp [Hid,act,jl]
  have ah:Hid(∀ u,Calls Tryz.prog 62 #[.int .i64 6, .int .i64(s'.regs t r), .int .i64(s'.regs t v)]u fun e w'=>e= .returned(.tuple #[.int .i64(jl 6(s'.regs t r)(s'.regs t v)).1, .bool(jl 6(s'.regs t r)(s'.regs t v)).2])/\w'=u):=fun u=>qA 6 _ _ u(by omega)
  generalize jl 6(s'.regs t r)(s'.regs t v)=rk at*;obtain⟨aG,aI⟩:=rk;simp only at HA ah;go_wp2_with fail
  go_quiet((go_at_call 62;exact Calls.quiet_of_same(ah.out _)))
  go_wp2
  go_region
  go_wp2
  go_ret;exact⟨st7,by rw [HA.out];rfl,by rw [HA.out];exact(aa.out.setReg hn ht ac _).like⟨rfl,rfl,rfl,rfl⟩⟩
 ·obtain⟨rfl,e3,e4,e5,e6⟩:=H;obtain⟨r,rfl⟩:∃ r:Nat,ia=r:=⟨ia.toNat,by omega⟩;obtain⟨v,rfl⟩:∃ v:Nat,ib=v:=⟨ib.toNat,by omega⟩;have ac:r<4:=by omega
  have af:v<4:=by omega
  obtain⟨c1,c2⟩:=aa.out.reg hn ht ac;obtain⟨c3,c4⟩:=aa.out.reg hn ht af;have HA:Hid(act t⟨7,r,v,im⟩s'=((jl 7(s'.regs t r)(s'.regs t v)).2,s'.setReg t r(jl 7(s'.regs t r)(s'.regs t v)).1)):=by
   unfold Hid;by_cases hz:s'.regs t v=0
   ·simp [act,jl,hz,wP]
   ·simp [act,jl,hz]
  have ah:Hid(∀ u,Calls Tryz.prog 62 #[.int .i64 7, .int .i64(s'.regs t r), .int .i64(s'.regs t v)]u fun e w'=>e= .returned(.tuple #[.int .i64(jl 7(s'.regs t r)(s'.regs t v)).1, .bool(jl 7(s'.regs t r)(s'.regs t v)).2])/\w'=u):=fun u=>qA 7 _ _ u(by omega)
  generalize jl 7(s'.regs t r)(s'.regs t v)=rk at*;obtain⟨aG,aI⟩:=rk;simp only at HA ah;go_wp2_with fail
  go_quiet((go_at_call 62;exact Calls.quiet_of_same(ah.out _)))
  go_wp2
  go_region
  go_wp2
  go_ret;exact⟨st7,by rw [HA.out];rfl,by rw [HA.out];exact(aa.out.setReg hn ht ac _).like⟨rfl,rfl,rfl,rfl⟩⟩
 ·obtain⟨rfl,e3,e4,e5,e6⟩:=H;obtain⟨r,rfl⟩:∃ r:Nat,ia=r:=⟨ia.toNat,by omega⟩;have ac:r<4:=by omega
  obtain⟨c1,c2⟩:=aa.out.reg hn ht ac;have b1:w7.cell?⟨b,1,none⟩=some(.slice(some⟨ab,0,none⟩)n n):=(aa.out.cell 1).1;obtain⟨c3,c4⟩:=aa.out.at_ ht;by_cases hz:s'.regs t r=0
  ·have HA:Hid(act t⟨8,r,ib,im⟩s'=(true,s'.setNext t im)):=by simp [Hid,act,hz]
   rw [hz]at c1;clear hz;go_wp2
   go_quiet(fail)
   go_wp2
   go_region
   go_wp2
   go_ret;exact⟨st7,by rw [HA.out];rfl,by rw [HA.out];exact(aa.out.setNext hn ht _).like⟨rfl,rfl,rfl,rfl⟩⟩
  ·have HA:Hid(act t⟨8,r,ib,im⟩s'=(true,s')):=by simp [Hid,act,hz]
   have aU:(s'.regs t r==0)=false:=by simpa using hz
   go_wp2
   go_quiet(fail)
   go_wp2
   go_ret;exact⟨st7,by rw [HA.out];rfl,by rw [HA.out];exact aa.out.like⟨rfl,rfl,rfl,rfl⟩⟩
 ·obtain⟨rfl,e3,e4⟩:=H;obtain⟨r,rfl⟩:∃ r:Nat,ia=r:=⟨ia.toNat,by omega⟩;have av:r<3:=by omega
  have c1:=aa.out.own av;have c2:=(aa.out.cell(7+r)).2;have HA:Hid(act t⟨9,r,ib,im⟩s'=(true,s'.setLock r true t)):=by simp [Hid,act]
  go_wp2
  go_region
  go_wp2
  go_ret;exact⟨st7,by rw [HA.out];rfl,by rw [HA.out];exact(aa.out.setLock av true t).like⟨rfl,rfl,rfl,rfl⟩⟩
 ·obtain⟨rfl,e3,e4⟩:=H;obtain⟨r,rfl⟩:∃ r:Nat,ia=r:=⟨ia.toNat,by omega⟩;have av:r<3:=by omega
  have c1:=aa.out.own av;have c2:=(aa.out.cell(7+r)).2;by_cases hz:s'.held r=true/\s'.own r=t
  ·have HA:Hid(act t⟨10,r,ib,im⟩s'=(true,s'.setLock r false 0)):=by simp [Hid,act,hz]
   have hq:tE s' r=t:=by simp [tE,hz.1,hz.2]
   rw [hq]at c1;clear hz hq;go_wp2
   go_quiet(fail)
   go_wp2
   go_region
   go_wp2
   go_ret;exact⟨st7,by rw [HA.out];rfl,by rw [HA.out];exact(aa.out.setLock av false 0).like⟨rfl,rfl,rfl,rfl⟩⟩
  ·have HA:Hid(act t⟨10,r,ib,im⟩s'=(false,s')):=by
    unfold Hid;simp only [act];simp [hz]
   have aU:(tE s' r !=(t:Int))=true:=by
    unfold tE;by_cases hh:s'.held r=true
    ·simp only [hh,if_true];have:¬s'.own r=t:=fun e=>hz⟨hh,e⟩
     simpa using this
    ·simp only [hh];simp<;>omega
   clear hz;go_wp2
   go_quiet(fail)
   go_wp2
   go_ret;exact⟨st7,by rw [HA.out];rfl,by rw [HA.out];exact aa.out.like⟨rfl,rfl,rfl,rfl⟩⟩
 ·obtain⟨rfl,e3,e4⟩:=H;obtain⟨r,rfl⟩:∃ r:Nat,ia=r:=⟨ia.toNat,by omega⟩;have ac:r<4:=by omega
  obtain⟨c1,c2⟩:=aa.out.reg hn ht ac;have HA:Hid(act t⟨11,r,ib,im⟩s'=(s'.regs t r !=0,s')):=by simp [Hid,act]
  go_wp2
  go_quiet(fail)
  go_wp2
  go_ret;exact⟨st7,by rw [HA.out];rfl,by rw [HA.out];exact aa.out.like⟨rfl,rfl,rfl,rfl⟩⟩
end
end Go.Proofs.YtklenjmfalljgabGreatDoor
