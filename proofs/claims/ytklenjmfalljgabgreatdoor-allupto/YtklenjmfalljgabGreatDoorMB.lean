/- The texts Mk2 New New2 Rep Awk PureB Sch Sch2 Bas Ctr Rfa Rfb Rfc Rfd Rfe. -/
import Derived.Test.YtklenjmfalljgabGreatDoorMA
import Derived.WalkSpells
import Derived.WalkLawsBesides
import Derived.Deep.Light
import Derived.Lib.QuietBelow
import Derived.BigQuiet
import Derived.Deep.QuietTactic
import Derived.Deep.DeepCutAuto
import Derived.Deep.Cut
import Derived.Deep.AppendLies
namespace Go.Proofs.YtklenjmfalljgabGreatDoor
set_option maxRecDepth 100000
set_option maxHeartbeats 8000000
section
open Go.RowKit
attribute [local go_sem] Go.World.cell?_alloc_some
theorem Made.grow{b w w':World}{t:Nat}{i:Ins}{e:Ending}(h:Made w t i e w')(a:b.grownBy w none):Made b t i e w':=by
 obtain⟨v,c,d,f⟩:=h;exact⟨v,c,fun w2 hw2=>d w2 fun k hk hk2=>hw2 k (Nat.le_trans a.size hk) hk2,il a f⟩
theorem vK(t:Nat)(i:Ins)(h:i.op=1)(w:World):Calls Tryz.prog 79 #[.int .i64 t,.agg #[.int .i64 1,.int .i64 i.a,.int .i64 i.b,.int .i64 i.n]] w (Made w t i):=by
 have H:Hid (i.op=1):=h;clear h;go_enter Tryz.func79,Tryz.ntmps79
 go_wp2_with fail
 go_quiet (fail)
 go_wp2_with fail
 refine(Fk t i H.out _).mono ?_;rintro e w1 ⟨v,rfl,c,d⟩;have f:=ij c;have j:=ij d;clear c d;go_wp2_with fail
 go_ret;exact Made.grow (w:=_) ⟨v,rfl,f.out,j.out⟩ (iX _ (iq (ir _ _)))
theorem uO(t:Nat)(i:Ins)(h:i.op=2)(w:World):Calls Tryz.prog 79 #[.int .i64 t,.agg #[.int .i64 2,.int .i64 i.a,.int .i64 i.b,.int .i64 i.n]] w (Made w t i):=by
 have H:Hid (i.op=2):=h;clear h;go_enter Tryz.func79,Tryz.ntmps79
 go_wp2_with fail
 go_quiet (fail)
 go_wp2_with fail
 refine(DE t i H.out _).mono ?_;rintro e w1 ⟨v,rfl,c,d⟩;have f:=ij c;have j:=ij d;clear c d;go_wp2_with fail
 go_ret;exact Made.grow (w:=_) ⟨v,rfl,f.out,j.out⟩ (iX _ (iq (ir _ _)))
theorem vL(t:Nat)(i:Ins)(h:i.op=3)(w:World):Calls Tryz.prog 79 #[.int .i64 t,.agg #[.int .i64 3,.int .i64 i.a,.int .i64 i.b,.int .i64 i.n]] w (Made w t i):=by
 have H:Hid (i.op=3):=h;clear h;go_enter Tryz.func79,Tryz.ntmps79
 go_wp2_with fail
 go_quiet (fail)
 go_wp2_with fail
 refine(BC t i H.out _).mono ?_;rintro e w1 ⟨v,rfl,c,d⟩;have f:=ij c;have j:=ij d;clear c d;go_wp2_with fail
 go_ret;exact Made.grow (w:=_) ⟨v,rfl,f.out,j.out⟩ (iX _ (iq (ir _ _)))
theorem uP(t:Nat)(i:Ins)(h:i.op=4)(w:World):Calls Tryz.prog 79 #[.int .i64 t,.agg #[.int .i64 4,.int .i64 i.a,.int .i64 i.b,.int .i64 i.n]] w (Made w t i):=by
 have H:Hid (i.op=4):=h;clear h;go_enter Tryz.func79,Tryz.ntmps79
 go_wp2_with fail
 go_quiet (fail)
 go_wp2_with fail
 refine(FM t i H.out _).mono ?_;rintro e w1 ⟨v,rfl,c,d⟩;have f:=ij c;have j:=ij d;clear c d;go_wp2_with fail
 go_ret;exact Made.grow (w:=_) ⟨v,rfl,f.out,j.out⟩ (iX _ (iq (ir _ _)))
theorem uV(t:Nat)(i:Ins)(h:i.op=5)(w:World):Calls Tryz.prog 79 #[.int .i64 t,.agg #[.int .i64 5,.int .i64 i.a,.int .i64 i.b,.int .i64 i.n]] w (Made w t i):=by
 have H:Hid (i.op=5):=h;clear h;go_enter Tryz.func79,Tryz.ntmps79
 go_wp2_with fail
 go_quiet (fail)
 go_wp2_with fail
 refine(Fh t i H.out _).mono ?_;rintro e w1 ⟨v,rfl,c,d⟩;have f:=ij c;have j:=ij d;clear c d;go_wp2_with fail
 go_ret;exact Made.grow (w:=_) ⟨v,rfl,f.out,j.out⟩ (iX _ (iq (ir _ _)))
theorem vg(t:Nat)(i:Ins)(h:i.op=6)(w:World):Calls Tryz.prog 79 #[.int .i64 t,.agg #[.int .i64 6,.int .i64 i.a,.int .i64 i.b,.int .i64 i.n]] w (Made w t i):=by
 have H:Hid (i.op=6):=h;clear h;go_enter Tryz.func79,Tryz.ntmps79
 go_wp2_with fail
 go_quiet (fail)
 go_wp2_with fail
 refine(Fz t i H.out _).mono ?_;rintro e w1 ⟨v,rfl,c,d⟩;have f:=ij c;have j:=ij d;clear c d;go_wp2_with fail
 go_ret;exact Made.grow (w:=_) ⟨v,rfl,f.out,j.out⟩ (iX _ (iq (ir _ _)))
theorem uY(t:Nat)(i:Ins)(h:i.op=7)(w:World):Calls Tryz.prog 79 #[.int .i64 t,.agg #[.int .i64 7,.int .i64 i.a,.int .i64 i.b,.int .i64 i.n]] w (Made w t i):=by
 have H:Hid (i.op=7):=h;clear h;go_enter Tryz.func79,Tryz.ntmps79
 go_wp2_with fail
 go_quiet (fail)
 go_wp2_with fail
 refine(A3 t i H.out _).mono ?_;rintro e w1 ⟨v,rfl,c,d⟩;have f:=ij c;have j:=ij d;clear c d;go_wp2_with fail
 go_ret;exact Made.grow (w:=_) ⟨v,rfl,f.out,j.out⟩ (iX _ (iq (ir _ _)))
theorem uL(t:Nat)(i:Ins)(h:i.op=8)(w:World):Calls Tryz.prog 79 #[.int .i64 t,.agg #[.int .i64 8,.int .i64 i.a,.int .i64 i.b,.int .i64 i.n]] w (Made w t i):=by
 have H:Hid (i.op=8):=h;clear h;go_enter Tryz.func79,Tryz.ntmps79
 go_wp2_with fail
 go_quiet (fail)
 go_wp2_with fail
 refine(Dy t i H.out _).mono ?_;rintro e w1 ⟨v,rfl,c,d⟩;have f:=ij c;have j:=ij d;clear c d;go_wp2_with fail
 go_ret;exact Made.grow (w:=_) ⟨v,rfl,f.out,j.out⟩ (iX _ (iq (ir _ _)))
theorem vP(t:Nat)(i:Ins)(h:i.op=9)(w:World):Calls Tryz.prog 79 #[.int .i64 t,.agg #[.int .i64 9,.int .i64 i.a,.int .i64 i.b,.int .i64 i.n]] w (Made w t i):=by
 have H:Hid (i.op=9):=h;clear h;go_enter Tryz.func79,Tryz.ntmps79
 go_wp2_with fail
 go_quiet (fail)
 go_wp2_with fail
 refine(Ef t i H.out _).mono ?_;rintro e w1 ⟨v,rfl,c,d⟩;have f:=ij c;have j:=ij d;clear c d;go_wp2_with fail
 go_ret;exact Made.grow (w:=_) ⟨v,rfl,f.out,j.out⟩ (iX _ (iq (ir _ _)))
theorem tL(t:Nat)(i:Ins)(h:i.op=10)(w:World):Calls Tryz.prog 79 #[.int .i64 t,.agg #[.int .i64 10,.int .i64 i.a,.int .i64 i.b,.int .i64 i.n]] w (Made w t i):=by
 have H:Hid (i.op=10):=h;clear h;go_enter Tryz.func79,Tryz.ntmps79
 go_wp2_with fail
 go_quiet (fail)
 go_wp2_with fail
 refine(yl t i H.out _).mono ?_;rintro e w1 ⟨v,rfl,c,d⟩;have f:=ij c;have j:=ij d;clear c d;go_wp2_with fail
 go_ret;exact Made.grow (w:=_) ⟨v,rfl,f.out,j.out⟩ (iX _ (iq (ir _ _)))
theorem tW(t:Nat)(i:Ins)(h:i.op=11)(w:World):Calls Tryz.prog 79 #[.int .i64 t,.agg #[.int .i64 11,.int .i64 i.a,.int .i64 i.b,.int .i64 i.n]] w (Made w t i):=by
 have H:Hid (i.op=11):=h;clear h;go_enter Tryz.func79,Tryz.ntmps79
 go_wp2_with fail
 go_quiet (fail)
 go_wp2_with fail
 refine(zW t i H.out _).mono ?_;rintro e w1 ⟨v,rfl,c,d⟩;have f:=ij c;have j:=ij d;clear c d;go_wp2_with fail
 go_ret;exact Made.grow (w:=_) ⟨v,rfl,f.out,j.out⟩ (iX _ (iq (ir _ _)))
theorem vO(t:Nat)(i:Ins)(h1:1<=i.op)(h2:i.op<=11)(w:World):Calls Tryz.prog 79 #[.int .i64 t,.agg #[.int .i64 i.op,.int .i64 i.a,.int .i64 i.b,.int .i64 i.n]] w (Made w t i):=by
 have hc:i.op=1\/i.op=2\/i.op=3\/i.op=4\/i.op=5\/i.op=6\/i.op=7\/i.op=8\/i.op=9\/i.op=10\/i.op=11:=by omega
 rcases hc with e | e | e | e | e | e | e | e | e | e | e
 ·rw [e];exact vK t i e w
 ·rw [e];exact uO t i e w
 ·rw [e];exact vL t i e w
 ·rw [e];exact uP t i e w
 ·rw [e];exact uV t i e w
 ·rw [e];exact vg t i e w
 ·rw [e];exact uY t i e w
 ·rw [e];exact uL t i e w
 ·rw [e];exact vP t i e w
 ·rw [e];exact tL t i e w
 ·rw [e];exact tW t i e w
theorem xQ{w:World}{g:Nat}{x0 x1 x2 x3:Value}{t:TypeId}(h:w.heap[g]?=some (.cells #[x0,x1,x2,x3] t (0,0))):
  w.cell? ⟨g,0,none⟩=some x0/\w.cell? ⟨g,1,none⟩=some x1/\w.cell? ⟨g,2,none⟩=some x2/\w.cell? ⟨g,3,none⟩=some x3/\(∀ o,w.frozen? ⟨g,o,none⟩=false):=by
 simp [World.cell?,World.frozen?,h]
def CP(w:World)(t:Nat)(i:Ins)(e:Ending)(w':World):Prop:=
 ∃ kf caps,e= .returned (.agg #[.func (.func kf) #[] caps,.bool (i.op==9),.int .i64 (if i.op=9 then i.a else 0)])/\(∀ w2:World,(∀ k,w.heap.size<=k->k<w'.heap.size->w2.heap[k]?=w'.heap[k]?)->ActIs w'.heap.size w2 (.func (.func kf) #[] caps) t i)/\w.grownBy w' none
theorem ActIs.form{B:Nat}{w:World}{v:Value}{t:Nat}{i:Ins}(h:ActIs B w v t i):∃ kf caps,v= .func (.func kf) #[] caps:=by
 obtain⟨x,y,z,u,_,_,_,_,h⟩:=h;rcases h with ⟨_,e,_⟩ | ⟨_,e,_⟩ | ⟨_,e,_⟩ | ⟨_,_,e,_⟩ | ⟨_,e,_⟩ | ⟨_,e,_⟩ | ⟨_,e,_⟩ | ⟨_,e,_⟩ | ⟨_,e,_⟩<;>exact⟨_,_,e⟩
theorem yU(t:Nat)(i:Ins)(D:1<=i.op)(E:i.op<=11)(w:World):Calls Tryz.prog 49 #[.int .i64 t,.agg #[.int .i64 i.op,.int .i64 i.a,.int .i64 i.b,.int .i64 i.n]] w (CP w t i):=by
 go_enter Tryz.func49,Tryz.ntmps49
 go_wp2_with fail
 refine(vO t i D E _).mono ?_;rintro e d ⟨v,rfl,l,f⟩;obtain⟨h,j,rfl⟩:=(l d fun _ _ _=>rfl).form;have s:=ij l;have H:=ij f;have hsz:w.heap.size+2<=d.heap.size:=by have:=f.size;simpa using this
 have u:d.heap[w.heap.size]?=some (.cells #[.int .i64 i.op,.int .i64 i.a,.int .i64 i.b,.int .i64 i.n] 65 (0,0)):=by
  rw [f.block _ (by simp;omega) (by simp),Below.heap_alloc _ _ _ (by simp)];exact heap_alloc_new w _
 have z:d.heap[w.heap.size+1]?=some (.cells #[.nilFunc,.bool false,.int .i64 0] 115 (0,0)):=by
  rw [f.block _ (by simp) (by simp)];have:=heap_alloc_new (w.alloc (.cells #[.int .i64 i.op,.int .i64 i.a,.int .i64 i.b,.int .i64 i.n] 65)) (.cells #[.nilFunc,.bool false,.int .i64 0] 115);simpa using this
 clear l f;obtain⟨c0,c1,C,F,_⟩:=xQ u;obtain⟨B,r,A,y⟩:=lW z;have dfa:∀ (o:Obj) (k:Nat),(d.alloc o).frozen? ⟨w.heap.size+1,k,none⟩=false:=fun o k=>by
  rw [World.frozen?_alloc_old _ _ _ (by simp;omega)];exact y k
 clear y u z C F;have x:Hid (w.grownBy d none):=il (iq (iq (ir _ _))) H.out;by_cases c:i.op=9
 ·have q:=ij c;have p:(i.op==9)=true:=by simpa using c
  clear c;go_wp2_with fail
  refine bodyPost_ret (v:= .agg #[.func (.func h) #[] j,.bool true,.int .i64 i.a]) ?_ rfl ⟨h,j,?_,?_,?_⟩
  ·simp [results,Tryz.results49,go_sem,B,r,A]
  ·rw [p,if_pos q.out]
  ·intro G m;refine(s.out _ fun k hk hk2=>?_).mono (by simp);rw [m k (by simp at hk;omega) (by simp;omega)];have I:w.heap.size+2<=k:=by simpa using hk
   rw [Below.heap_setCell _ _ _ _ (by simp;omega),Below.heap_setCell _ _ _ _ (by simp;omega),Below.heap_setCell _ _ _ _ (by simp;omega),Below.heap_alloc _ _ _ hk2]
  ·iterate 3 refine iF ?_ (by omega)
   exact iq x.out
 ·have q:=ij c;have p:(i.op==9)=false:=by simpa using c
  clear c;go_wp2_with fail
  refine bodyPost_ret (v:= .agg #[.func (.func h) #[] j,.bool false,.int .i64 0]) ?_ rfl ⟨h,j,?_,?_,?_⟩
  ·simp [results,Tryz.results49,go_sem,B,r,A]
  ·rw [p,if_neg q.out]
  ·intro G m;refine(s.out _ fun k hk hk2=>?_).mono (by simp);rw [m k (by simp at hk;omega) (by simp;omega)];have I:w.heap.size+2<=k:=by simpa using hk
   rw [Below.heap_setCell _ _ _ _ (by simp;omega),Below.heap_setCell _ _ _ _ (by simp;omega),Below.heap_setCell _ _ _ _ (by simp;omega),Below.heap_alloc _ _ _ hk2]
  ·iterate 3 refine iF ?_ (by omega)
   exact iq x.out
def uB(kf:Nat)(caps:Array Value)(i:Ins):List Value:=[.func (.func kf) #[] caps,.bool (i.op==9),.int .i64 (if i.op=9 then i.a else 0)]
def E7(a b:Nat)(w:World)(v:Value)(t:Nat)(i:Ins):Prop:=∀ w':World,(∀ k,a<=k->k<b->w'.heap[k]?=w.heap[k]?)->ActIs b w' v t i
def MovesIn(L B:Nat)(w:World)(own:Option Nat)(xs:List Value)(t:Nat)(c:List Ins):Prop:=
 ∀ k (hk:k<c.length),∃ kf caps a b,xs[k*3]?=some (.func (.func kf) #[] caps)/\xs[k*3+1]?=some (.bool (c[k].op==9))/\xs[k*3+2]?=some (.int .i64 (if c[k].op=9 then c[k].a else 0))/\
  L<=a/\b<=B/\(∀ h,own=some h->h<a\/b<=h)/\E7 a b w (.func (.func kf) #[] caps) t c[k]
theorem MovesIn.step{L B:Nat}{w w':World}{own r:Option Nat}{xs:List Value}{t:Nat}{c:List Ins}(h:MovesIn L B w own xs t c)(hB:B<=w.heap.size)(v:w.grownBy w' r)(o:∀ q,r=some q->own=some q\/q<L\/B<=q):MovesIn L B w' own xs t c:=by
 intro k j;obtain⟨n,p,a,b,f,i,l,u,s,d,m⟩:=h k j;refine⟨n,p,a,b,f,i,l,u,s,d,fun w2 hw2=>m w2 fun q hq hq2=>?_⟩;rw [hw2 q hq hq2,v.block q (by omega) (fun e=>by
  rcases o q e.symm with e2 | e2 | e2
  ·rcases d q e2 with e3 | e3<;>omega
  ·omega
  ·omega)]
theorem MovesIn.mono{L B d:Nat}{w:World}{own:Option Nat}{xs:List Value}{t:Nat}{c:List Ins}(h:MovesIn L B w own xs t c)(hB:B<=d):MovesIn L d w own xs t c:=by
 intro k i;obtain⟨n,o,a,b,e,f,j,p,h5,l,m⟩:=h k i;exact⟨n,o,a,b,e,f,j,p,by omega,l,m⟩
theorem MovesIn.reown{L B g:Nat}{w:World}{own:Option Nat}{xs:List Value}{t:Nat}{c:List Ins}(h:MovesIn L B w own xs t c)(p:own=some g\/B<=g):MovesIn L B w (some g) xs t c:=by
 intro k i;obtain⟨o,r,a,b,d,f,l,j,s,m,n⟩:=h k i;refine⟨o,r,a,b,d,f,l,j,s,fun q e=>?_,n⟩;cases e
 rcases p with e | e
 ·exact m _ e
 ·exact Or.inr (by omega)
theorem MovesIn.snoc{L B:Nat}{w:World}{own:Option Nat}{xs:List Value}{t:Nat}{c:List Ins}{i:Ins}{d:Nat}{f:Array Value}{a b:Nat}(h:MovesIn L B w own xs t c)(j:xs.length=c.length*3)
  (p:L<=a) (z:b<=B) (u:∀ h,own=some h->h<a\/b<=h) (C:E7 a b w (.func (.func d) #[] f) t i):
  MovesIn L B w own (xs++uB d f i) t (c++[i]):=by
 intro k o;by_cases l:k<c.length
 ·obtain⟨v,q,s,y,m,n,r,A⟩:=h k l;have e:(c++[i])[k]=c[k]:=List.getElem_append_left l;refine⟨v,q,s,y,?_,?_,?_,?_⟩
  ·rw [List.getElem?_append_left (by omega)];exact m
  ·rw [List.getElem?_append_left (by omega),e];exact n
  ·rw [List.getElem?_append_left (by omega),e];exact r
  ·rw [e];exact A
 ·have x:k=c.length:=by simp at o;omega
  subst x;have e:(c++[i])[c.length]=i:=by simp
  refine⟨d,f,a,b,?_,?_,?_,p,z,u,?_⟩
  ·rw [List.getElem?_append_right (by omega),j];simp [uB]
  ·rw [List.getElem?_append_right (by omega),j,e];have:c.length*3+1 - c.length*3=1:=by omega
   rw [this];rfl
  ·rw [List.getElem?_append_right (by omega),j,e];have:c.length*3+2 - c.length*3=2:=by omega
   rw [this];rfl
  ·rw [e];exact C
def Fin(L B:Nat)(w:World)(rows:Array Value)(t:Nat)(p:List (List Ins)):Prop:=
 ∀ j,j<t->∃ v xs,rows[j]?=some v/\w.ownsRow L 115 3 v (iO p j).length xs/\(∀ h,v.ownBlock=some h->h<B)/\MovesIn L B w v.ownBlock xs j (iO p j)
theorem Fin.step{L B:Nat}{w w':World}{rows:Array Value}{t:Nat}{p:List (List Ins)}{r:Option Nat}(h:Fin L B w rows t p)(s:B<=w.heap.size)(d:w.grownBy w' r)(c:∀ k,r=some k->k<L\/B<=k):Fin L B w' rows t p:=by
 intro j o;obtain⟨v,xs,f,i,b,n⟩:=h j o;refine⟨v,xs,f,?_,b,n.step s d (fun q e=>Or.inr (c q e))⟩;obtain⟨m,a⟩:=i;refine⟨m,?_⟩;rcases a with a | ⟨g,cap,cur,hv,hb,hh,rest⟩
 ·exact Or.inl a
 ·have l:g<w.heap.size:=(Array.getElem?_eq_some_iff.1 hh).1;have hB:=b g (by rw [hv];rfl);refine Or.inr ⟨g,cap,cur,hv,hb,?_,rest⟩;rw [d.block g l (fun e=>by have:=c g e.symm;omega)];exact hh
theorem Fin.rows{L B:Nat}{w:World}{rows:Array Value}{t u:Nat}{x:Value}{p:List (List Ins)}(h:Fin L B w rows t p)(hu:t<=u):Fin L B w (rows.setIfInBounds u x) t p:=by
 intro j e;obtain⟨v,xs,a,b,d,c⟩:=h j e;exact⟨v,xs,by rw [Array.getElem?_setIfInBounds_ne (by omega)];exact a,b,d,c⟩
theorem Fin.mono{L B a:Nat}{w:World}{rows:Array Value}{t:Nat}{p:List (List Ins)}(h:Fin L B w rows t p)(b:B<=a):Fin L a w rows t p:=by
 intro j k;obtain⟨v,xs,c,d,i,f⟩:=h j k;exact⟨v,xs,c,d,fun h e=>Nat.lt_of_lt_of_le (i h e) b,f.mono b⟩
theorem Fin.succ{L B:Nat}{w:World}{rows:Array Value}{t:Nat}{p:List (List Ins)}{v:Value}{xs:List Value}(h:Fin L B w rows t p)(a:rows[t]?=some v)(b:w.ownsRow L 115 3 v (iO p t).length xs)
  (c:∀ h,v.ownBlock=some h->h<B) (d:MovesIn L B w v.ownBlock xs t (iO p t)):Fin L B w rows (t+1) p:=by
 intro j hj;by_cases e:j=t
 ·subst e;exact⟨v,xs,a,b,c,d⟩
 ·exact h j (by omega)
theorem Fin.rowIs{L B:Nat}{w:World}{rows:Array Value}{t:Nat}{p:List (List Ins)}(h:Fin L B w rows t p){j:Nat}(d:j<t):∃ v,rows[j]?=some v/\RowIs B w v j (iO p j):=by
 obtain⟨v,xs,f,c,i,s⟩:=h j d;refine⟨v,f,?_⟩;rcases c.2 with ⟨e,e0⟩ | ⟨g,cap,cur,hv,hb,hh,hrest⟩
 ·exact Or.inl ⟨List.length_eq_zero_iff.1 e0,e⟩
 ·refine Or.inr ⟨g,cap,hv,i g (by rw [hv];rfl),fun k hk=>?_⟩;obtain⟨m,o,a,b,r,q,u,q4,n,q6,l⟩:=s k hk;rw [hv]at c;have hc:=fun j d=>c.cellAt j d
  exact⟨m,o,by rw [hc _ (by omega)];exact r,(l w fun _ _ _=>rfl).mono n,by rw [hc _ (by omega)];exact q,by rw [hc _ (by omega)];exact u⟩
theorem Aq:((Tryz.prog.info? 115).map fun i=>(i.zero,i.size,i.bytes))=some (some (.agg #[.nilFunc,.bool false,.int .i64 0]),3,24):=by kernel_rfl
theorem Ca:((Tryz.prog.info? 111).map fun i=>(i.zero,i.size,i.bytes))=some (some (.slice none 0 0),1,24):=by kernel_rfl
def Bu(w0:World)(L Bt g m n t k:Nat)(p:List (List Ins))(w:World):Prop:=
 ∃ rows v xs,w.heap[g]?=some (.cells rows 111 (0,0))/\rows.size=n/\rows[t]?=some v/\w.ownsRow Bt 115 3 v k xs/\MovesIn L w.heap.size w v.ownBlock xs t ((iO p t).take k)/\
  Fin L Bt w rows t p/\(∀ j,t<j->j<n->rows[j]?=some (.slice none 0 0))/\w.cell? ⟨m,0,none⟩=some (.slice (some ⟨g,0,none⟩) n n)/\w0.grownBy w none/\L<=Bt/\Bt<=w.heap.size/\g<L/\m<L/\g≠m/\w0.heap.size<=g
theorem xM{D:World}{L l g m n t k:Nat}{p:List (List Ins)}{c d f:World}{rows:Array Value}{v:Value}{xs:List Value}{z:Nat}{C:Array Value}{i:Ins}{E:Obj}{g2 r:Nat}
  (K:c.heap[g]?=some (.cells rows 111 (0,0))) (I:rows.size=n) (A:c.ownsRow l 115 3 v k xs) (W:MovesIn L c.heap.size c v.ownBlock xs t ((iO p t).take k))
  (j6:Fin L l c rows t p) (j7:∀ j,t<j->j<n->rows[j]?=some (.slice none 0 0)) (R:D.grownBy c none) (V:L<=l) (T:l<=c.heap.size) (B:g<L) (af:m<L) (J:g≠m) (G:D.heap.size<=g)
  (ht:t<n) (U:k<(iO p t).length) (O:(iO p t)[k]=i)
  (P:∀ u:World,(∀ q,c.heap.size+1<=q->q<d.heap.size->u.heap[q]?=d.heap[q]?)->ActIs d.heap.size u (.func (.func z) #[] C) t i) (S:c.grownBy d none) (hsz4:c.heap.size+1<=d.heap.size)
  (ab:f.ownsRow l 115 3 (.slice (some ⟨g2,0,none⟩) (k+1) r) (k+1) (xs++uB z C i)) (s:(d.alloc E).grownBy f v.ownBlock) (H:v.ownBlock=some g2\/g2=d.heap.size+1)
  (s1:f.cell? ⟨m,0,none⟩=some (.slice (some ⟨g,0,none⟩) n n)):
  Bu D L l g m n t (k+1) p (f.setCell ⟨g,t,none⟩ (.slice (some ⟨g2,0,none⟩) (k+1) r)):=by
 have w:∀ q,v.ownBlock=some q->l<=q/\q<c.heap.size:=fun q e=>⟨iA A q e,by
  rcases A.2 with ⟨e1,_⟩ | ⟨g',_,_,hv,_,hh,_⟩
  ·rw [e1]at e;cases e
  ·rw [hv]at e;have:=(Array.getElem?_eq_some_iff.1 hh).1;simp [Value.ownBlock]at e;omega⟩
 have y:c.grownBy (d.alloc E) none:=iq S;have X:=s.size;simp only [World.size_alloc]at X;have ag:g<c.heap.size:=by omega
 have Q:f.heap[g]?=some (.cells rows 111 (0,0)):=by
  rw [s.block g (by simp;omega) (fun e=>by have:=w g e.symm;omega),y.block g ag (by simp)];exact K
 have F:f.grownBy (f.setCell ⟨g,t,none⟩ (.slice (some ⟨g2,0,none⟩) (k+1) r)) (some g):=iV;have Z:∀ q,c.heap.size+1<=q->q<d.heap.size->(f.setCell ⟨g,t,none⟩ (.slice (some ⟨g2,0,none⟩) (k+1) r)).heap[q]?=d.heap[q]?:=fun q x o=>by
  rw [Below.heap_setCell _ _ _ _ (by simp;omega),s.block q (by simp;omega) (fun e=>by have:=w q e.symm;omega),Below.heap_alloc _ _ _ o]
 have Y:MovesIn L c.heap.size f v.ownBlock xs t ((iO p t).take k):=(W.step (Nat.le_refl _) y (fun q e=>by cases e)).step (by simp;omega) s (fun q e=>Or.inl e);have N:=(Y.reown (g:=g2) (H.imp id (fun e=>by omega))).step (by omega) F (fun q e=>by cases e;exact Or.inr (Or.inl B));refine⟨rows.setIfInBounds t (.slice (some ⟨g2,0,none⟩) (k+1) r),.slice (some ⟨g2,0,none⟩) (k+1) r,xs++uB z C i,heap_setCell_same f g t rows _ _ Q,by simp [I],by simp [I,ht],ownsRow_setCell_below ab (by simp;omega) _,?_,?_,?_,?_,?_,V,by simp;omega,B,af,J,G⟩
 ·rw [List.take_succ_eq_append_getElem U,O];refine MovesIn.snoc (a:=c.heap.size+1) (b:=d.heap.size) (N.mono (by simp;omega)) (by rw [A.1];simp;omega) (by omega) (by simp;omega) (fun h e=>?_) (fun u hu=>P u fun q x o=>by rw [hu q x o,Z q x o]);have M:h=g2:=by simp [Value.ownBlock]at e;omega
  subst M;rcases H with e2 | e2
  ·have:=w _ e2;omega
  ·omega
 ·exact(((j6.step T y (fun q e=>by cases e)).step (by simp;omega) s (fun q e=>Or.inr (w q e).1)).step (by omega) F (fun q e=>by cases e;exact Or.inl B)).rows (Nat.le_refl _)
 ·intro j x o;rw [Array.getElem?_setIfInBounds_ne (by omega)];exact j7 j x o
 ·rw [World.cell?_setCell_far _ _ _ _ (by simpa using J)];exact s1
 ·exact iF (jG (il R y) s (fun q e=>by have:=w q e;omega)) G
theorem zF{p:List (List Ins)}{pv:Value}{w:World}(hp:iU p=true)(Y:ProgAt w pv p):
  Calls Tryz.prog 16 #[pv] w fun e w'=>∃ m,e= .returned (.pointer (some ⟨m,0,none⟩))/\MachAt w'.heap.size w' m p/\w.grownBy w' none:=by
 obtain⟨i0,bA,bz,bi,bm⟩:=info_parts Ca;obtain⟨i1,bo,bw,bv,bp⟩:=info_parts Aq;obtain⟨ao,bE,rfl,Y⟩:=Y;have hlen:=jz hp;have HP:=ij Y;have HV:=ij hp;clear hp Y;have h4:(p.length:Int)<=4:=by omega
 go_enter Tryz.func16,Tryz.ntmps16
 go_wp2_with (at_make;refine wpList_make_full _ rfl _ _ _ rfl (w.heap.size+1) 111 i0 _ 1 Tryz.underlying108 bA bz bi .i64 .i64 _ _ p.length rfl rfl rfl rfl (by rw [bm];omega) (by unfold maxLen;omega) (by simp) ?_;intro f am ag;have a8:f.cell? ⟨w.heap.size,0,none⟩=some (.slice ao p.length bE):=(by rw [ag.cell_far _ (by simp) (by simp)];simp))
 have bD:Hid (w.grownBy f none):=il (iq (ir _ _)) ag;have hsz2:w.heap.size+2<=f.heap.size:=by
  obtain⟨cur,bb,_⟩:=sQ am;have:=(Array.getElem?_eq_some_iff.1 bb).1;simp at this;omega
 have HR:Hid (∃ rows:Array Value,f.heap[w.heap.size+1]?=some (.cells rows 111 (0,0))/\rows.size=p.length/\∀ j,j<p.length->rows[j]?=some (.slice none 0 0)):=by
  rcases am.2 with ⟨e,_⟩ | ⟨g,c,cur,hv,_,hh,_,_,hs,ht⟩
  ·cases e
  ·simp at hv;obtain⟨J,e2⟩:=hv;subst J;subst e2
   refine⟨cur,hh,by omega,fun j hj=>?_⟩;have e:cur.toList=(madeCells #[Value.slice none 0 0] p.length).toList:=by
    rw [List.take_of_length_le (by simp;omega)]at ht;simpa [Value.cells]using ht
   rw [<-Array.getElem?_toList,e,toList_madeCells_one];simp [hj]
 clear am ag a8;go_loopw [17] (fun i w'=>∃ t:Nat,t<=p.length/\i= .int .i64 t/\Hid (∃ rows,w'.heap[w.heap.size+1]?=some (.cells rows 111 (0,0))/\rows.size=p.length/\Fin (f.heap.size+1) w'.heap.size w' rows t p/\(∀ j,t<=j->j<p.length->rows[j]?=some (.slice none 0 0))/\
   w'.cell? ⟨f.heap.size,0,none⟩=some (.slice (some ⟨w.heap.size+1,0,none⟩) p.length p.length)/\w.grownBy w' none/\f.heap.size+1<=w'.heap.size)) (fun i _=>p.length - (intOf i).toNat)
 case atStart=>
  obtain⟨rows,M,F,h3⟩:=HR.out;refine⟨0,Nat.zero_le _,rfl,rows,?_,F,fun j hj=>by omega,fun j _ hj=>h3 j hj,?_,iq bD.out,by simp⟩
  ·rw [Below.heap_alloc _ _ _ (by omega)];exact M
  ·simp
 case round=>
  obtain⟨t,ht,rfl,HI⟩:=hrel;obtain⟨B,br⟩:∃ B,B=wr:=⟨_,rfl⟩;subst br;by_cases I:t<p.length
  ·obtain⟨pg,po,rfl,rv,a4,ac⟩:=HP.out t I;obtain⟨ca,bq,rfl,ac⟩:=ac;have hcl:p[t].length<=16:=by have:=kX (kd HV.out I);rwa [nw I]at this
   have hcl2:(p[t].length:Int)<=16:=by omega
   have HC:=ij ac;clear ac;have hrv':B.cell? ⟨pg,po+t,none⟩=some (.slice ca p[t].length bq):=by
    obtain⟨rows,_,_,_,_,_,hg,_⟩:=HI.out;exact ip hg _ _ a4
   have ht0:(0:Int)<=(t:Int):=by omega
   have ht1:(t:Int)<p.length:=by omega
   have HT:Hid (iO p t=p[t]):=nw I;generalize bl:p[t]=c at*;clear bl;go_wp2_with fail
   go_loopw [24] (fun i w'=>∃ k:Nat,k<=c.length/\i= .int .i64 k/\Hid (Bu w (f.heap.size+1) B.heap.size (w.heap.size+1) f.heap.size p.length t k p w')) (fun i _=>c.length - (intOf i).toNat)
   case atStart=>
    obtain⟨rows,M,F,h3,h4,h5,h6,h7⟩:=HI.out;exact⟨0,Nat.zero_le _,rfl,rows,_,[],M,F,h4 t (Nat.le_refl _) I,⟨rfl,Or.inl ⟨rfl,rfl⟩⟩,fun k hk=>by simp at hk,h3,fun j hj hj2=>h4 j (by omega) hj2,h5,h6,h7,Nat.le_refl _,by omega,by omega,by omega,by omega⟩
   case round=>
    obtain⟨k,hk,rfl,ax⟩:=hrel;by_cases ah:k<c.length
    ·obtain⟨cg,co,rfl,c0,c1,c2,c3⟩:=HC.out k ah;have l:Pres w wr:=by
      obtain⟨rows,v,xs,_,_,_,_,_,_,_,_,hg,_⟩:=ax.out;exact ip hg
     have d0:=l _ _ c0;have d1:=l _ _ c1;have d2:=l _ _ c2;have d3:=l _ _ c3;clear c0 c1 c2 c3 l;have hk0:(0:Int)<=(k:Int):=by omega
     have hk1:(k:Int)<c.length:=by omega
     obtain⟨rows,v,xs,E,V,N,K,H,O,R,j8,j9,aL,an,aZ,aB,a0,aF⟩:=ax.out;have bC:wr.cell? ⟨w.heap.size+1,t,none⟩=some v:=by simp [World.cell?,E,N]
     have bf:wr.frozen? ⟨w.heap.size+1,t,none⟩=false:=by simp [World.frozen?,E]
     have W:=ij K;have J5:=ij H;have J1:=ij E;have J2:=ij V;have J6:=ij O;have J7:=ij R;have J9:=ij j9;clear E V N K H O R j9;go_wp2_with fail
     refine iz (fun u=>u.cell? ⟨f.heap.size,0,none⟩=some (.slice (some ⟨w.heap.size+1,0,none⟩) p.length p.length)/\u.cell? ⟨w.heap.size+1,t,none⟩=some v/\u.cell? ⟨wr.heap.size,0,none⟩=some (.int .i64 c[k].op)/\u.cell? ⟨wr.heap.size,1,none⟩=some (.int .i64 c[k].a)/\u.cell? ⟨wr.heap.size,2,none⟩=some (.int .i64 c[k].b)/\u.cell? ⟨wr.heap.size,3,none⟩=some (.int .i64 c[k].n)) 18 (by kernel_rfl) (by kernel_rfl) ?_ ?_
     ·refine⟨?_,?_,?_,?_,?_,?_⟩<;>simp [go_sem,j8,bC]
     intro aJ;refine gJ 0 ?v0 rfl (by kernel_rfl) (fun _ _ _ h=>h) (by rfl) ?y0 (by assumption) ?_
     case y0=>(intro u d;obtain⟨g1,g2,z,s,y,g6⟩:=d;go_simp;try rfl)
     simp only [Act.put,List.setIfInBounds_toArray];refine gJ 1 ?v1 rfl (by kernel_rfl) (fun _ _ _ h=>h) (by rfl) ?y1 (by assumption) ?_
     case y1=>(intro u d;obtain⟨g1,g2,z,s,y,g6⟩:=d;go_simp;try rfl)
     simp only [Act.put];refine gJ 2 ?v2 rfl (by kernel_rfl) (fun _ _ _ h=>h) (by rfl) ?y2 (by assumption) ?_
     case y2=>(intro u d;obtain⟨g1,g2,z,s,y,g6⟩:=d;go_simp;try rfl)
     simp only [Act.put];refine gJ 3 ?v3 rfl (by kernel_rfl) (fun _ _ _ h=>h) (by rfl) ?y3 (by assumption) ?_
     case y3=>(intro u d;obtain⟨g1,g2,z,s,y,g6⟩:=d;go_simp;try rfl)
     simp only [Act.put];refine gJ 4 ?v4 rfl (by kernel_rfl) (fun _ _ _ h=>h) (by rfl) ?y4 (by assumption) ?_
     case y4=>(intro u d;obtain⟨g1,g2,z,s,y,g6⟩:=d;go_simp;try rfl)
     simp only [Act.put];refine gJ 5 ?v5 rfl (by kernel_rfl) (fun _ _ _ h=>h) (by rfl) ?y5 (by assumption) ?_
     case y5=>(intro u d;obtain⟨g1,g2,z,s,y,g6⟩:=d;go_simp;try rfl)
     simp only [Act.put];refine gJ 6 ?v6 rfl (by kernel_rfl) (fun _ _ _ h=>h) (by rfl) ?y6 (by assumption) ?_
     case y6=>(intro u d;obtain⟨g1,g2,z,s,y,g6⟩:=d;go_simp;try rfl)
     simp only [Act.put];refine gJ 7 ?v7 rfl (by kernel_rfl) (fun _ _ _ h=>h) (by rfl) ?y7 (by assumption) ?_
     case y7=>(intro u d;obtain⟨g1,g2,z,s,y,g6⟩:=d;go_simp;try rfl)
     simp only [Act.put];refine gJ 8 ?v8 rfl (by kernel_rfl) (fun _ _ _ h=>h) (by rfl) ?y8 (by assumption) ?_
     case y8=>(intro u d;obtain⟨g1,g2,z,s,y,g6⟩:=d;go_simp;try rfl)
     simp only [Act.put];refine gJ 9 ?v9 rfl (by kernel_rfl) (fun _ _ _ h=>h) (by rfl) ?y9 (by assumption) ?_
     case y9=>(intro u d;obtain⟨g1,g2,z,s,y,g6⟩:=d;go_simp;try rfl)
     simp only [Act.put];refine gJ 10 ?v10 rfl (by kernel_rfl) (fun _ _ _ h=>h) (by rfl) ?y10 (by assumption) ?_
     case y10=>(intro u d;obtain⟨g1,g2,z,s,y,g6⟩:=d;go_simp;try rfl)
     simp only [Act.put];refine gJ 11 ?v11 rfl (by kernel_rfl) (fun _ _ _ h=>h) (by rfl) ?y11 (by assumption) ?_
     case y11=>(intro u d;obtain⟨g1,g2,z,s,y,g6⟩:=d;go_simp;try rfl)
     simp only [Act.put];refine gJ 12 ?v12 rfl (by kernel_rfl) (fun _ _ _ h=>h) (by rfl) ?y12 (by assumption) ?_
     case y12=>(intro u d;obtain⟨g1,g2,z,s,y,g6⟩:=d;go_simp;try rfl)
     simp only [Act.put];refine gJ 13 ?v13 rfl (by kernel_rfl) (fun _ _ _ h=>h) (by rfl) ?y13 (by assumption) ?_
     case y13=>(intro u d;obtain⟨g1,g2,z,s,y,g6⟩:=d;go_simp;try rfl)
     simp only [Act.put];have aY:=vM (ua (by have:=kd HV.out I;rw [HT.out]at this;exact this) ah);refine iu (i:=14) rfl (by kernel_rfl) (by kernel_rfl) (by rfl) ?_;intro K14 aG;have aC:=ij aG;clear aG;go_simp;refine(yU t c[k] aY.1 aY.2 _).mono ?_;rintro e r ⟨C,A,rfl,aD,Z⟩;simp only [];have aO:=ij aD;have al:=ij Z;have be:wr.heap.size+1<=r.heap.size:=by have:=Z.size;simpa using this
     have ak:r.cell? ⟨f.heap.size,0,none⟩=some (.slice (some ⟨w.heap.size+1,0,none⟩) p.length p.length)/\r.cell? ⟨w.heap.size+1,t,none⟩=some v/\r.cell? ⟨wr.heap.size,0,none⟩=some (.int .i64 c[k].op)/\r.cell? ⟨wr.heap.size,1,none⟩=some (.int .i64 c[k].a)/\r.cell? ⟨wr.heap.size,2,none⟩=some (.int .i64 c[k].b)/\r.cell? ⟨wr.heap.size,3,none⟩=some (.int .i64 c[k].n):=by
      obtain⟨P,X,U,T,S,Q⟩:=aJ;have l:=ip Z;exact⟨l _ _ P,l _ _ X,l _ _ U,l _ _ T,l _ _ S,l _ _ Q⟩
     clear aD Z aJ;refine aC.out _ _ ak ?_;clear aC;refine iu (i:=15) rfl (by kernel_rfl) (by kernel_rfl) (by rfl) ?_;intro K15 aA;have aR:=ij aA;clear aA;go_simp;have ap:(r.alloc (.cells #[.func (.func C) #[] A,.bool (c[k].op==9),.int .i64 (if c[k].op=9 then c[k].a else 0)] 115)).cell? ⟨f.heap.size,0,none⟩=some (.slice (some ⟨w.heap.size+1,0,none⟩) p.length p.length)/\(r.alloc (.cells #[.func (.func C) #[] A,.bool (c[k].op==9),.int .i64 (if c[k].op=9 then c[k].a else 0)] 115)).cell? ⟨w.heap.size+1,t,none⟩=some v/\(r.alloc (.cells #[.func (.func C) #[] A,.bool (c[k].op==9),.int .i64 (if c[k].op=9 then c[k].a else 0)] 115)).cell? ⟨wr.heap.size,0,none⟩=some (.int .i64 c[k].op)/\(r.alloc (.cells #[.func (.func C) #[] A,.bool (c[k].op==9),.int .i64 (if c[k].op=9 then c[k].a else 0)] 115)).cell? ⟨wr.heap.size,1,none⟩=some (.int .i64 c[k].a)/\(r.alloc (.cells #[.func (.func C) #[] A,.bool (c[k].op==9),.int .i64 (if c[k].op=9 then c[k].a else 0)] 115)).cell? ⟨wr.heap.size,2,none⟩=some (.int .i64 c[k].b)/\(r.alloc (.cells #[.func (.func C) #[] A,.bool (c[k].op==9),.int .i64 (if c[k].op=9 then c[k].a else 0)] 115)).cell? ⟨wr.heap.size,3,none⟩=some (.int .i64 c[k].n):=by
      obtain⟨P,X,U,T,S,Q⟩:=ak;have l:=ip (iq (o:= .cells #[.func (.func C) #[] A,.bool (c[k].op==9),.int .i64 (if c[k].op=9 then c[k].a else 0)] 115) (ir r none));exact⟨l _ _ P,l _ _ X,l _ _ U,l _ _ T,l _ _ S,l _ _ Q⟩
     refine aR.out _ _ ap ?_;clear aR;have ar:Hid (wr.grownBy (r.alloc (.cells #[.func (.func C) #[] A,.bool (c[k].op==9),.int .i64 (if c[k].op=9 then c[k].a else 0)] 115)) none):=iq (il (iy (iq (ir _ _))) al.out);have bG:k+1<=maxLen:=by unfold maxLen;omega
     have bh:(k+1)*24<=140737488355328:=by omega
     refine iu (i:=16) rfl (by kernel_rfl) (by kernel_rfl) (by rfl) ?_;intro K16 aP;have aH:=ij aP;clear aP;refine wp_append_lies _ (.tmp 39) (.tmp 43) 111 (by rfl) B.heap.size 115 i1 _ 3 24 Tryz.underlying111 bo bw bv bp rfl (by omega) v k xs (by rfl) (iD W.out ar.out (fun _ e=>by cases e)) ⟨r.heap.size,0,none⟩ 1 1 (uB C A c[k]) (by rfl) (by rfl) (World.news_of_block (cs:= #[.func (.func C) #[] A,.bool (c[k].op==9),.int .i64 (if c[k].op=9 then c[k].a else 0)]) (t:=115) (fr:=(0,0)) (heap_alloc_new r _)) (by simp [uB,Value.oneCell']) (by omega) bG bh (by simp;omega) (r.heap.size+1) (by simp) ?_;intro g2 bF D aM av aX hlt5;have aU:∀ q,v.ownBlock=some q->B.heap.size<=q/\q<wr.heap.size:=fun q e=>⟨iA W.out q e,by
      rcases W.out.2 with ⟨J,_⟩ | ⟨g',_,_,hv,_,hh,_⟩
      ·rw [J]at e;cases e
      ·rw [hv]at e;have:=(Array.getElem?_eq_some_iff.1 hh).1;simp [Value.ownBlock]at e;omega⟩
     have G:∀ q o x,(q<B.heap.size\/wr.heap.size<=q)->(r.alloc (.cells #[.func (.func C) #[] A,.bool (c[k].op==9),.int .i64 (if c[k].op=9 then c[k].a else 0)] 115)).cell? ⟨q,o,none⟩=some x->D.cell? ⟨q,o,none⟩=some x:=fun q o x hq hx=>by
      rw [av.cell_far _ (World.block_lt_of_cell? _ _ hx) (fun e=>by have:=aU q e.symm;omega)];exact hx
     have a1:D.cell? ⟨f.heap.size,0,none⟩=some (.slice (some ⟨w.heap.size+1,0,none⟩) p.length p.length)/\D.cell? ⟨w.heap.size+1,t,none⟩=some v/\D.cell? ⟨wr.heap.size,0,none⟩=some (.int .i64 c[k].op)/\D.cell? ⟨wr.heap.size,1,none⟩=some (.int .i64 c[k].a)/\D.cell? ⟨wr.heap.size,2,none⟩=some (.int .i64 c[k].b)/\D.cell? ⟨wr.heap.size,3,none⟩=some (.int .i64 c[k].n):=by
      obtain⟨P,X,U,T,S,Q⟩:=ap;exact⟨G _ _ _ (by omega) P,G _ _ _ (by omega) X,G _ _ _ (by omega) U,G _ _ _ (by omega) T,G _ _ _ (by omega) S,G _ _ _ (by omega) Q⟩
     have aV:=ij aM;have aw:=ij av;have az:=ij aX;clear aM av aX ak ap G;refine aH.out _ _ a1 ?_;clear aH;simp only [Act.put,List.setIfInBounds_toArray];refine gJ 17 ?v17 rfl (by kernel_rfl) (fun _ _ _ h=>h) (by rfl) ?y17 (by assumption) ?_
     case y17=>(intro u d;obtain⟨g1,g2,z,s,y,g6⟩:=d;go_simp;try rfl)
     simp only [Act.put];refine iH rfl (by kernel_rfl) (by kernel_rfl) (by rfl) ?_;obtain⟨s1,s2,_⟩:=a1;have s2f:D.frozen? ⟨w.heap.size+1,t,none⟩=false:=by
      rw [aw.out.frozen_far _ (by simp;omega) (fun e=>by have:=aU _ e.symm;simp at this;omega),ar.out.frozen_far _ (by simp;omega) (by simp)];exact bf
     have L:Hid (Bu w (f.heap.size+1) B.heap.size (w.heap.size+1) f.heap.size p.length t (k+1) p (D.setCell ⟨w.heap.size+1,t,none⟩ (.slice (some ⟨g2,0,none⟩) (k+1) bF))):=
      xM J1.out J2.out W.out J5.out J6.out J7.out J9.out aL an aZ aB a0 aF I (by rw [HT.out];exact ah) (i:=c[k]) (by simp [HT.out]) (fun u d=>aO.out u (fun q M F=>d q (by simpa using M) F)) (il (iy (iq (ir _ _))) al.out) be aV.out aw.out az.out s1
     clear J1 J2 W J5 J6 J7 J9 aO al aV aw az ar;go_simp;go_wp2
     go_roundw
     case rel=>exact⟨k+1,by omega,by go_num,L⟩
     case measure=>simp [intOf];omega
    ·have ek:k=c.length:=by omega
     have L:Hid (∃ rows,wr.heap[w.heap.size+1]?=some (.cells rows 111 (0,0))/\rows.size=p.length/\Fin (f.heap.size+1) wr.heap.size wr rows (t+1) p/\(∀ j,t+1<=j->j<p.length->rows[j]?=some (.slice none 0 0))/\
       wr.cell? ⟨f.heap.size,0,none⟩=some (.slice (some ⟨w.heap.size+1,0,none⟩) p.length p.length)/\w.grownBy wr none/\f.heap.size+1<=wr.heap.size):=by
      obtain⟨rows,v,xs,E,V,N,K,H,O,R,j8,j9,aL,an,aZ,aB,a0,aF⟩:=ax.out;have bg:(iO p t).length=k:=by rw [HT.out];omega
      rw [List.take_of_length_le (by omega)]at H;have a7:∀ h,v.ownBlock=some h->h<wr.heap.size:=fun q e=>by
       rcases K.2 with ⟨J,_⟩ | ⟨g',_,_,hv,_,hh,_⟩
       ·rw [J]at e;cases e
       ·rw [hv]at e;have:=(Array.getElem?_eq_some_iff.1 hh).1;simp [Value.ownBlock]at e;omega
      refine⟨rows,E,V,(O.mono an).succ N (by rw [bg];exact iQ K (by omega)) a7 H,fun j M F=>R j (by omega) F,j8,j9,by omega⟩
     clear ek;go_wp2
     go_roundw
     case rel=>exact⟨t+1,by omega,by go_num,L⟩
     case measure=>simp [intOf];omega
  ·have et:t=p.length:=by omega
   have L:Hid (MachAt B.heap.size B f.heap.size p/\w.grownBy B none):=by
    obtain⟨rows,E,V,N,K,H,O,R⟩:=HI.out;refine⟨⟨w.heap.size+1,p.length,by omega,by omega,H,fun j hj=>?_⟩,O⟩;obtain⟨v,J,e2⟩:=N.rowIs (j:=j) (by omega);exact⟨v,by simp [World.cell?,E,J],e2⟩
   clear et;go_wp2
   go_ret;exact⟨f.heap.size,rfl,L.out.1,L.out.2⟩
theorem zN(p:List (List Ins))(pv:Value)(w:World)(r:ShpAt w)(d:ProgAt w pv p):
  Calls Tryz.prog 51 #[pv] w fun e w'=>e= .returned (.bool (iU p))/\w.grownBy w' none:=by
 obtain⟨ao,cap,rfl,d⟩:=d;have v:=ij r;have B:=ij d;clear r d;by_cases l:1<=p.length
 ·by_cases s:p.length<=4
  ·have g1:(1:Int)<=p.length:=by omega
   have x:(p.length:Int)<=4:=by omega
   have a:Hid (iU p=p.all kT):=by unfold Hid;simp [iU,l,s]
   go_enter Tryz.func51,Tryz.ntmps51
   go_wp2
   go_loopw [18] (fun i w'=>∃ k:Nat,k<=p.length/\i= .int .i64 k/\Hid (w.grownBy w' none)/\Hid ((p.take k).all kT=true)) (fun i _=>p.length - (intOf i).toNat)
   case atStart=>exact⟨0,Nat.zero_le _,rfl,iq (ir _ _),rfl⟩
   case round=>
    obtain⟨k,hk,rfl,h,m⟩:=hrel;by_cases q:k<p.length
    ·obtain⟨g,o,rfl,rv,c0,c1⟩:=B.out k q;have b:=ip h.out;have d0:=b _ _ c0;have A:=ij (c1.pres b);have f:=ij (kW p kT k q);have y:Hid (ShpAt wr):=v.out.pres b;clear c0 c1 b;have hk0:(0:Int)<=(k:Int):=by omega
     have hk1:(k:Int)<p.length:=by omega
     generalize p[k]=c at*;go_wp2_with fail
     refine(tG c rv _ y.out A.out).mono ?_;rintro e z ⟨rfl,n⟩;have t:Hid (w.grownBy z none):=il h.out n;clear n;cases hv:kT c
     ·have j:Hid (iU p=false):=by
       unfold Hid;rw [a.out];have:(p.take (k+1)).all kT=false:=by rw [f.out,hv];simp
       rw [<-List.take_append_drop (k+1) p,List.all_append,this];rfl
      go_wp2_with fail
      go_ret;exact⟨by rw [j.out];rfl,t⟩
     ·have u:Hid ((p.take (k+1)).all kT=true):=by unfold Hid;rw [f.out,hv,m.out];rfl
      clear f hv;go_wp2
      go_roundw
      case rel=>exact⟨k+1,by omega,by go_num,t,u⟩
      case measure=>simp [intOf];omega
    ·have j:Hid (iU p=true):=by
      unfold Hid;rw [a.out];have:=m.out;rw [List.take_of_length_le (by omega)]at this;exact this
     go_wp2
     go_ret;exact⟨by rw [j.out];rfl,h⟩
  ·have a:Hid (iU p=false):=by unfold Hid;simp [iU,s]
   have x:(4:Int)<p.length:=by omega
   go_enter Tryz.func51,Tryz.ntmps51
   go_wp2
   go_ret;exact⟨by rw [a.out];rfl,iq (ir _ _)⟩
 ·have a:Hid (iU p=false):=by unfold Hid;simp [iU,l]
  have g1:(p.length:Int)<1:=by omega
  go_enter Tryz.func51,Tryz.ntmps51
  go_wp2
  go_ret;exact⟨by rw [a.out];rfl,iq (ir _ _)⟩
theorem ProgAt.form{w:World}{pv:Value}{p:List (List Ins)}(h:ProgAt w pv p):∃ ao cap,pv= .agg #[.slice ao p.length cap]:=by
 obtain⟨ao,cap,e,_⟩:=h;exact⟨ao,cap,e⟩
def jh(p:List (List Ins)):Int:=if iU p=true then 0 else 1
def iC(p:List (List Ins))(s:List Int):Int:=if iU p=true then (if s.length<=500 then 0 else 2) else 1
theorem zg(p:List (List Ins))(pv:Value)(w:World)(d:ShpAt w)(a:ProgAt w pv p):
  Calls Tryz.prog 18 #[pv] w fun e w'=>e= .returned (.int .i64 (jh p))/\w.grownBy w' none:=by
 have i:=ij d;have h:=ij a;obtain⟨ao,cap,rfl⟩:=a.form;clear d a;go_enter Tryz.func18,Tryz.ntmps18
 go_wp2_with fail
 refine(zN p _ _ (i.out.pres (ip (iq (ir _ _)))) (h.out.pres (ip (iq (ir _ _))))).mono ?_;rintro e j ⟨rfl,f⟩;have c:Hid (w.grownBy j none):=il (iq (ir _ _)) f;clear f;cases hv:iU p
 ·have b:Hid (jh p=1):=by unfold Hid jh;simp [hv]
  go_wp2_with fail
  go_ret;exact⟨by rw [b.out];rfl,c⟩
 ·have b:Hid (jh p=0):=by unfold Hid jh;simp [hv]
  go_wp2_with fail
  go_ret;exact⟨by rw [b.out];rfl,c⟩
def vj(w:World)(v:Value)(ss:List (List Int)):Prop:=
 ∃ g o cap,v= .slice (some ⟨g,o,none⟩) ss.length cap/\∀ k (hk:k<ss.length),∃ so sc,w.cell? ⟨g,o+k,none⟩=some (.slice so ss[k].length sc)
theorem qX{W:World}{a:Option Addr}{s:List Int}{b:Nat}{t:TypeId}{g:Nat}(c:W.heap.size=g):vj (W.alloc (.cells #[.slice a s.length b] t)) (.slice (some ⟨g,0,none⟩) 1 1) [s]:=by
 subst c;refine⟨W.heap.size,0,1,rfl,fun k hk=>⟨a,b,?_⟩⟩;have d:k=0:=by simp at hk;omega
 subst d;have h:=heap_alloc_new W (.cells #[.slice a s.length b] t);simp only [World.cell?,h];rfl
def iT(p:List (List Ins))(ss:List (List Int)):Int:=if iU p=true then (if ss.all (fun s=>decide (s.length<=500))=true then 0 else 2) else 1
theorem nI(p:List (List Ins))(s:List Int):iT p [s]=iC p s:=by simp [iT,iC]
theorem ou(p:List (List Ins))(a:List (List Int))(pv sv:Value)(w:World)(r:ShpAt w)(l:ProgAt w pv p)(D:vj w sv a)(hn:a.length<=1000):
  Calls Tryz.prog 15 #[pv,sv] w fun e w'=>e= .returned (.int .i64 (iT p a))/\w.grownBy w' none:=by
 have A:=ij r;have z:=ij l;obtain⟨ao,cap,rfl⟩:=l.form;obtain⟨g,o,scap,rfl,hc⟩:=D;have E:=ij hc;clear r l hc;go_enter Tryz.func15,Tryz.ntmps15
 go_wp2_with fail
 refine(zg p _ _ (A.out.pres (ip (iq (ir _ _)))) (z.out.pres (ip (iq (ir _ _))))).mono ?_;rintro e C ⟨rfl,x⟩;have j:Hid (w.grownBy C none):=il (iq (ir _ _)) x;clear x;cases hv:iU p
 ·have c:Hid (iT p a=1):=by unfold Hid iT;simp [hv]
  have d:jh p=1:=by unfold jh;simp [hv]
  rw [d];clear d;go_wp2_with fail
  go_ret;exact⟨by rw [c.out];rfl,j⟩
 ·have d:jh p=0:=by unfold jh;simp [hv]
  rw [d];have q:Hid (iT p a=if a.all (fun s=>decide (s.length<=500))=true then 0 else 2):=by unfold Hid iT;rw [if_pos hv]
  clear d hv;have hn':(a.length:Int)<=1000:=by omega
  go_wp2_with fail
  go_loopw [15] (fun i w'=>∃ k:Nat,k<=a.length/\i= .int .i64 k/\Hid (w.grownBy w' none)/\Hid ((a.take k).all (fun s=>decide (s.length<=500))=true)) (fun i _=>a.length - (intOf i).toNat)
  case atStart=>exact⟨0,Nat.zero_le _,rfl,j,rfl⟩
  case round=>
   clear j;obtain⟨k,hk,rfl,b,v⟩:=hrel;obtain⟨t,u⟩:∃ t,t=wr:=⟨_,rfl⟩;rw [<-u]at b ⊢;clear u;by_cases m:k<a.length
   ·obtain⟨so,sc,c0⟩:=E.out k m;have d0:=ip b.out _ _ c0;have h:=ij (kW a (fun s=>decide (s.length<=500)) k m);have n:Hid (a[k].length<=500\/(a.all (fun s=>decide (s.length<=500))=false)):=by
     unfold Hid;by_cases f:a[k].length<=500
     ·exact Or.inl f
     ·right
      cases ha:a.all (fun s=>decide (s.length<=500))with
      | false=>rfl
      | true=>
       rw [List.all_eq_true]at ha;have:=ha _ (List.getElem_mem m);simp at this;omega
    clear c0;have hk0:(0:Int)<=(k:Int):=by omega
    have hk1:(k:Int)<a.length:=by omega
    generalize a[k]=s at*;by_cases f:s.length<=500
    ·have B:(s.length:Int)<=500:=by omega
     have y:Hid ((a.take (k+1)).all (fun s=>decide (s.length<=500))=true):=by unfold Hid;rw [h.out,v.out];simp [f]
     clear h n;go_wp2_with fail
     go_roundw
     case rel=>exact⟨k+1,by omega,by go_num,b,y⟩
     case measure=>simp [intOf];omega
    ·have B:(500:Int)<s.length:=by omega
     have c:Hid (iT p a=2):=by
      unfold Hid;rw [q.out,if_neg]
      rw [n.out.resolve_left f];simp
     clear h n;go_wp2_with fail
     go_ret;exact⟨by rw [c.out];rfl,b⟩
   ·have c:Hid (iT p a=0):=by
     unfold Hid;rw [q.out,if_pos]
     have:=v.out;rwa [List.take_of_length_le (by omega)]at this
    go_wp2_with fail
    go_ret;exact⟨by rw [c.out];rfl,b⟩
theorem IntsAt.mono{B a:Nat}{w:World}{v:Value}{l:List Int}(h:IntsAt B w v l)(hb:B<=a):IntsAt a w v l:=by
 obtain⟨j,i,e,b,c⟩:=h;refine⟨j,i,e,b,fun k hk=>?_⟩;obtain⟨g,o,d,e2,f⟩:=c k hk;exact⟨g,o,d,by omega,f⟩
theorem IntsAt.pres{B:Nat}{w w':World}{v:Value}{l:List Int}(h:IntsAt B w v l)(j:Pres w w'):IntsAt B w' v l:=by
 obtain⟨i,f,e,a,b⟩:=h;refine⟨i,f,e,a,fun k hk=>?_⟩;obtain⟨g,o,c,m,d⟩:=b k hk;exact⟨g,o,c,m,j _ _ d⟩
theorem IntsAt.form{B:Nat}{w:World}{v:Value}{l:List Int}(h:IntsAt B w v l):∃ ao cap,v= .slice ao l.length cap:=by
 obtain⟨ao,cap,e,_⟩:=h;exact⟨ao,cap,e⟩
def Replayed(p:List (List Ins))(s:List Int)(w:World)(e:Ending)(w':World):Prop:=
 w.grownBy w' none/\
 ((iC p s=0/\∃ rv,e= .returned (.tuple #[rv,.int .i64 0])/\Ct w.heap.size w' (iI p s) p.length rv)\/
  (iC p s≠0/\e= .returned (.tuple #[.agg #[.int .i64 0,.int .i64 0,.int .i64 0,.slice none 0 0,.int .i64 0,.int .i64 0,.int .i64 0,.int .i64 0,.slice none 0 0],.int .i64 (iC p s)])))
theorem xp(p:List (List Ins))(s:List Int)(pv sv:Value)(w:World)(Q:ShpAt w)(D:ProgAt w pv p)(G:IntsAt w.heap.size w sv s):
  Calls Tryz.prog 4 #[pv,sv] w (Replayed p s w):=by
 have aj:=ij Q;have T:=ij D;have HI:=ij G;obtain⟨J,I,rfl⟩:=D.form;obtain⟨so,sc,rfl⟩:=G.form;clear Q D G;go_enter Tryz.func4,Tryz.ntmps4
 go_wp2_with fail
 have E:∀ a b c,w.grownBy (((w.alloc a).alloc b).alloc c) none:=fun a b c=>iq (iq (iq (ir _ _)))
 refine(ou p [s] _ _ _ (aj.out.pres (ip (E _ _ _))) (T.out.pres (ip (E _ _ _))) (qX (by simp)) (by simp)).mono ?_;rw [nI];rintro e j ⟨rfl,i⟩;have z:Hid (w.grownBy j none):=il (E _ _ _) i;have hsz1:w.heap.size+2<=j.heap.size:=by have:=i.size;simp at this;omega
 have P:j.heap[w.heap.size]?=some (.cells #[.slice J p.length I] 37 (0,0)):=by
  rw [i.block w.heap.size (by simp;omega) (by simp),Below.heap_alloc _ _ _ (by simp;omega),Below.heap_alloc _ _ _ (by simp)];exact heap_alloc_new w _
 have n:j.heap[w.heap.size+1]?=some (.cells #[.int .i64 0,.int .i64 0,.int .i64 0,.slice none 0 0,.int .i64 0,.int .i64 0,.int .i64 0,.int .i64 0,.slice none 0 0] 31 (0,0)):=by
  rw [i.block (w.heap.size+1) (by simp) (by simp),Below.heap_alloc _ _ _ (by simp)];have:=heap_alloc_new (w.alloc (.cells #[.slice J p.length I] 37)) (.cells #[.int .i64 0,.int .i64 0,.int .i64 0,.slice none 0 0,.int .i64 0,.int .i64 0,.int .i64 0,.int .i64 0,.slice none 0 0] 31);simpa using this
 have aa:=ij n;have c0:j.cell? ⟨w.heap.size,0,none⟩=some (.slice J p.length I):=by simp [World.cell?,P]
 clear P i;by_cases f:iC p s=0
 ·have F:=ij f;have h:iU p=true:=by
   unfold iC at f;by_cases h:iU p=true
   ·exact h
   ·simp [h]at f
  have l:s.length<=500:=by
   unfold iC at f;by_cases l:s.length<=500
   ·exact l
   ·simp [h,l]at f
  have O:=ij h;rw [f];clear f h n;go_wp2_with fail
  refine(zF O.out (T.out.pres (ip z.out))).mono ?_;rintro e k ⟨m,rfl,N,q⟩;have HM:=ij N;have S:Hid (w.grownBy k none):=il z.out q;have hsz2:w.heap.size+2<=k.heap.size:=by have:=q.size;omega
  have al:Hid (k.heap[w.heap.size+1]?=some (.cells #[.int .i64 0,.int .i64 0,.int .i64 0,.slice none 0 0,.int .i64 0,.int .i64 0,.int .i64 0,.int .i64 0,.slice none 0 0] 31 (0,0))):=by
   unfold Hid;rw [q.block _ (by omega) (by simp)];exact aa.out
  clear N q c0;go_wp2_with fail
  refine(uh O.out HM.out (Nat.le_refl _) ((HI.out.pres (ip S.out)).mono (by omega)) l).mono ?_;rintro e W ⟨rv,rfl,⟨sv,gv,rfl,C,x⟩,H⟩;obtain⟨x1,x2,x3,rfl⟩:=iw C;obtain⟨y1,y2,y3,rfl⟩:=iw x;have ab:=ij C;have af:=ij x;have ag:Hid (w.grownBy W none):=il S.out H;have R:W.heap[w.heap.size+1]?=some (.cells #[.int .i64 0,.int .i64 0,.int .i64 0,.slice none 0 0,.int .i64 0,.int .i64 0,.int .i64 0,.int .i64 0,.slice none 0 0] 31 (0,0)):=by
   rw [H.block _ (by omega) (by simp)];exact al.out
  obtain⟨y,L,u,t,A,K,B,M,r,d⟩:=kw R;have Z:=d 0;have f1:=d 1;have f2:=d 2;have f3:=d 3;have f4:=d 4;have Y:=d 5;have f6:=d 6;have f7:=d 7;have f8:=d 8;clear d R C x H;generalize X:iI p s=o at*;have ar:=ij X;clear X;go_wp2_with fail
  refine bodyPost_ret (v:= .tuple #[.agg #[.int .i64 o.kind,.int .i64 o.thread,.int .i64 o.at_,.slice x1 x2 x3,.int .i64 (o.st.vars 0),.int .i64 (o.st.vars 1),.int .i64 (o.st.vars 2),.int .i64 (o.st.vars 3),.slice y1 y2 y3],.int .i64 0]) ?_ rfl ⟨?_,Or.inl ⟨F.out,_,rfl,?_⟩⟩
  ·simp [results,Tryz.results4,go_sem,y,L,u,t,A,K,B,M,r]
  ·iterate 9 refine iF ?_ (by omega)
   exact ag.out
  ·rw [ar.out];refine⟨_,_,rfl,?_,?_⟩
   ·refine iQ (base:=k.heap.size) ?_ (by omega);iterate 9 refine ownsRow_setCell_below ?_ (by simp;omega) _
    exact ab.out
   ·refine iQ (base:=k.heap.size) ?_ (by omega);iterate 9 refine ownsRow_setCell_below ?_ (by simp;omega) _
    exact af.out
 ·have F:=ij f;obtain⟨y,L,u,t,A,K,B,M,r,d⟩:=kw n;have Z:=d 0;have f1:=d 1;have f2:=d 2;have f3:=d 3;have f4:=d 4;have Y:=d 5;have f6:=d 6;have f7:=d 7;have f8:=d 8;have hne:(iC p s !=0)=true:=by simpa using f
  clear d n f;generalize U:iC p s=e at*;have V:=ij U;clear U;go_wp2_with fail
  refine bodyPost_ret (v:= .tuple #[.agg #[.int .i64 0,.int .i64 0,.int .i64 0,.slice none 0 0,.int .i64 0,.int .i64 0,.int .i64 0,.int .i64 0,.slice none 0 0],.int .i64 e]) ?_ rfl ⟨?_,Or.inr ⟨by rw [V.out];exact F.out,by rw [V.out]⟩⟩
  ·simp [results,Tryz.results4,go_sem,y,L,u,t,A,K,B,M,r]
  ·iterate 9 refine iF ?_ (by omega)
   exact z.out
end
section
theorem pu(p:List (List Ins))(s:St):3<=jQ p s/\jQ p s<=5:=by
 unfold jQ;split
 ·omega
 ·split<;>omega
def Fb(p:List (List Ins))(a:List Int):Prop:=(iI p a).kind≠2/\(iI p a).steps.length=a.length
end
section
open Go.RowKit
attribute [local go_sem] Go.World.cell?_alloc_some
def iL(a:List Int):List Value:=a.map fun x=> .int .i64 x
theorem jZ(a:List Int):(iL a).length=a.length:=by simp [iL]
theorem oZ(a:List Int):∀ v∈iL a,v.oneCell'=true:=by
 intro v b;simp only [iL,List.mem_map]at b;obtain⟨x,_,rfl⟩:=b;rfl
theorem Bh(a:List Int)(x:Int):iL (a++[x])=iL a++[.int .i64 x]:=by simp [iL]
theorem jy{w:World}{base:Nat}{v:Value}{a:List Int}(h:w.ownsRow base 3 1 v a.length (iL a)):IntsAt w.heap.size w v a:=by
 rcases h.2 with ⟨e,e0⟩ | ⟨g,cap,cur,hv,hb,hh,hc,_⟩
 ·refine⟨none,0,by rw [e,e0],by omega,fun k hk=>by omega⟩
 ·refine⟨some ⟨g,0,none⟩,cap,hv,hc,fun k hk=>⟨g,0,rfl,(Array.getElem?_eq_some_iff.1 hh).1,?_⟩⟩;rw [hv]at h;rw [Nat.zero_add,h.cellAt k (by omega)];simp [iL,hk]
def BD(o:Out)(s1 g1:Value):Array Value:= #[.int .i64 o.kind,.int .i64 o.thread,.int .i64 o.at_,s1,.int .i64 (o.st.vars 0),.int .i64 (o.st.vars 1),.int .i64 (o.st.vars 2),.int .i64 (o.st.vars 3),g1]
def EK:Array Value:= #[.int .i64 0,.int .i64 0,.int .i64 0,.slice none 0 0,.int .i64 0,.int .i64 0,.int .i64 0,.int .i64 0,.slice none 0 0]
structure SchAt(w:World)(p:List (List Ins))(pb:Value)(rb:Nat)(a:List Int)(sv:Value)(w':World):Prop where
 grown:w.grownBy w' none
 row:w'.ownsRow w.heap.size 3 1 sv a.length (iL a)
 nil:a=[]->sv= .slice none 0 0
 apart:sv.ownBlock≠some rb
 res:∃ s1 g1,w'.heap[rb]?=some (.cells (BD (iI p a) s1 g1) 31 (0,0))/\w'.ownsRow w.heap.size 76 2 s1 (iI p a).steps.length (iR (iI p a).steps)/\w'.ownsRow w.heap.size 28 4 g1 p.length (jp p.length (iI p a).st)/\s1.ownBlock≠some rb/\g1.ownBlock≠some rb
 box:w'.heap[w.heap.size]?=some (.cells #[pb] 37 (0,0))
 out:w'.heap[w.heap.size+1]?=some (.cells EK 31 (0,0))
 lo:w.heap.size+2<=rb
 hi:rb<w'.heap.size
 good:Fb p a
theorem SchAt.step{w:World}{p:List (List Ins)}{f:Value}{d:Nat}{a:List Int}{sv:Value}{w' c:World}(h:SchAt w p f d a sv w')(b:w'.grownBy c none):SchAt w p f d a sv c:=by
 obtain⟨m,g1,i,j,l,k,n⟩:=h.res;exact⟨il h.grown b,iD h.row b (fun _ e=>by cases e),h.nil,h.apart,⟨m,g1,by rw [b.block _ h.hi (by simp)];exact i,iD j b (fun _ e=>by cases e),iD l b (fun _ e=>by cases e),k,n⟩,
  by rw [b.block _ (by have:=h.lo;have:=h.hi;omega) (by simp)];exact h.box,by rw [b.block _ (by have:=h.lo;have:=h.hi;omega) (by simp)];exact h.out,h.lo,Nat.lt_of_lt_of_le h.hi b.size,h.good⟩
theorem mV{w:World}{base:Nat}{e:TypeId}{c:Nat}{v:Value}{n:Nat}{xs:List Value}{g o:Nat}{u:Value}(h:w.ownsRow base e c v n xs)(f:v.ownBlock≠some g):(w.setCell ⟨g,o,none⟩ u).ownsRow base e c v n xs:=by
 obtain⟨d,a⟩:=h;refine⟨d,?_⟩;rcases a with a | ⟨b,cap,cur,hv,hb,hh,rest⟩
 ·exact Or.inl a
 ·refine Or.inr ⟨b,cap,cur,hv,hb,?_,rest⟩;rw [Below.heap_setCell _ _ _ _ (fun e=>f (by rw [hv];simp [Value.ownBlock,e]))];exact hh
theorem Gn{w:World}{g:Nat}{x0 x1 x2 x3 z u v q n e k b i j d a f c:Value}{t:TypeId}(h:w.heap[g]?=some (.cells #[x0,x1,x2,x3,z,u,v,q,n] t (0,0))):
  (((((((((w.setCell ⟨g,0,none⟩ e).setCell ⟨g,1,none⟩ k).setCell ⟨g,2,none⟩ b).setCell ⟨g,3,none⟩ i).setCell ⟨g,4,none⟩ j).setCell ⟨g,5,none⟩ d).setCell ⟨g,6,none⟩ a).setCell ⟨g,7,none⟩ f).setCell ⟨g,8,none⟩ c).heap[g]?=some (.cells #[e,k,b,i,j,d,a,f,c] t (0,0)):=by
 have y:=heap_setCell_same w g 0 _ t e h;have l:=heap_setCell_same _ g 1 _ t k y;have m:=heap_setCell_same _ g 2 _ t b l;have o:=heap_setCell_same _ g 3 _ t i m;have A:=heap_setCell_same _ g 4 _ t j o;have x:=heap_setCell_same _ g 5 _ t d A;have r:=heap_setCell_same _ g 6 _ t a x;have s:=heap_setCell_same _ g 7 _ t f r;have p:=heap_setCell_same _ g 8 _ t c s;simpa using p
theorem SchAt.set{w:World}{p:List (List Ins)}{j:Value}{c:Nat}{a b:List Int}{sv tv:Value}{w':World}(h:SchAt w p j c a sv w')(o:b≠[])(v:w'.ownsRow w.heap.size 3 1 tv b.length (iL b))(m:tv.ownBlock≠some c){d g1:Value}
  (q:w'.ownsRow w.heap.size 76 2 d (iI p b).steps.length (iR (iI p b).steps)) (y:w'.ownsRow w.heap.size 28 4 g1 p.length (jp p.length (iI p b).st)) (f:d.ownBlock≠some c) (l:g1.ownBlock≠some c) (z:Fb p b):
  SchAt w p j c b tv (((((((((w'.setCell ⟨c,0,none⟩ (.int .i64 (iI p b).kind)).setCell ⟨c,1,none⟩ (.int .i64 (iI p b).thread)).setCell ⟨c,2,none⟩ (.int .i64 (iI p b).at_)).setCell ⟨c,3,none⟩ d).setCell ⟨c,4,none⟩ (.int .i64 ((iI p b).st.vars 0))).setCell ⟨c,5,none⟩ (.int .i64 ((iI p b).st.vars 1))).setCell ⟨c,6,none⟩ (.int .i64 ((iI p b).st.vars 2))).setCell ⟨c,7,none⟩ (.int .i64 ((iI p b).st.vars 3))).setCell ⟨c,8,none⟩ g1):=by
 obtain⟨s0,g0,n,_⟩:=h.res;have u:=h.lo;have hhi:=h.hi;have i:∀ k,k≠c->(((((((((w'.setCell ⟨c,0,none⟩ (.int .i64 (iI p b).kind)).setCell ⟨c,1,none⟩ (.int .i64 (iI p b).thread)).setCell ⟨c,2,none⟩ (.int .i64 (iI p b).at_)).setCell ⟨c,3,none⟩ d).setCell ⟨c,4,none⟩ (.int .i64 ((iI p b).st.vars 0))).setCell ⟨c,5,none⟩ (.int .i64 ((iI p b).st.vars 1))).setCell ⟨c,6,none⟩ (.int .i64 ((iI p b).st.vars 2))).setCell ⟨c,7,none⟩ (.int .i64 ((iI p b).st.vars 3))).setCell ⟨c,8,none⟩ g1).heap[k]?=w'.heap[k]?:=fun k hk=>by
  iterate 9 rw [Below.heap_setCell _ _ _ _ (by simpa using hk)]
 refine⟨?_,?_,fun e=>absurd e o,m,⟨d,g1,Gn n,?_,?_,f,l⟩,?_,?_,u,by simp;omega,z⟩
 ·iterate 9 refine iF ?_ (by omega)
  exact h.grown
 ·iterate 9 refine mV ?_ m
  exact v
 ·iterate 9 refine mV ?_ f
  exact q
 ·iterate 9 refine mV ?_ l
  exact y
 ·rw [i _ (by omega)];exact h.box
 ·rw [i _ (by omega)];exact h.out
section
variable {P : Program} {w : World} {ops : Array Oper} {rest : List Oper} {o : Oper} {a : Act} {Q : Exit -> Act -> World -> Prop}
end
theorem ko:((Tryz.prog.info? 3).map fun i=>(i.zero,i.size,i.bytes))=some (some (.int .i64 0),1,8):=by kernel_rfl
theorem iB{w:World}{base e a:Nat}{b:Option Addr}{n c m:Nat}{xs:List Value}(h:w.ownsRow base e a (.slice b n c) m xs):n=m:=by
 rcases h.2 with ⟨e,e0⟩ | ⟨g,cap,cur,hv,_⟩
 ·simp at e;omega
 ·simp at hv;omega
end
section
open Go.RowKit
theorem jq(w:World):jt w w:=⟨rfl,rfl,rfl,rfl⟩
theorem jV{w' w:World}(h:jt w' w)(n:Nat):jt (w'.drewN n) w:=by
 have:=lf w' n;exact⟨this.1.trans h.1,this.2.1.trans h.2.1,this.2.2.1.trans h.2.2.1,this.2.2.2.trans h.2.2.2⟩
theorem js{w:World}{base:Nat}{e:TypeId}{b g n a:Nat}{xs:List Value}(h:w.ownsRow base e b (.slice (some ⟨g,0,none⟩) n a) n xs)(j:Nat)(u:Value):
  (w.setCell ⟨g,j,none⟩ u).ownsRow base e b (.slice (some ⟨g,0,none⟩) n a) n (xs.set j u):=by
 obtain⟨c,d⟩:=h;refine⟨by simpa using c,?_⟩;rcases d with ⟨e1,_⟩ | ⟨g',cap',cur,hv,hb,hh,h3,h4,h5,h6⟩
 ·cases e1
 ·simp only [Value.slice.injEq,Option.some.injEq,Addr.mk.injEq,true_and,and_true]at hv;obtain⟨rfl,rfl⟩:=hv;exact Or.inr ⟨g,a,cur.setIfInBounds j u,rfl,hb,heap_setCell_same w g j cur e u hh,h3,h4,by simpa using h5,by rw [<-h6,Array.toList_setIfInBounds,List.take_set]⟩
theorem kP{w w':World}(h:Below w.heap.size w w'):w.grownBy w' none:=⟨h.os,h.tape,h.output,h.size,fun k hk _=>h.block k hk⟩
end
section
open Go.RowKit
attribute [local go_sem] Go.World.cell?_alloc_some
def DY:List Ins:=[⟨2,0,0,0⟩,⟨1,1,0,1⟩,⟨4,0,1,0⟩,⟨3,0,0,0⟩]
def qv:List (List Ins):=[DY,DY]
def DI:Array Value:= #[.int .i64 2,.int .i64 0,.int .i64 0,.int .i64 0,.int .i64 1,.int .i64 1,.int .i64 0,.int .i64 1,.int .i64 4,.int .i64 0,.int .i64 1,.int .i64 0,.int .i64 3,.int .i64 0,.int .i64 0,.int .i64 0]
theorem Bq{w:World}{g:Nat}{ty:TypeId}(h:w.heap[g]?=some (.cells DI ty (0,0))):CodeAt w (.slice (some ⟨g,0,none⟩) 4 4) DY:=by
 refine⟨some ⟨g,0,none⟩,4,rfl,fun k hk=>⟨g,0,rfl,?_⟩⟩;have a:k=0\/k=1\/k=2\/k=3:=by simp [DY]at hk;omega
 simp only [World.cell?,h];rcases a with rfl | rfl | rfl | rfl<;>exact⟨rfl,rfl,rfl,rfl⟩
theorem Cz{w:World}{g g2:Nat}{ty ty2:TypeId}(h:w.heap[g]?=some (.cells DI ty (0,0)))(b:w.heap[g2]?=some (.cells #[.slice (some ⟨g,0,none⟩) 4 4,.slice (some ⟨g,0,none⟩) 4 4] ty2 (0,0))):
  ProgAt w (.agg #[.slice (some ⟨g2,0,none⟩) 2 2]) qv:=by
 refine⟨some ⟨g2,0,none⟩,2,rfl,fun t ht=>⟨g2,0,rfl,.slice (some ⟨g,0,none⟩) 4 4,?_,?_⟩⟩
 ·have a:t=0\/t=1:=by simp [qv]at ht;omega
  simp only [World.cell?,b];rcases a with rfl | rfl<;>rfl
 ·have a:t=0\/t=1:=by simp [qv]at ht;omega
  rcases a with rfl | rfl<;>exact Bq h
theorem ue(w:World):Calls Tryz.prog 5 #[] w fun e w'=>∃ pv,e= .returned pv/\ProgAt w' pv qv/\w.grownBy w' none:=by
 go_enter Tryz.func5,Tryz.ntmps5
 go_wp2_with fail
 refine bodyPost_ret (v:= .agg #[.slice (some ⟨w.heap.size+1+1,0,none⟩) 2 2]) ?_ rfl ⟨_,rfl,Cz (g:=w.heap.size+1) (ty:=65) (ty2:=66) ?_ ?_,iq (iq (iq (ir _ _)))⟩
 ·simp [results,Tryz.results5,go_sem]
 ·rw [Below.heap_alloc _ _ _ (by simp)];have:=heap_alloc_new (w.alloc (.cells #[.slice (some ⟨w.heap.size+1+1,0,none⟩) 2 2] 37)) (.cells DI 65);simp only [World.size_alloc]at this;exact this
 ·have:=heap_alloc_new ((w.alloc (.cells #[.slice (some ⟨w.heap.size+1+1,0,none⟩) 2 2] 37)).alloc (.cells DI 65)) (.cells #[.slice (some ⟨w.heap.size+1,0,none⟩) 4 4,.slice (some ⟨w.heap.size+1,0,none⟩) 4 4] 66);simp only [World.size_alloc]at this;exact this
def j0(op:Int):Int × Int × Int:=
 if op=1 then (4,0,1) else if 2<=op/\op<=7 then (4,4,0) else if op=8 then (4,0,2) else if op=9\/op=10 then (3,0,0) else if op=11 then (4,0,0) else (-1,0,0)
def ku(v n:Int):Bool:=v==0 || (decide (0<v) && decide (v<n))
def kg(c v n:Int):Bool:=c==1 || v==0 || (c==2 && decide (0<v) && decide (v<=n))
def nL(i:Ins)(n:Int):Bool:=!decide ((j0 i.op).1<0) && ku i.a (j0 i.op).1 && ku i.b (j0 i.op).2.1 && kg (j0 i.op).2.2 i.n n
theorem wt(v:Int):ku v 4=jD v 4:=by
 unfold ku jD;rw [Bool.eq_iff_iff];simp;omega
theorem vp(v:Int):ku v 3=jD v 3:=by
 unfold ku jD;rw [Bool.eq_iff_iff];simp;omega
theorem wG(v:Int):ku v 0=(v==0):=by
 unfold ku;rw [Bool.eq_iff_iff];simp;omega
theorem xR(v n:Int)(hn:0<=n):kg 2 v n=jD v (n+1):=by
 unfold kg jD;rw [Bool.eq_iff_iff];simp;omega
theorem Dt(i:Ins)(n:Int)(l:0<=n):nL i n=lG i n:=by
 obtain⟨c,a,b,m⟩:=i;by_cases h:1<=c/\c<=11
 ·have hc:c=1\/c=2\/c=3\/c=4\/c=5\/c=6\/c=7\/c=8\/c=9\/c=10\/c=11:=by omega
  have d:kg 0 m n=(m==0):=by unfold kg;simp
  have z1:kg 1 m n=true:=by unfold kg;simp
  have k:=xR m n l;rcases hc with rfl | rfl | rfl | rfl | rfl | rfl | rfl | rfl | rfl | rfl | rfl<;>simp [nL,lG,j0,shp,mi,wt,vp,wG,d,z1,k,Bool.and_assoc]
 ·have e:j0 c=(-1,0,0):=by
   unfold j0;rw [if_neg (by omega),if_neg (by omega),if_neg (by omega),if_neg (by omega),if_neg (by omega)]
  have f:lG ⟨c,a,b,m⟩ n=false:=by
   simp only [lG];by_cases j:1<=c
   ·have:¬c<=11:=by omega
    simp [this]
   ·simp [j]
  rw [f];simp [nL,e]
theorem vS(v n:Int)(w:World):Calls Tryz.prog 54 #[.int .i64 v,.int .i64 n] w fun e w'=>e= .returned (.bool (ku v n))/\w'=w:=by
 by_cases a:v=0
 ·have HB:Hid (ku v n=true):=by unfold Hid ku;simp [a]
  subst a;go_enter Tryz.func54,Tryz.ntmps54
  go_wp2_with fail
  go_ret;exact⟨by rw [HB.out];rfl,rfl⟩
 ·have h0':(v==0)=false:=by simpa using a
  by_cases b:0<v
  ·by_cases c:v<n
   ·have HB:Hid (ku v n=true):=by unfold Hid ku;simp [b,c]
    go_enter Tryz.func54,Tryz.ntmps54
    go_wp2_with fail
    go_ret;exact⟨by rw [HB.out];rfl,rfl⟩
   ·have HB:Hid (ku v n=false):=by unfold Hid ku;simp [a,c]
    have d:n<=v:=by omega
    go_enter Tryz.func54,Tryz.ntmps54
    go_wp2_with fail
    go_ret;exact⟨by rw [HB.out];rfl,rfl⟩
  ·have HB:Hid (ku v n=false):=by unfold Hid ku;simp [a,b]
   have d:v<=0:=by omega
   go_enter Tryz.func54,Tryz.ntmps54
   go_wp2_with fail
   go_ret;exact⟨by rw [HB.out];rfl,rfl⟩
def rn(x:Int × Int × Int):Value:= .tuple #[.int .i64 x.1,.int .i64 x.2.1,.int .i64 x.2.2]
theorem Ex(a:Int)(w:World):Calls Tryz.prog 53 #[.int .i64 a] w fun e w'=>e= .returned (rn (j0 a))/\w'=w:=by
 by_cases h:1<=a/\a<=11
 ·have hc:a=1\/a=2\/a=3\/a=4\/a=5\/a=6\/a=7\/a=8\/a=9\/a=10\/a=11:=by omega
  rcases hc with rfl | rfl | rfl | rfl | rfl | rfl | rfl | rfl | rfl | rfl | rfl
  all_goals
   go_enter Tryz.func53,Tryz.ntmps53
   go_wp2_with fail
   refine bodyPost_ret (v:=rn (j0 _)) (by simp [results,Tryz.results53,go_sem,rn,j0]) rfl ⟨rfl,rfl⟩
 ·have b:j0 a=(-1,0,0):=by
   unfold j0;rw [if_neg (by omega),if_neg (by omega),if_neg (by omega),if_neg (by omega),if_neg (by omega)]
  have n1:(a==1)=false:=by simp;omega
  have n2:(a==2)=false:=by simp;omega
  have n3:(a==3)=false:=by simp;omega
  have n4:(a==4)=false:=by simp;omega
  have n5:(a==5)=false:=by simp;omega
  have n6:(a==6)=false:=by simp;omega
  have n7:(a==7)=false:=by simp;omega
  have n8:(a==8)=false:=by simp;omega
  have n9:(a==9)=false:=by simp;omega
  have n10:(a==10)=false:=by simp;omega
  have n11:(a==11)=false:=by simp;omega
  rw [b];clear b h;go_enter Tryz.func53,Tryz.ntmps53
  go_wp2_with fail
  refine bodyPost_ret (v:=rn (-1,0,0)) (by simp [results,Tryz.results53,go_sem,rn]) rfl ⟨rfl,rfl⟩
def xW(p:List (List Ins)):Bool:=decide (1<=p.length) && (decide (p.length<=4) && p.all fun c=>decide (c.length<=16) && c.all fun i=>nL i c.length)
theorem zq(p:List (List Ins)):xW p=iU p:=by
 unfold xW iU kT;congr 2
 congr 1
 funext c
 congr 2
 funext i
 exact Dt i _ (by omega)
theorem t8{α:Type}(l:List α)(f:α->Bool)(k:Nat)(a:k<l.length)(h:f l[k]=false):l.all f=false:=by
 rw [List.all_eq_false];exact⟨_,List.getElem_mem a,by simp [h]⟩
theorem wy{α:Type}(l:List α)(f:α->Bool)(k:Nat)(a:k<l.length)(h:(l.take k).all f=true)(b:f l[k]=true):(l.take (k+1)).all f=true:=by
 rw [List.take_succ_eq_append_getElem a,List.all_append,h];simp [b]
theorem mG(p:List (List Ins))(pv:Value)(w:World)(R:ProgAt w pv p)(hp:p.length<=5864062014634)(X:∀ c∈p,c.length<=4398046510976):
  Calls Tryz.prog 24 #[pv] w fun e w'=>e= .returned (.int .i64 (jh p))/\w.grownBy w' none:=by
 have HP:=ij R;have aD:=ij X;obtain⟨A,x,rfl⟩:=R.form;clear R X;have q0:(p.length:Int)<=5864062014634:=by omega
 have I:Hid (xW p=false->jh p=1):=fun e=>by rw [zq]at e;unfold jh;simp [e]
 have aM:Hid (xW p=true->jh p=0):=fun e=>by rw [zq]at e;unfold jh;simp [e]
 by_cases af:1<=p.length/\p.length<=4
 ·have g1:(1:Int)<=p.length:=by omega
  have g4:(p.length:Int)<=4:=by omega
  have H:Hid (∀ r,(p.all fun c=>decide (c.length<=16) && c.all fun i=>nL i c.length)=r->xW p=r):=fun r e=>by unfold xW;rw [e];simp [af.1,af.2]
  go_enter Tryz.func24,Tryz.ntmps24
  go_wp2_with fail
  have S:w.grownBy (w.alloc (.cells #[.slice A p.length x] 37)) none:=iq (ir _ _);have D:=heap_alloc_new w (.cells #[.slice A p.length x] 37);generalize w.alloc (.cells #[.slice A p.length x] 37)=w1 at S D ⊢;have Z:=ij D;have v:=ij S;have hbx:w.heap.size<w1.heap.size:=(Array.getElem?_eq_some_iff.1 D).1;clear S D;go_loopw [3] (fun i w'=>∃ t:Nat,t<=p.length/\i= .int .i64 t/\Hid (w1.grownBy w' none)/\Hid ((p.take t).all (fun c=>decide (c.length<=16) && c.all fun i=>nL i c.length)=true)) (fun i _=>p.length - (intOf i).toNat)
  case atStart=>exact⟨0,Nat.zero_le _,rfl,ij (ir _ _),by simp [Hid]⟩
  case round=>
   obtain⟨t,ht,rfl,f,HA⟩:=hrel;obtain⟨y,am⟩:∃ y,y=wr:=⟨_,rfl⟩;rw [<-am]at f ⊢;clear am;have c0:y.cell? ⟨w.heap.size,0,none⟩=some (.slice A p.length x):=ip f.out _ _ (by have:=Z.out;simp [World.cell?,this]);by_cases G:t<p.length
   ·obtain⟨ao',cap',z,Y⟩:=HP.out;obtain⟨K,V,n,rv,O,r2⟩:=Y t G;simp only [Value.agg.injEq,Array.mk.injEq,List.cons.injEq,Value.slice.injEq,and_true,true_and]at z;obtain⟨z,aQ⟩:=z;subst z aQ n;have hpl:p[t].length<=4398046510976:=aD.out _ (List.getElem_mem G);obtain⟨ca,cc,rfl,ai⟩:=r2;have U:y.cell? ⟨K,V+t,none⟩=some (.slice ca p[t].length cc):=ip (il v.out f.out) _ _ O;have P:Hid (∀ r,(decide (p[t].length<=16) && p[t].all fun i=>nL i p[t].length)=r->(r=false->(p.all fun c=>decide (c.length<=16) && c.all fun i=>nL i c.length)=false)/\(r=true->(p.take (t+1)).all (fun c=>decide (c.length<=16) && c.all fun i=>nL i c.length)=true)):=fun r e=>
     ⟨fun n=>t8 p _ t G (by rw [e,n]),fun n=>wy p _ t G HA.out (by rw [e,n])⟩
    have aO:=ij O;have aA:=ij ai;clear Y O ai;generalize p[t]=c at*;have t0:(0:Int)<=(t:Int):=by omega
    have t1:(t:Int)<p.length:=by omega
    have t2:(c.length:Int)<=4398046510976:=by omega
    by_cases aw:c.length<=16
    ·have t3:(c.length:Int)<=16:=by omega
     go_wp2_with fail
     go_loopw [5] (fun i w'=>∃ k:Nat,k<=c.length/\i= .int .i64 k/\Hid (w1.grownBy w' none)/\Hid ((c.take k).all (fun i=>nL i c.length)=true)) (fun i _=>c.length - (intOf i).toNat)
     case atStart=>exact⟨0,Nat.zero_le _,rfl,f,by simp [Hid]⟩
     case round=>
      clear c0 U f;obtain⟨k,hk,rfl,f,ab⟩:=hrel;obtain⟨m,av⟩:∃ m,m=wr:=⟨_,rfl⟩;rw [<-av]at f ⊢;clear av;by_cases N:k<c.length
      ·obtain⟨ig,io,rfl,x1,x2,x3,x4⟩:=aA.out k N;have q:=il v.out f.out;have c0:m.cell? ⟨w.heap.size,0,none⟩=some (.slice (some ⟨K,V,none⟩) p.length x):=ip f.out _ _ (by have:=Z.out;simp [World.cell?,this]);have U:m.cell? ⟨K,V+t,none⟩=some (.slice (some ⟨ig,io,none⟩) c.length cc):=ip q _ _ aO.out;have y1:=ip q _ _ x1;have y2:=ip q _ _ x2;have y3:=ip q _ _ x3;have y4:=ip q _ _ x4;have au:Hid (∀ r,nL c[k] c.length=r->(r=false->(c.all fun i=>nL i c.length)=false)/\(r=true->(c.take (k+1)).all (fun i=>nL i c.length)=true)):=fun r e=>
        ⟨fun n=>t8 c _ k N (by rw [e,n]),fun n=>wy c _ k N ab.out (by rw [e,n])⟩
       clear x1 x2 x3 x4 q;generalize c[k]=ins at*;obtain⟨b,d,h,a⟩:=ins;simp only at y1 y2 y3 y4;have s0:(0:Int)<=(k:Int):=by omega
       have s1:(k:Int)<c.length:=by omega
       go_wp2_with fail
       have M:m.grownBy (m.alloc (.cells #[.int .i64 b,.int .i64 d,.int .i64 h,.int .i64 a] 65)) none:=iq (ir _ _);have u:=heap_alloc_new m (.cells #[.int .i64 b,.int .i64 d,.int .i64 h,.int .i64 a] 65);generalize m.alloc (.cells #[.int .i64 b,.int .i64 d,.int .i64 h,.int .i64 a] 65)=w8 at M u ⊢;have z1:w8.cell? ⟨m.heap.size,1,none⟩=some (.int .i64 d):=by simp [World.cell?,u]
       have z2:w8.cell? ⟨m.heap.size,2,none⟩=some (.int .i64 h):=by simp [World.cell?,u]
       have z3:w8.cell? ⟨m.heap.size,3,none⟩=some (.int .i64 a):=by simp [World.cell?,u]
       have ad:=ij (il f.out M);clear M u y1 y2 y3 y4 U c0 f;refine(Ex b w8).mono ?_;rintro e w9 ⟨rfl,l⟩;have l:=l.symm;subst l;have J:Hid (∀ r,(!decide ((j0 b).1<0) && ku d (j0 b).1 && ku h (j0 b).2.1 && kg (j0 b).2.2 a c.length)=r->nL ⟨b,d,h,a⟩ c.length=r):=fun r e=>e
       have E:(j0 b).2.2=0\/(j0 b).2.2=1\/(j0 b).2.2=2:=by
        unfold j0;repeat' split
        all_goals simp
       have F:(j0 b).1= -1\/0<=(j0 b).1:=by
        unfold j0;repeat' split
        all_goals simp
       unfold rn;generalize j0 b=sr at*;obtain⟨C,sb,B⟩:=sr;simp only at J E F ⊢;go_wp2_with fail
       refine(vS d C w8).mono ?_;rintro e w9 ⟨rfl,l⟩;have l:=l.symm;subst l;go_wp2_with fail
       refine(vS h sb w8).mono ?_;rintro e w9 ⟨rfl,l⟩;have l:=l.symm;subst l;generalize ku d C=xb at*;generalize ku h sb=yb at*;have ar:Hid (∀ r,kg B a c.length=r->nL ⟨b,d,h,a⟩ c.length=(!decide (C<0) && xb && yb && r)):=fun r e=>J.out _ (by rw [e])
       clear J;go_upto_region 16 with fail
       go_cut [12] (fun zv w'=>zv= .bool (kg B a c.length)/\w'=w8)
       case first=>
        by_cases s:a=0
        ·have j:kg B a c.length=true:=by unfold kg;simp [s]
         have aJ:(a==0)=true:=by simpa using s
         rcases E with rfl | rfl | rfl
         all_goals
          go_wp2_with fail
          go_meet
          exact⟨by rw [j],rfl⟩
        ·have aJ:(a==0)=false:=by simpa using s
         rcases E with rfl | rfl | rfl
         ·have j:kg 0 a c.length=false:=by unfold kg;simp [s]
          go_wp2_with fail
          go_meet
          exact⟨by rw [j],rfl⟩
         ·have j:kg 1 a c.length=true:=by unfold kg;simp
          go_wp2_with fail
          go_meet
          exact⟨by rw [j],rfl⟩
         ·by_cases an:0<a
          ·by_cases ae:a<=(c.length:Int)
           ·have j:kg 2 a c.length=true:=by unfold kg;simp [an,ae]
            go_wp2_with fail
            go_meet
            exact⟨by rw [j],rfl⟩
           ·have j:kg 2 a c.length=false:=by unfold kg;simp [s,ae]
            have hic':(c.length:Int)<a:=by omega
            go_wp2_with fail
            go_meet
            exact⟨by rw [j],rfl⟩
          ·have j:kg 2 a c.length=false:=by unfold kg;simp [s,an]
           have hip':a<=0:=by omega
           go_wp2_with fail
           go_meet
           exact⟨by rw [j],rfl⟩
       case rest=>
       obtain⟨rfl,L⟩:=hcut;have Q:=L.symm;subst Q;generalize kg B a c.length=zb at*;have W:=ij (ar.out zb rfl);clear ar z1 z2 z3 E;go_upto_region 17 with fail
       go_cut [101] (fun bv w'=>bv= .bool (!nL ⟨b,d,h,a⟩ c.length)/\w'=w8)
       case first=>
        rcases F with rfl | F
        ·have T:nL ⟨b,d,h,a⟩ c.length=false:=by rw [W.out];simp
         go_wp2_with fail
         go_meet
         exact⟨by rw [T];rfl,rfl⟩
        ·have aC:¬C<0:=by omega
         have T:nL ⟨b,d,h,a⟩ c.length=(xb && yb && zb):=by rw [W.out];simp [aC]
         cases xb<;>cases yb<;>cases zb
         all_goals
          go_wp2_with fail
          go_meet
          exact⟨by rw [T];rfl,rfl⟩
       case rest=>
       obtain⟨rfl,L⟩:=hcut;have Q:=L.symm;subst Q;clear W F;have ac:=ij (au.out (nL ⟨b,d,h,a⟩ c.length) rfl);clear au;generalize nL ⟨b,d,h,a⟩ c.length=rb at*;cases rb
       ·have o:Hid (jh p=1):=by
         refine I.out (H.out _ ?_);refine(P.out _ rfl).1 ?_;rw [ac.out.1 rfl];simp
        go_wp2_with fail
        go_ret;exact⟨by rw [o.out];rfl,il v.out ad.out⟩
       ·have aG:=ij (ac.out.2 rfl);go_wp2_with fail
        go_roundw
        case rel=>exact⟨k+1,by omega,by go_num,ad,aG⟩
        case measure=>simp [intOf];omega
      ·have s1:(c.length:Int)<=(k:Int):=by omega
       have aK:Hid ((p.take (t+1)).all (fun c=>decide (c.length<=16) && c.all fun i=>nL i c.length)=true):=by
        refine(P.out _ rfl).2 ?_;have:=ab.out;rw [List.take_of_length_le (by omega)]at this;rw [this];simp [aw]
       go_wp2_with fail
       go_roundw
       case rel=>exact⟨t+1,by omega,by go_num,f,aK⟩
       case measure=>simp [intOf];omega
    ·have t3:(16:Int)<c.length:=by omega
     have o:Hid (jh p=1):=by
      refine I.out (H.out _ ?_);refine(P.out _ rfl).1 ?_;simp [aw]
     go_wp2_with fail
     go_ret;exact⟨by rw [o.out];rfl,il v.out f.out⟩
   ·have t1:(p.length:Int)<=(t:Int):=by omega
    have o:Hid (jh p=0):=by
     refine aM.out (H.out _ ?_);have:=HA.out;rw [List.take_of_length_le (by omega)]at this;exact this
    go_wp2_with fail
    go_ret;exact⟨by rw [o.out];rfl,il v.out f.out⟩
 ·have o:Hid (jh p=1):=I.out (by
   unfold xW;by_cases h1:1<=p.length
   ·have h4:¬p.length<=4:=by omega
    simp [h4]
   ·simp [h1])
  by_cases h1:p.length<1
  ·have g1:(p.length:Int)<1:=by omega
   go_enter Tryz.func24,Tryz.ntmps24
   go_wp2_with fail
   go_ret;exact⟨by rw [o.out];rfl,iq (ir _ _)⟩
  ·have g1:(1:Int)<=p.length:=by omega
   have g4:(4:Int)<p.length:=by omega
   go_enter Tryz.func24,Tryz.ntmps24
   go_wp2_with fail
   go_ret;exact⟨by rw [o.out];rfl,iq (ir _ _)⟩
theorem vn(b a n f d g o t len c:Nat)(h:Option Addr)(x:Int)(w:World)(ht:t<n)(ht4:t<4)(hlen:len<=16)
  (hp:w.cell? ⟨b,0,none⟩=some (.slice (some ⟨g,o,none⟩) n f)) (ha:w.cell? ⟨b,1,none⟩=some (.slice (some ⟨a,0,none⟩) n d))
  (hr:w.cell? ⟨g,o+t,none⟩=some (.slice h len c)) (hx:w.cell? ⟨a,t,none⟩=some (.int .i64 x)):
  Calls Tryz.prog 38 #[.pointer (some ⟨b,0,none⟩),.int .i64 t] w fun e w'=>e= .returned (.bool (decide ((len:Int)<=x)))/\jt w' w:=by
 have h1:(0:Int)<=(t:Int):=by omega
 have h2:(t:Int)<4:=by omega
 have h3:(t:Int)<n:=by omega
 have h4:(len:Int)<=16:=by omega
 go_enter Tryz.func38,Tryz.ntmps38
 go_wp2
 go_region
 all_goals (go_wp2;go_ret;exact⟨rfl,rfl,rfl,rfl,rfl⟩)
theorem ww(b a n f d g o t len c:Nat)(h:Option Addr)(x:Int)(w:World)(p:t<n)(q:t<4)(s:len<=16)(m:(len:Int)<=x)
  (k:w.cell? ⟨b,0,none⟩=some (.slice (some ⟨g,o,none⟩) n f)) (i:w.cell? ⟨b,1,none⟩=some (.slice (some ⟨a,0,none⟩) n d))
  (l:w.cell? ⟨g,o+t,none⟩=some (.slice h len c)) (j:w.cell? ⟨a,t,none⟩=some (.int .i64 x)):
  Calls Tryz.prog 36 #[.pointer (some ⟨b,0,none⟩),.int .i64 t] w fun e w'=>e= .returned (.bool false)/\w.grownBy w' none:=by
 go_enter Tryz.func36,Tryz.ntmps36
 go_wp2_with fail
 refine(vn b a n f d g o t len c h x w p q s k i l j).mono ?_;rintro e w' ⟨rfl,r⟩;simp only [m,decide_true];go_wp2
 go_ret;exact⟨rfl,jg (ir _ _) r⟩
theorem Dk(b v n G A g o t len c h m k:Nat)(i:Ins)(u:Int)(w:World)(O:t<n)(P:t<4)(M:len<=16)(hk:k<len)
  (ha0:0<=i.a) (z:i.op=9->i.a<3)
  (q:w.cell? ⟨b,0,none⟩=some (.slice (some ⟨g,o,none⟩) n G)) (y:w.cell? ⟨b,1,none⟩=some (.slice (some ⟨v,0,none⟩) n A))
  (s:w.cell? ⟨g,o+t,none⟩=some (.slice (some ⟨h,m,none⟩) len c)) (p:w.cell? ⟨v,t,none⟩=some (.int .i64 k))
  (x:w.cell? ⟨h,m+k*4,none⟩=some (.int .i64 i.op)) (I:w.cell? ⟨h,m+k*4+1,none⟩=some (.int .i64 i.a))
  (J:w.cell? ⟨h,m+k*4+2,none⟩=some (.int .i64 i.b)) (D:w.cell? ⟨h,m+k*4+3,none⟩=some (.int .i64 i.n))
  (_hb:b<w.heap.size) (j:i.op=9->w.cell? ⟨b,7+i.a.toNat,none⟩=some (.int .i64 u)):
  Calls Tryz.prog 36 #[.pointer (some ⟨b,0,none⟩),.int .i64 t] w fun e w'=>e= .returned (.bool (!(i.op==9) || decide (u<0)))/\w.grownBy w' none:=by
 obtain⟨op,a,ib,im⟩:=i;simp only at*;have h1:(0:Int)<=(t:Int):=by omega
 have h2:(t:Int)<4:=by omega
 have h3:(t:Int)<n:=by omega
 have h4:(0:Int)<=(k:Int):=by omega
 have h5:(k:Int)<len:=by omega
 have L:decide ((len:Int)<=(k:Int))=false:=by simp;omega
 go_enter Tryz.func36,Tryz.ntmps36
 go_wp2_with fail
 refine(vn b v n G A g o t len c _ k w O P M q y s p).mono ?_;rintro e f ⟨rfl,K⟩;have d:w.grownBy f none:=jg (ir _ _) K;have E:=ij d;simp only [L];replace q:=ip d _ _ q;replace y:=ip d _ _ y;replace s:=ip d _ _ s;replace p:=ip d _ _ p;replace x:=ip d _ _ x;replace I:=ip d _ _ I;replace J:=ip d _ _ J;replace D:=ip d _ _ D;replace j:Hid (op=9->f.cell? ⟨b,7+a.toNat,none⟩=some (.int .i64 u)):=fun e=>ip d _ _ (j e)
 clear d K;have C:=World.new_ne f _ q;have F:=World.new_ne f _ s;have B:=World.new_ne f _ p;have H:=World.new_ne f _ x;simp only at C F B H;have m1:=Ne.symm C;have m2:=Ne.symm F;have m3:=Ne.symm B;have m4:=Ne.symm H;by_cases r:op=9
 ·subst r;have j:=j.out rfl;have ha3:=z rfl;obtain⟨l,rfl⟩:∃ l:Nat,a=l:=⟨a.toNat,by omega⟩;simp only [Int.toNat_natCast]at j;have h6:(l:Int)<3:=by omega
  clear z;go_wp2
  go_region
  go_wp2
  go_quiet (fail)
  go_wp2
  go_ret;exact⟨by simp,iX _ (iy (iq E.out))⟩
 ·have h9':(op !=9)=true:=by simpa using r
  have N:(op==9)=false:=by simpa using r
  clear z r;go_wp2
  go_region
  go_wp2
  go_quiet (fail)
  go_wp2
  go_ret;exact⟨by simp [N],iX _ (iy (iq E.out))⟩
def jn(op a b:Int):Int × Bool:=
 if op=4 then (wrap64 (a+b),true) else if op=5 then (wrap64 (a - b),true) else if op=6 then (wrap64 (a*b),true) else if b=0 then (a,false) else (wrap64 (a.tdiv b),true)
theorem qI(c a b:Int)(w:World)(h:c=4\/c=5\/c=6\/c=7):
  Calls Tryz.prog 62 #[.int .i64 c,.int .i64 a,.int .i64 b] w fun e w'=>e= .returned (.tuple #[.int .i64 (jn c a b).1,.bool (jn c a b).2])/\w'=w:=by
 rcases h with rfl | rfl | rfl | rfl
 ·go_enter Tryz.func62,Tryz.ntmps62
  go_wp2_with fail
  refine bodyPost_ret (v:= .tuple #[.int .i64 (wrap64 (a+b)),.bool true]) (by simp [results,Tryz.results62,go_sem]) rfl ⟨rfl,rfl⟩
 ·go_enter Tryz.func62,Tryz.ntmps62
  go_wp2_with fail
  refine bodyPost_ret (v:= .tuple #[.int .i64 (wrap64 (a - b)),.bool true]) (by simp [results,Tryz.results62,go_sem]) rfl ⟨rfl,rfl⟩
 ·go_enter Tryz.func62,Tryz.ntmps62
  go_wp2_with fail
  refine bodyPost_ret (v:= .tuple #[.int .i64 (wrap64 (a*b)),.bool true]) (by simp [results,Tryz.results62,go_sem]) rfl ⟨rfl,rfl⟩
 ·have f:Hid (jn 7 a b=if b=0 then (a,false) else (wrap64 (a.tdiv b),true)):=by unfold Hid jn;simp
  by_cases d:b=0
  ·subst d;go_enter Tryz.func62,Tryz.ntmps62
   go_wp2_with fail
   refine bodyPost_ret (v:= .tuple #[.int .i64 a,.bool false]) (by simp [results,Tryz.results62,go_sem]) rfl ⟨by rw [f.out];rfl,rfl⟩
  ·have h0':(b==0)=false:=by simpa using d
   by_cases i:b= -1
   ·subst i;have j:Hid (a.tdiv (-1)= -a):=by unfold Hid;simp
    go_enter Tryz.func62,Tryz.ntmps62
    go_wp2_with fail
    refine bodyPost_ret (v:= .tuple #[.int .i64 (wrap64 (-a)),.bool true]) (by simp [results,Tryz.results62,go_sem]) rfl ⟨by rw [f.out,if_neg d,j.out],rfl⟩
   ·have hm':(b== -1)=false:=by simpa using i
    go_enter Tryz.func62,Tryz.ntmps62
    go_wp2_with fail
    refine bodyPost_ret (v:= .tuple #[.int .i64 (wrap64 (a.tdiv b)),.bool true]) (by simp [results,Tryz.results62,go_sem]) rfl ⟨by rw [f.out,if_neg d],rfl⟩
def sR(s:St)(l:Nat):Int:=if s.held l=true then s.own l else -1
def atF(n:Nat)(s:St):List Value:=(List.range n).map fun t=> .int .i64 (s.next t)
def wO(ps:Value)(ab rb n:Nat)(st:Value)(s:St)(k th a:Int):Array Value:=
 #[ps,.slice (some ⟨ab,0,none⟩) n n,.slice (some ⟨rb,0,none⟩) n n,.int .i64 (s.vars 0),.int .i64 (s.vars 1),.int .i64 (s.vars 2),.int .i64 (s.vars 3),
  .int .i64 (sR s 0),.int .i64 (sR s 1),.int .i64 (sR s 2),st,.int .i64 k,.int .i64 th,.int .i64 a]
structure RunAt(w0 w:World)(b ab rb n:Nat)(ps st:Value)(s:St)(acc:List (Int × Int))(k th a:Int):Prop where
 main:w.heap[b]?=some (.cells (wO ps ab rb n st s k th a) 51 (0,0))
 ats:∃ ty,w.heap[ab]?=some (.cells (atF n s).toArray ty (0,0))
 regs:w.heap[rb]?=some (.cells (jp n s).toArray 28 (0,0))
 row:w.ownsRow (b+1) 76 2 st acc.length (iR acc)
 frame:w0.grownBy w none
 ab0:w0.heap.size<=ab
 rb0:w0.heap.size<=rb
 abb:ab<b
 rbb:rb<b
 ne:ab≠rb
theorem Cm{n t:Nat}(hn:n<=4)(h:t<n):(n=1/\t=0)\/(n=2/\t=0)\/(n=2/\t=1)\/(n=3/\t=0)\/(n=3/\t=1)\/(n=3/\t=2)\/(n=4/\t=0)\/(n=4/\t=1)\/(n=4/\t=2)\/(n=4/\t=3):=by omega
theorem Es(s:St){n t:Nat}(a:n<=4)(h:t<n)(v:Int):(atF n s).toArray.setIfInBounds t (.int .i64 v)=(atF n (s.setNext t v)).toArray:=by
 rcases Cm a h with ⟨rfl,rfl⟩ | ⟨rfl,rfl⟩ | ⟨rfl,rfl⟩ | ⟨rfl,rfl⟩ | ⟨rfl,rfl⟩ | ⟨rfl,rfl⟩ | ⟨rfl,rfl⟩ | ⟨rfl,rfl⟩ | ⟨rfl,rfl⟩ | ⟨rfl,rfl⟩<;>rfl
theorem Ax(s:St){n t r:Nat}(b:n<=4)(h:t<n)(a:r<4)(v:Int):(jp n s).toArray.setIfInBounds (t*4+r) (.int .i64 v)=(jp n (s.setReg t r v)).toArray:=by
 rcases Cm b h with ⟨rfl,rfl⟩ | ⟨rfl,rfl⟩ | ⟨rfl,rfl⟩ | ⟨rfl,rfl⟩ | ⟨rfl,rfl⟩ | ⟨rfl,rfl⟩ | ⟨rfl,rfl⟩ | ⟨rfl,rfl⟩ | ⟨rfl,rfl⟩ | ⟨rfl,rfl⟩<;>rcases lt4 a with rfl | rfl | rfl | rfl<;>rfl
theorem RunAt.cell{l w:World}{b d f n:Nat}{i c:Value}{s:St}{m:List (Int × Int)}{k e a:Int}(h:RunAt l w b d f n i c s m k e a)(j:Nat):
  w.cell? ⟨b,j,none⟩=(wO i d f n c s k e a)[j]?/\w.frozen? ⟨b,j,none⟩=false:=by
 simp [World.cell?,World.frozen?,h.main]
theorem RunAt.at_{m w:World}{b c i n:Nat}{l e:Value}{s:St}{j:List (Int × Int)}{k f a:Int}(h:RunAt m w b c i n l e s j k f a){t:Nat}(d:t<n):
  w.cell? ⟨c,t,none⟩=some (.int .i64 (s.next t))/\w.frozen? ⟨c,t,none⟩=false:=by
 obtain⟨ty,h⟩:=h.ats;constructor
 ·simp [World.cell?,h,atF,d]
 ·simp [World.frozen?,h]
theorem RunAt.reg{p w:World}{b f c n:Nat}{o e:Value}{s:St}{m:List (Int × Int)}{k j a:Int}(h:RunAt p w b f c n o e s m k j a)(l:n<=4){t r:Nat}(d:t<n)(i:r<4):
  w.cell? ⟨c,t*4+r,none⟩=some (.int .i64 (s.regs t r))/\w.frozen? ⟨c,t*4+r,none⟩=false:=by
 have h:=h.regs;constructor
 ·simp only [World.cell?,h];rcases Cm l d with ⟨rfl,rfl⟩ | ⟨rfl,rfl⟩ | ⟨rfl,rfl⟩ | ⟨rfl,rfl⟩ | ⟨rfl,rfl⟩ | ⟨rfl,rfl⟩ | ⟨rfl,rfl⟩ | ⟨rfl,rfl⟩ | ⟨rfl,rfl⟩ | ⟨rfl,rfl⟩<;>rcases lt4 i with rfl | rfl | rfl | rfl<;>rfl
 ·simp [World.frozen?,h]
theorem RunAt.grown{p w w':World}{b f q n:Nat}{m d:Value}{s:St}{l:List (Int × Int)}{k j a:Int}(h:RunAt p w b f q n m d s l k j a)(c:w.grownBy w' none):RunAt p w' b f q n m d s l k j a:=by
 obtain⟨u,r⟩:=h.ats;have t:=h.regs;have B:∀ i o,w.heap[i]?=some o->w'.heap[i]?=some o:=fun i o e=>by rw [c.block i (Array.getElem?_eq_some_iff.1 e).1 (by simp)];exact e
 exact⟨B _ _ h.main,⟨u,B _ _ r⟩,B _ _ t,iD h.row c (fun _ e=>by cases e),il h.frame c,h.ab0,h.rb0,h.abb,h.rbb,h.ne⟩
theorem RunAt.setNext{m w:World}{b c d n:Nat}{l f:Value}{s:St}{j:List (Int × Int)}{k i a:Int}(h:RunAt m w b c d n l f s j k i a)(u:n<=4){t:Nat}(q:t<n)(v:Int):
  RunAt m (w.setCell ⟨c,t,none⟩ (.int .i64 v)) b c d n l f (s.setNext t v) j k i a:=by
 obtain⟨r,o⟩:=h.ats;have p:=h.regs;have:=h.abb;refine⟨?_,⟨r,?_⟩,?_,ownsRow_setCell_below h.row (by simp;omega) _,iF h.frame h.ab0,h.ab0,h.rb0,h.abb,h.rbb,h.ne⟩
 ·rw [Below.heap_setCell w _ _ b (by simp;omega)];exact h.main
 ·rw [heap_setCell_same w c t _ _ _ o,Es s u q]
 ·rw [Below.heap_setCell w _ _ d (by simp;exact fun e=>h.ne e.symm)];exact p
theorem RunAt.setReg{l w:World}{b d c n:Nat}{j e:Value}{s:St}{i:List (Int × Int)}{k f a:Int}(h:RunAt l w b d c n j e s i k f a)(x:n<=4){t r:Nat}(p:t<n)(u:r<4)(v:Int):
  RunAt l (w.setCell ⟨c,t*4+r,none⟩ (.int .i64 v)) b d c n j e (s.setReg t r v) i k f a:=by
 obtain⟨q,m⟩:=h.ats;have o:=h.regs;have:=h.rbb;refine⟨?_,⟨q,?_⟩,?_,ownsRow_setCell_below h.row (by simp;omega) _,iF h.frame h.rb0,h.ab0,h.rb0,h.abb,h.rbb,h.ne⟩
 ·rw [Below.heap_setCell w _ _ b (by simp;omega)];exact h.main
 ·rw [Below.heap_setCell w _ _ d (by simp;exact h.ne)];exact m
 ·rw [heap_setCell_same w c _ _ _ _ o,Ax s x p u]
theorem RunAt.setMain{u w:World}{b c d n:Nat}{i r m:Value}{s f:St}{D l:List (Int × Int)}{k t a p o q:Int}(h:RunAt u w b c d n i r s D k t a){j:Nat}{v:Value}
  (e:(wO i c d n r s k t a).setIfInBounds j v=wO i c d n m f p o q) (z:f.next=s.next) (B:f.regs=s.regs) (C:w.ownsRow (b+1) 76 2 m l.length (iR l)):
  RunAt u (w.setCell ⟨b,j,none⟩ v) b c d n i m f l p o q:=by
 obtain⟨E,x⟩:=h.ats;have y:=h.regs;have:=h.abb;have:=h.rbb;refine⟨?_,⟨E,?_⟩,?_,ownsRow_setCell_below C (by simp) _,iF h.frame (by have:=h.ab0;omega),h.ab0,h.rb0,h.abb,h.rbb,h.ne⟩
 ·rw [heap_setCell_same w b j _ _ _ h.main,e]
 ·rw [Below.heap_setCell w _ _ c (by simp;omega),x];simp [atF,z]
 ·rw [Below.heap_setCell w _ _ d (by simp;omega),y];simp [jp,B]
theorem RunAt.setVar{l w:World}{b d f n:Nat}{j c:Value}{s:St}{i:List (Int × Int)}{k e a:Int}(h:RunAt l w b d f n j c s i k e a){x:Nat}(m:x<4)(v:Int):
  RunAt l (w.setCell ⟨b,3+x,none⟩ (.int .i64 v)) b d f n j c (s.setVar x v) i k e a:=by
 refine h.setMain ?_ rfl rfl h.row;rcases lt4 m with rfl | rfl | rfl | rfl<;>rfl
theorem RunAt.setLock{c w:World}{b e i n:Nat}{m d:Value}{s:St}{j:List (Int × Int)}{k f a:Int}(h:RunAt c w b e i n m d s j k f a){l:Nat}(q:l<3)(p:Bool)(o:Int):
  RunAt c (w.setCell ⟨b,7+l,none⟩ (.int .i64 (if p=true then o else -1))) b e i n m d (s.setLock l p o) j k f a:=by
 refine h.setMain ?_ rfl rfl h.row;rcases lt3 q with rfl | rfl | rfl<;>rfl
theorem RunAt.like{w0 w w':World}{b ab rb n:Nat}{ps st:Value}{s:St}{acc:List (Int × Int)}{k th a:Int}(h:RunAt w0 w b ab rb n ps st s acc k th a)(hl:jt w' w):RunAt w0 w' b ab rb n ps st s acc k th a:=h.grown (jg (ir _ _) hl)
theorem RunAt.own{o w:World}{b d i n:Nat}{m c:Value}{s:St}{j:List (Int × Int)}{k e a:Int}(h:RunAt o w b d i n m c s j k e a){l:Nat}(f:l<3):w.cell? ⟨b,7+l,none⟩=some (.int .i64 (sR s l)):=by
 rw [(h.cell _).1];rcases lt3 f with rfl | rfl | rfl<;>rfl
theorem RunAt.var{o w:World}{b d i n:Nat}{m c:Value}{s:St}{j:List (Int × Int)}{k e a:Int}(h:RunAt o w b d i n m c s j k e a){l:Nat}(f:l<4):w.cell? ⟨b,3+l,none⟩=some (.int .i64 (s.vars l)):=by
 rw [(h.cell _).1];rcases lt4 f with rfl | rfl | rfl | rfl<;>rfl
theorem vR(s:St)(t r:Nat):s.setReg t r (s.regs t r)=s:=by
 obtain⟨a,b,c,d,e⟩:=s;simp only [St.setReg,St.mk.injEq,true_and,and_true];funext t' r'
 by_cases h:t'=t/\r'=r
 ·simp [h.1,h.2]
 ·simp [h]
theorem uI{w:World}{base:Nat}{e:TypeId}{a:Nat}{v:Value}{n:Nat}{xs:List Value}(h:w.ownsRow base e a v n xs):v.ownBlock≠some w.heap.size:=by
 rcases h.2 with ⟨e1,_⟩ | ⟨g',cap',cur,hv,hb,hh,_⟩
 ·rw [e1];simp [Value.ownBlock]
 ·rw [hv];have:=(Array.getElem?_eq_some_iff.1 hh).1;simp [Value.ownBlock];omega
theorem RunAt.push{t w c:World}{b j l n:Nat}{v p f:Value}{s:St}{d:List (Int × Int)}{k r a:Int}{x:Int × Int}(h:RunAt t w b j l n v p s d k r a)
  (u:w.grownBy c p.ownBlock) (C:c.ownsRow (b+1) 76 2 f (d.length+1) (iR d++[.int .i64 x.1,.int .i64 x.2])):
  RunAt t (c.setCell ⟨b,10,none⟩ f) b j l n v f s (d++[x]) k r a:=by
 obtain⟨A,y⟩:=h.ats;have z:=h.regs;have e1:=h.abb;have e2:=h.rbb;have e3:=h.ab0;have m:=iA h.row;have B:∀ i o,i<=b->w.heap[i]?=some o->c.heap[i]?=some o:=fun i o hi e=>by
  rw [u.block i (Array.getElem?_eq_some_iff.1 e).1 (fun e=>by have:=m _ e.symm;omega)];exact e
 refine⟨?_,⟨A,?_⟩,?_,ownsRow_setCell_below ?_ (by simp) _,iF (jG h.frame u (fun q e=>by have:=m q e;omega)) (by omega),h.ab0,h.rb0,h.abb,h.rbb,h.ne⟩
 ·rw [heap_setCell_same c b 10 _ _ _ (B _ _ (Nat.le_refl _) h.main)];rfl
 ·rw [Below.heap_setCell c _ _ j (by simp;omega)];exact B _ _ (by omega) y
 ·rw [Below.heap_setCell c _ _ l (by simp;omega)];exact B _ _ (by omega) z
 ·rw [nj,List.length_append];exact C
theorem Eu(w0 w:World)(b B rb n al g o t len c h ho p:Nat)(st:Value)(s:St)(F:List (Int × Int))(k th a:Int)(i:Ins)(C:n<=4)(x:t<n)(hlen:len<=16)(hk:p<len)(hacc:F.length<1048576)
  (Z:RunAt w0 w b B rb n (.slice (some ⟨g,o,none⟩) n al) st s F k th a) (ap:s.next t=p)
  (hr:w.cell? ⟨g,o+t,none⟩=some (.slice (some ⟨h,ho,none⟩) len c))
  (y1:w.cell? ⟨h,ho+p*4,none⟩=some (.int .i64 i.op)) (y2:w.cell? ⟨h,ho+p*4+1,none⟩=some (.int .i64 i.a))
  (y3:w.cell? ⟨h,ho+p*4+2,none⟩=some (.int .i64 i.b)) (y4:w.cell? ⟨h,ho+p*4+3,none⟩=some (.int .i64 i.n)) (hv:lG i len=true) (d:St) (aJ:d=s.setNext t (p+1)) (aW:List (Int × Int)) (aX:aW=F++[((t:Int),(p:Int))]):
  Calls Tryz.prog 37 #[.pointer (some ⟨b,0,none⟩),.int .i64 t] w fun e w'=>∃ st',e= .returned (.bool (act t i d).1)/\
   RunAt w0 w' b B rb n (.slice (some ⟨g,o,none⟩) n al) st' (act t i d).2 aW k th a:=by
 have HS:=ij aJ;have aK:=ij aX;clear aJ aX;obtain⟨i0,bh,bd,bl,br⟩:=info_parts ux;have HV:=ij (oV hv);clear hv;obtain⟨op,m,y,A⟩:=i;simp only at*;have h1:(0:Int)<=(t:Int):=by omega
 have h3:(t:Int)<n:=by omega
 have h4:(0:Int)<=(p:Int):=by omega
 have h5:(p:Int)<len:=by omega
 have p0:w.cell? ⟨b,0,none⟩=some (.slice (some ⟨g,o,none⟩) n al):=(Z.cell 0).1;have p1:w.cell? ⟨b,1,none⟩=some (.slice (some ⟨B,0,none⟩) n n):=(Z.cell 1).1;have a1:w.cell? ⟨B,t,none⟩=some (.int .i64 p):=by rw [(Z.at_ x).1,ap]
 have HR:=ij Z;have aq:=ij ap;clear Z ap;have n1:=World.new_ne w _ p0;have n2:=World.new_ne w _ hr;have n3:=World.new_ne w _ a1;have n4:=World.new_ne w _ y1;simp only at n1 n2 n3 n4;have m1:=Ne.symm n1;have m2:=Ne.symm n2;have m3:=Ne.symm n3;have m4:=Ne.symm n4;go_enter Tryz.func37,Tryz.ntmps37
 go_wp2
 go_region
 go_upto_region 2 with fail
 have am:w.grownBy (w.alloc (.cells #[.int .i64 op,.int .i64 m,.int .i64 y,.int .i64 A] 65)).drew none:=iy (iq (ir _ _));have ah:(w.alloc (.cells #[.int .i64 op,.int .i64 m,.int .i64 y,.int .i64 A] 65)).drew.heap[w.heap.size]?=some (.cells #[.int .i64 op,.int .i64 m,.int .i64 y,.int .i64 A] 65 (0,0)):=heap_alloc_new w _;generalize (w.alloc (.cells #[.int .i64 op,.int .i64 m,.int .i64 y,.int .i64 A] 65)).drew=w2 at am ah ⊢;have I:=ij (HR.out.grown am);have hbw:b<w.heap.size:=(Array.getElem?_eq_some_iff.1 HR.out.main).1;have hw2:w.heap.size<w2.heap.size:=(Array.getElem?_eq_some_iff.1 ah).1;have aR:=ij ah;have aO:Hid (st.ownBlock≠some w.heap.size):=uI HR.out.row;clear am ah p0 p1 a1 hr y1 y2 y3 y4 n1 n2 n3 n4 m1 m2 m3 m4 HR;obtain⟨T,O,R,rfl⟩:=iw I.out.row;have q1:w2.cell? ⟨b,10,none⟩=some (.slice T O R):=(I.out.cell 10).1;have q2:w2.cell? ⟨b,1,none⟩=some (.slice (some ⟨B,0,none⟩) n n):=(I.out.cell 1).1;have q3:w2.cell? ⟨B,t,none⟩=some (.int .i64 p):=by rw [(I.out.at_ x).1,aq.out]
 refine iz (fun u=>u.cell? ⟨b,10,none⟩=some (.slice T O R)/\u.cell? ⟨b,1,none⟩=some (.slice (some ⟨B,0,none⟩) n n)/\u.cell? ⟨B,t,none⟩=some (.int .i64 p)) 18 (by kernel_rfl) (by kernel_rfl) ?_ ?_
 ·exact⟨q1,q2,q3⟩
 intro bn;refine gJ 0 ?v0 rfl (by kernel_rfl) (fun _ _ _ h=>h) (by rfl) ?y0 (by assumption) ?_
 case y0=>(intro u l;obtain⟨g1,g2,E⟩:=l;go_simp;try rfl)
 simp only [Act.put,List.setIfInBounds_toArray];refine gJ 1 ?v1 rfl (by kernel_rfl) (fun _ _ _ h=>h) (by rfl) ?y1 (by assumption) ?_
 case y1=>(intro u l;obtain⟨g1,g2,E⟩:=l;go_simp;try rfl)
 simp only [Act.put];refine gJ 2 ?v2 rfl (by kernel_rfl) (fun _ _ _ h=>h) (by rfl) ?y2 (by assumption) ?_
 case y2=>(intro u l;obtain⟨g1,g2,E⟩:=l;go_simp;try rfl)
 simp only [Act.put];refine gJ 3 ?v3 rfl (by kernel_rfl) (fun _ _ _ h=>h) (by rfl) ?y3 (by assumption) ?_
 case y3=>(intro u l;obtain⟨g1,g2,E⟩:=l;go_simp;try rfl)
 simp only [Act.put];refine gJ 4 ?v4 rfl (by kernel_rfl) (fun _ _ _ h=>h) (by rfl) ?y4 (by assumption) ?_
 case y4=>(intro u l;obtain⟨g1,g2,E⟩:=l;go_simp;try rfl)
 simp only [Act.put];refine gJ 5 ?v5 rfl (by kernel_rfl) (fun _ _ _ h=>h) (by rfl) ?y5 (by assumption) ?_
 case y5=>(intro u l;obtain⟨g1,g2,E⟩:=l;go_simp;try rfl)
 simp only [Act.put];refine gJ 6 ?v6 rfl (by kernel_rfl) (fun _ _ _ h=>h) (by rfl) ?y6 (by assumption) ?_
 case y6=>(intro u l;obtain⟨g1,g2,E⟩:=l;go_simp;try rfl)
 simp only [Act.put];refine gJ 7 ?v7 rfl (by kernel_rfl) (fun _ _ _ h=>h) (by rfl) ?y7 (by assumption) ?_
 case y7=>(intro u l;obtain⟨g1,g2,E⟩:=l;go_simp;try rfl)
 simp only [Act.put];refine gJ 8 ?v8 rfl (by kernel_rfl) (fun _ _ _ h=>h) (by rfl) ?y8 (by assumption) ?_
 case y8=>(intro u l;obtain⟨g1,g2,E⟩:=l;go_simp;try rfl)
 simp only [Act.put];refine gJ 9 ?v9 rfl (by kernel_rfl) (fun _ _ _ h=>h) (by rfl) ?y9 (by assumption) ?_
 case y9=>(intro u l;obtain⟨g1,g2,E⟩:=l;go_simp;try rfl)
 simp only [Act.put];refine gJ 10 ?v10 rfl (by kernel_rfl) (fun _ _ _ h=>h) (by rfl) ?y10 (by assumption) ?_
 case y10=>(intro u l;obtain⟨g1,g2,E⟩:=l;go_simp;try rfl)
 simp only [Act.put];refine gJ 11 ?v11 rfl (by kernel_rfl) (fun _ _ _ h=>h) (by rfl) ?y11 (by assumption) ?_
 case y11=>(intro u l;obtain⟨g1,g2,E⟩:=l;go_simp;try rfl)
 simp only [Act.put];refine gJ 12 ?v12 rfl (by kernel_rfl) (fun _ _ _ h=>h) (by rfl) ?y12 (by assumption) ?_
 case y12=>(intro u l;obtain⟨g1,g2,E⟩:=l;go_simp;try rfl)
 simp only [Act.put];refine gJ 13 ?v13 rfl (by kernel_rfl) (fun _ _ _ h=>h) (by rfl) ?y13 (by assumption) ?_
 case y13=>(intro u l;obtain⟨g1,g2,E⟩:=l;go_simp;try rfl)
 simp only [Act.put];refine iu (i:=14) rfl (by kernel_rfl) (by kernel_rfl) (by rfl) ?_;intro K15 aT;have aQ:=ij aT;clear aT;go_simp;have aa:w2.grownBy ((w2.alloc (.cells #[.int .i64 t,.int .i64 p] 76)).drew) none:=iy (iq (ir _ _));have aA:(w2.alloc (.cells #[.int .i64 t,.int .i64 p] 76)).drew.cell? ⟨b,10,none⟩=some (.slice T O R)/\(w2.alloc (.cells #[.int .i64 t,.int .i64 p] 76)).drew.cell? ⟨b,1,none⟩=some (.slice (some ⟨B,0,none⟩) n n)/\(w2.alloc (.cells #[.int .i64 t,.int .i64 p] 76)).drew.cell? ⟨B,t,none⟩=some (.int .i64 p):=
  ⟨ip aa _ _ q1,ip aa _ _ q2,ip aa _ _ q3⟩
 refine aQ.out _ _ aA ?_;clear aQ;have S:=ij aa;clear aa;have a3:F.length+1<=maxLen:=by unfold maxLen;omega
 have aV:(F.length+1)*16<=140737488355328:=by omega
 refine iu (i:=15) rfl (by kernel_rfl) (by kernel_rfl) (by rfl) ?_;intro K16 aN;have aY:=ij aN;clear aN;refine wp_append_lies _ (.tmp 30) (.tmp 40) 27 (by rfl) (b+1) 76 i0 _ 2 16 Tryz.underlying27 bh bd bl br rfl (by omega) (.slice T O R) F.length (iR F) (by rfl) (iD I.out.row S.out (fun _ e=>by cases e)) ⟨w2.heap.size,0,none⟩ 1 1 [.int .i64 t,.int .i64 p] (by rfl) (by rfl) (World.news_of_block (cs:= #[.int .i64 t,.int .i64 p]) (t:=76) (fr:=(0,0)) (heap_alloc_new w2 _)) (by simp [Value.oneCell']) (by omega) a3 aV (by simp;omega) (w2.heap.size+1) (by simp) ?_;intro g2 ae P a2 Q bp hlt5;have ac:∀ q,(Value.slice T O R).ownBlock=some q->b+1<=q:=fun q e=>iA I.out.row q e
 have a4:P.cell? ⟨b,10,none⟩=some (.slice T O R)/\P.cell? ⟨b,1,none⟩=some (.slice (some ⟨B,0,none⟩) n n)/\P.cell? ⟨B,t,none⟩=some (.int .i64 p):=by
  obtain⟨z1,z2,z3⟩:=aA;have:=I.out.abb;refine⟨?_,?_,?_⟩
  ·rw [Q.cell_far _ (World.block_lt_of_cell? _ _ z1) (fun e=>by have:=ac _ e.symm;simp only at this;omega)];exact z1
  ·rw [Q.cell_far _ (World.block_lt_of_cell? _ _ z2) (fun e=>by have:=ac _ e.symm;simp only at this;omega)];exact z2
  ·rw [Q.cell_far _ (World.block_lt_of_cell? _ _ z3) (fun e=>by have:=ac _ e.symm;simp only at this;omega)];exact z3
 have N:Hid (RunAt w0 (P.setCell ⟨b,10,none⟩ (.slice (some ⟨g2,0,none⟩) (F.length+1) ae)) b B rb n (.slice (some ⟨g,o,none⟩) n al) (.slice (some ⟨g2,0,none⟩) (F.length+1) ae) s (F++[((t:Int),(p:Int))]) k th a):=
  RunAt.push I.out (il (lP S.out) Q) a2
 have ar:Hid ((P.setCell ⟨b,10,none⟩ (.slice (some ⟨g2,0,none⟩) (F.length+1) ae)).heap[w.heap.size]?=some (.cells #[.int .i64 op,.int .i64 m,.int .i64 y,.int .i64 A] 65 (0,0))):=by
  unfold Hid;have au:(Value.slice T O R).ownBlock≠some w.heap.size:=aO.out;rw [Below.heap_setCell _ _ _ _ (by simp;omega),Q.block _ (by have:=S.out.size;omega) (fun e=>au e.symm),S.out.block _ (by omega) (by simp)];exact aR.out
 have bf:P.frozen? ⟨b,10,none⟩=false:=by
  have:=I.out.main;have:=Q.block b (by have:=S.out.size;omega) (fun e=>by have:=ac _ e.symm;omega);simp [World.frozen?,this,S.out.block b (by omega) (by simp),I.out.main]
 clear a2 Q bp;refine aY.out _ _ a4 ?_;clear aY;simp only [Act.put,List.setIfInBounds_toArray];refine gJ 16 ?v16 rfl (by kernel_rfl) (fun _ _ _ h=>h) (by rfl) ?y16 (by assumption) ?_
 case y16=>(intro u l;obtain⟨g1,g2,E⟩:=l;go_simp;try rfl)
 simp only [Act.put];refine gJ 17 ?v17 rfl (by kernel_rfl) (fun _ _ _ h=>h) (by rfl) ?y17 (by assumption) ?_
 case y17=>(intro u l;obtain⟨g1,g2,E⟩:=l;go_simp;try rfl)
 simp only [Act.put];refine iH rfl (by kernel_rfl) (by kernel_rfl) (by rfl) ?_;obtain⟨z1,z2,z3⟩:=a4;clear bn aA q1 q2 q3 I aR S ac;go_simp;clear z1 z2 z3 bf;generalize P.setCell ⟨b,10,none⟩ (.slice (some ⟨g2,0,none⟩) (F.length+1) ae)=w6 at N ar ⊢;have b1:w6.cell? ⟨b,1,none⟩=some (.slice (some ⟨B,0,none⟩) n n):=(N.out.cell 1).1;have b2:w6.cell? ⟨b,2,none⟩=some (.slice (some ⟨rb,0,none⟩) n n):=(N.out.cell 2).1;have a6:w6.cell? ⟨B,t,none⟩=some (.int .i64 p):=by rw [(N.out.at_ x).1,aq.out]
 have bj:=(N.out.at_ x).2;have e1:B≠b:=by have:=N.out.abb;omega
 have e2:b≠B:=Ne.symm e1;have a8:(p:Int)<16:=by omega
 go_upto_region 5 with fail
 have ax:=N.out.setNext C x ((p:Int)+1);rw [<-HS.out,<-aK.out]at ax;have j:=ij ax;clear ax;have au:w.heap.size≠B:=by have:=N.out.abb;omega
 have af:Hid ((w6.setCell ⟨B,t,none⟩ (.int .i64 ((p:Int)+1))).heap[w.heap.size]?=some (.cells #[.int .i64 op,.int .i64 m,.int .i64 y,.int .i64 A] 65 (0,0))):=by
  unfold Hid;rw [Below.heap_setCell _ _ _ _ (by simp;exact au)];exact ar.out
 generalize w6.setCell ⟨B,t,none⟩ (.int .i64 ((p:Int)+1))=w7 at j af ⊢;generalize Value.slice (some ⟨g2,0,none⟩) (F.length+1) ae=st7 at*;clear HS aK N ar b1 b2 a6 bj h4 h5 a8 aq aO a3 aV;have x0:w7.cell? ⟨w.heap.size,0,none⟩=some (.int .i64 op):=by have:=af.out;simp [World.cell?,this]
 have x1:w7.cell? ⟨w.heap.size,1,none⟩=some (.int .i64 m):=by have:=af.out;simp [World.cell?,this]
 have x2:w7.cell? ⟨w.heap.size,2,none⟩=some (.int .i64 y):=by have:=af.out;simp [World.cell?,this]
 have x3:w7.cell? ⟨w.heap.size,3,none⟩=some (.int .i64 A):=by have:=af.out;simp [World.cell?,this]
 have a7:=HV.out;clear HV;rcases a7 with H | H | H | H | H | H | H | H | H | H | H
 ·obtain⟨rfl,M,L⟩:=H;obtain⟨r,rfl⟩:∃ r:Nat,m=r:=⟨m.toNat,by omega⟩;have z:r<4:=by omega
  obtain⟨c1,K⟩:=j.out.reg C x z;have f:Hid (act t ⟨1,r,y,A⟩ d=(true,d.setReg t r A)):=by simp [Hid,act]
  go_wp2
  go_region
  go_wp2
  go_ret;exact⟨st7,by rw [f.out];rfl,by rw [f.out];exact(j.out.setReg C x z A).like ⟨rfl,rfl,rfl,rfl⟩⟩
 ·obtain⟨rfl,M,L,V,W⟩:=H;obtain⟨r,rfl⟩:∃ r:Nat,m=r:=⟨m.toNat,by omega⟩;obtain⟨v,rfl⟩:∃ v:Nat,y=v:=⟨y.toNat,by omega⟩;have z:r<4:=by omega
  have J:v<4:=by omega
  obtain⟨c1,K⟩:=j.out.reg C x z;have U:=j.out.var J;have f:Hid (act t ⟨2,r,v,A⟩ d=(true,d.setReg t r (d.vars v))):=by simp [Hid,act]
  go_wp2
  go_region
  go_wp2
  go_ret;exact⟨st7,by rw [f.out];rfl,by rw [f.out];exact(j.out.setReg C x z _).like ⟨rfl,rfl,rfl,rfl⟩⟩
 ·obtain⟨rfl,M,L,V,W⟩:=H;obtain⟨r,rfl⟩:∃ r:Nat,m=r:=⟨m.toNat,by omega⟩;obtain⟨v,rfl⟩:∃ v:Nat,y=v:=⟨y.toNat,by omega⟩;have z:r<4:=by omega
  have J:v<4:=by omega
  obtain⟨c1,K⟩:=j.out.reg C x J;have U:=j.out.var z;have X:=(j.out.cell (3+r)).2;have f:Hid (act t ⟨3,r,v,A⟩ d=(true,d.setVar r (d.regs t v))):=by simp [Hid,act]
  go_wp2
  go_region
  go_wp2
  go_ret;exact⟨st7,by rw [f.out];rfl,by rw [f.out];exact(j.out.setVar z _).like ⟨rfl,rfl,rfl,rfl⟩⟩
 ·obtain⟨rfl,M,L,V,W⟩:=H;obtain⟨r,rfl⟩:∃ r:Nat,m=r:=⟨m.toNat,by omega⟩;obtain⟨v,rfl⟩:∃ v:Nat,y=v:=⟨y.toNat,by omega⟩;have z:r<4:=by omega
  have J:v<4:=by omega
  obtain⟨c1,K⟩:=j.out.reg C x z;obtain⟨U,X⟩:=j.out.reg C x J;have f:Hid (act t ⟨4,r,v,A⟩ d=((jn 4 (d.regs t r) (d.regs t v)).2,d.setReg t r (jn 4 (d.regs t r) (d.regs t v)).1)):=by
   simp [Hid,act,jn]
  have G:Hid (∀ u,Calls Tryz.prog 62 #[.int .i64 4,.int .i64 (d.regs t r),.int .i64 (d.regs t v)] u fun e w'=>e= .returned (.tuple #[.int .i64 (jn 4 (d.regs t r) (d.regs t v)).1,.bool (jn 4 (d.regs t r) (d.regs t v)).2])/\w'=u):=fun u=>qI 4 _ _ u (by omega)
  generalize jn 4 (d.regs t r) (d.regs t v)=rk at*;obtain⟨aG,az⟩:=rk;simp only at f G;go_wp2_with fail
  go_quiet ((go_at_call 62;exact Calls.quiet_of_same (G.out _)))
  go_wp2
  go_region
  go_wp2
  go_ret;exact⟨st7,by rw [f.out];rfl,by rw [f.out];exact(j.out.setReg C x z _).like ⟨rfl,rfl,rfl,rfl⟩⟩
 ·obtain⟨rfl,M,L,V,W⟩:=H;obtain⟨r,rfl⟩:∃ r:Nat,m=r:=⟨m.toNat,by omega⟩;obtain⟨v,rfl⟩:∃ v:Nat,y=v:=⟨y.toNat,by omega⟩;have z:r<4:=by omega
  have J:v<4:=by omega
  obtain⟨c1,K⟩:=j.out.reg C x z;obtain⟨U,X⟩:=j.out.reg C x J;have f:Hid (act t ⟨5,r,v,A⟩ d=((jn 5 (d.regs t r) (d.regs t v)).2,d.setReg t r (jn 5 (d.regs t r) (d.regs t v)).1)):=by
   simp [Hid,act,jn]
  have G:Hid (∀ u,Calls Tryz.prog 62 #[.int .i64 5,.int .i64 (d.regs t r),.int .i64 (d.regs t v)] u fun e w'=>e= .returned (.tuple #[.int .i64 (jn 5 (d.regs t r) (d.regs t v)).1,.bool (jn 5 (d.regs t r) (d.regs t v)).2])/\w'=u):=fun u=>qI 5 _ _ u (by omega)
  generalize jn 5 (d.regs t r) (d.regs t v)=rk at*;obtain⟨aG,az⟩:=rk;simp only at f G;go_wp2_with fail
  go_quiet ((go_at_call 62;exact Calls.quiet_of_same (G.out _)))
  go_wp2
  go_region
  go_wp2
  go_ret;exact⟨st7,by rw [f.out];rfl,by rw [f.out];exact(j.out.setReg C x z _).like ⟨rfl,rfl,rfl,rfl⟩⟩
 ·obtain⟨rfl,M,L,V,W⟩:=H;obtain⟨r,rfl⟩:∃ r:Nat,m=r:=⟨m.toNat,by omega⟩;obtain⟨v,rfl⟩:∃ v:Nat,y=v:=⟨y.toNat,by omega⟩;have z:r<4:=by omega
  have J:v<4:=by omega
  obtain⟨c1,K⟩:=j.out.reg C x z;obtain⟨U,X⟩:=j.out.reg C x J;have f:Hid (act t ⟨6,r,v,A⟩ d=((jn 6 (d.regs t r) (d.regs t v)).2,d.setReg t r (jn 6 (d.regs t r) (d.regs t v)).1)):=by
   simp [Hid,act,jn]
  have G:Hid (∀ u,Calls Tryz.prog 62 #[.int .i64 6,.int .i64 (d.regs t r),.int .i64 (d.regs t v)] u fun e w'=>e= .returned (.tuple #[.int .i64 (jn 6 (d.regs t r) (d.regs t v)).1,.bool (jn 6 (d.regs t r) (d.regs t v)).2])/\w'=u):=fun u=>qI 6 _ _ u (by omega)
  generalize jn 6 (d.regs t r) (d.regs t v)=rk at*;obtain⟨aG,az⟩:=rk;simp only at f G;go_wp2_with fail
  go_quiet ((go_at_call 62;exact Calls.quiet_of_same (G.out _)))
  go_wp2
  go_region
  go_wp2
  go_ret;exact⟨st7,by rw [f.out];rfl,by rw [f.out];exact(j.out.setReg C x z _).like ⟨rfl,rfl,rfl,rfl⟩⟩
 ·obtain⟨rfl,M,L,V,W⟩:=H;obtain⟨r,rfl⟩:∃ r:Nat,m=r:=⟨m.toNat,by omega⟩;obtain⟨v,rfl⟩:∃ v:Nat,y=v:=⟨y.toNat,by omega⟩;have z:r<4:=by omega
  have J:v<4:=by omega
  obtain⟨c1,K⟩:=j.out.reg C x z;obtain⟨U,X⟩:=j.out.reg C x J;have f:Hid (act t ⟨7,r,v,A⟩ d=((jn 7 (d.regs t r) (d.regs t v)).2,d.setReg t r (jn 7 (d.regs t r) (d.regs t v)).1)):=by
   unfold Hid;by_cases D:d.regs t v=0
   ·simp [act,jn,D,vR]
   ·simp [act,jn,D]
  have G:Hid (∀ u,Calls Tryz.prog 62 #[.int .i64 7,.int .i64 (d.regs t r),.int .i64 (d.regs t v)] u fun e w'=>e= .returned (.tuple #[.int .i64 (jn 7 (d.regs t r) (d.regs t v)).1,.bool (jn 7 (d.regs t r) (d.regs t v)).2])/\w'=u):=fun u=>qI 7 _ _ u (by omega)
  generalize jn 7 (d.regs t r) (d.regs t v)=rk at*;obtain⟨aG,az⟩:=rk;simp only at f G;go_wp2_with fail
  go_quiet ((go_at_call 62;exact Calls.quiet_of_same (G.out _)))
  go_wp2
  go_region
  go_wp2
  go_ret;exact⟨st7,by rw [f.out];rfl,by rw [f.out];exact(j.out.setReg C x z _).like ⟨rfl,rfl,rfl,rfl⟩⟩
 ·obtain⟨rfl,M,L,V,W⟩:=H;obtain⟨r,rfl⟩:∃ r:Nat,m=r:=⟨m.toNat,by omega⟩;have z:r<4:=by omega
  obtain⟨c1,K⟩:=j.out.reg C x z;have b1:w7.cell? ⟨b,1,none⟩=some (.slice (some ⟨B,0,none⟩) n n):=(j.out.cell 1).1;obtain⟨U,X⟩:=j.out.at_ x;by_cases D:d.regs t r=0
  ·have f:Hid (act t ⟨8,r,y,A⟩ d=(true,d.setNext t A)):=by simp [Hid,act,D]
   rw [D]at c1;clear D;go_wp2
   go_quiet (fail)
   go_wp2
   go_region
   go_wp2
   go_ret;exact⟨st7,by rw [f.out];rfl,by rw [f.out];exact(j.out.setNext C x _).like ⟨rfl,rfl,rfl,rfl⟩⟩
  ·have f:Hid (act t ⟨8,r,y,A⟩ d=(true,d)):=by simp [Hid,act,D]
   have bq:(d.regs t r==0)=false:=by simpa using D
   go_wp2
   go_quiet (fail)
   go_wp2
   go_ret;exact⟨st7,by rw [f.out];rfl,by rw [f.out];exact j.out.like ⟨rfl,rfl,rfl,rfl⟩⟩
 ·obtain⟨rfl,M,L⟩:=H;obtain⟨r,rfl⟩:∃ r:Nat,m=r:=⟨m.toNat,by omega⟩;have Y:r<3:=by omega
  have c1:=j.out.own Y;have K:=(j.out.cell (7+r)).2;have f:Hid (act t ⟨9,r,y,A⟩ d=(true,d.setLock r true t)):=by simp [Hid,act]
  go_wp2
  go_region
  go_wp2
  go_ret;exact⟨st7,by rw [f.out];rfl,by rw [f.out];exact(j.out.setLock Y true t).like ⟨rfl,rfl,rfl,rfl⟩⟩
 ·obtain⟨rfl,M,L⟩:=H;obtain⟨r,rfl⟩:∃ r:Nat,m=r:=⟨m.toNat,by omega⟩;have Y:r<3:=by omega
  have c1:=j.out.own Y;have K:=(j.out.cell (7+r)).2;by_cases D:d.held r=true/\d.own r=t
  ·have f:Hid (act t ⟨10,r,y,A⟩ d=(true,d.setLock r false 0)):=by simp [Hid,act,D]
   have hq:sR d r=t:=by simp [sR,D.1,D.2]
   rw [hq]at c1;clear D hq;go_wp2
   go_quiet (fail)
   go_wp2
   go_region
   go_wp2
   go_ret;exact⟨st7,by rw [f.out];rfl,by rw [f.out];exact(j.out.setLock Y false 0).like ⟨rfl,rfl,rfl,rfl⟩⟩
  ·have f:Hid (act t ⟨10,r,y,A⟩ d=(false,d)):=by
    unfold Hid;simp only [act];simp [D]
   have bq:(sR d r !=(t:Int))=true:=by
    unfold sR;by_cases hh:d.held r=true
    ·simp only [hh,if_true];have:¬d.own r=t:=fun e=>D ⟨hh,e⟩
     simpa using this
    ·simp only [hh];simp<;>omega
   clear D;go_wp2
   go_quiet (fail)
   go_wp2
   go_ret;exact⟨st7,by rw [f.out];rfl,by rw [f.out];exact j.out.like ⟨rfl,rfl,rfl,rfl⟩⟩
 ·obtain⟨rfl,M,L⟩:=H;obtain⟨r,rfl⟩:∃ r:Nat,m=r:=⟨m.toNat,by omega⟩;have z:r<4:=by omega
  obtain⟨c1,K⟩:=j.out.reg C x z;have f:Hid (act t ⟨11,r,y,A⟩ d=(d.regs t r !=0,d)):=by simp [Hid,act]
  go_wp2
  go_quiet (fail)
  go_wp2
  go_ret;exact⟨st7,by rw [f.out];rfl,by rw [f.out];exact j.out.like ⟨rfl,rfl,rfl,rfl⟩⟩
end
section
open Go.RowKit
def LkOk(s:St):Prop:=∀ l,s.held l=true->0<=s.own l
theorem LkOk.zero:LkOk St.zero:=fun l h=>by simp [St.zero]at h
theorem LkOk.setNext{s:St}(h:LkOk s)(t:Nat)(v:Int):LkOk (s.setNext t v):=h
theorem LkOk.setLock{s:St}(h:LkOk s)(l:Nat)(hd:Bool)(o:Int)(ho:0<=o):LkOk (s.setLock l hd o):=fun l' e=>by
 simp only [St.setLock]at e ⊢;by_cases hl:l'=l
 ·simp [hl,ho]
 ·simp only [hl,if_false]at e ⊢;exact h l' e
theorem LkOk.act{s:St}(h:LkOk s)(t:Nat)(i:Ins):LkOk (act t i s).2:=by
 by_cases c:i.op=9
 ·have e:Go.Proofs.YtklenjmfalljgabGreatDoor.act t i s=(true,s.setLock i.a.toNat true t):=by simp [Go.Proofs.YtklenjmfalljgabGreatDoor.act,c]
  rw [e];exact h.setLock _ _ _ (by omega)
 ·by_cases b:i.op=10
  ·by_cases f:s.held i.a.toNat=true/\s.own i.a.toNat=t
   ·have e:Go.Proofs.YtklenjmfalljgabGreatDoor.act t i s=(true,s.setLock i.a.toNat false 0):=by simp [Go.Proofs.YtklenjmfalljgabGreatDoor.act,b,f]
    rw [e];exact h.setLock _ _ _ (by omega)
   ·have e:Go.Proofs.YtklenjmfalljgabGreatDoor.act t i s=(false,s):=by
     simp only [Go.Proofs.YtklenjmfalljgabGreatDoor.act,b];simp [f]
    rw [e];exact h
  ·have e:(Go.Proofs.YtklenjmfalljgabGreatDoor.act t i s).2.held=s.held/\(Go.Proofs.YtklenjmfalljgabGreatDoor.act t i s).2.own=s.own:=by
    unfold Go.Proofs.YtklenjmfalljgabGreatDoor.act;rw [if_neg c,if_neg b];repeat' split
    all_goals exact⟨rfl,rfl⟩
   intro l d;rw [e.1]at d;rw [e.2];exact h l d
theorem LkOk.step{s:St}(h:LkOk s)(p:List (List Ins))(t:Nat):LkOk (jP p s t).2:=LkOk.act (h.setNext _ _) _ _
theorem LkOk.own{s:St}(h:LkOk s)(l:Nat):decide (sR s l<0)= !s.held l:=by
 unfold sR;cases e:s.held l
 ·simp
 ·have:=h l e;simp;omega
theorem CN{a:World}{c:Option Addr}{i:Nat}{p:List (List Ins)}(k:ProgAt a (.agg #[.slice c p.length i]) p){t:Nat}(b:t<p.length):
  ∃ g o,c=some ⟨g,o,none⟩/\∃ rv,a.cell? ⟨g,o+t,none⟩=some rv/\CodeAt a rv (iO p t):=by
 obtain⟨ao',cap',e,h⟩:=k;simp only [Value.agg.injEq,Array.mk.injEq,List.cons.injEq,Value.slice.injEq,and_true,true_and]at e;obtain⟨rfl,rfl⟩:=e;obtain⟨g,o,d,rv,j,f⟩:=h t b;exact⟨g,o,d,rv,j,by rw [nw b];exact f⟩
theorem FU{j w:World}{h:Option Addr}{f:Nat}{p:List (List Ins)}(i:iU p=true)(z:ProgAt j (.agg #[.slice h p.length f]) p){b l y:Nat}{q:Value}{s:St}{A:List (Int × Int)}{k u a:Int}
  (d:RunAt j w b l y p.length (.slice h p.length f) q s A k u a) (n:Inv p s) {t:Nat} (c:t<p.length):
  Calls Tryz.prog 38 #[.pointer (some ⟨b,0,none⟩),.int .i64 t] w fun e w'=>e= .returned (.bool (jR p s t))/\w.grownBy w' none:=by
 have hn:=jz i;obtain⟨g,o,rfl,rv,m,r,v,rfl,_⟩:=CN z c;refine(vn b l p.length f p.length g o t _ v r (s.next t) w c (by omega) (kX (kd i c)) (d.cell 0).1 (d.cell 1).1 (ip d.frame _ _ m) (d.at_ c).1).mono ?_;rintro e w' ⟨rfl,x⟩;refine⟨?_,jg (ir _ _) x⟩;have:=n t c;congr 2
 unfold jR;rw [Bool.eq_iff_iff];simp;omega
theorem zC{A w:World}{y:Option Addr}{m:Nat}{p:List (List Ins)}(l:iU p=true)(E:ProgAt A (.agg #[.slice y p.length m]) p){b n D:Nat}{B:Value}{s:St}{L:List (Int × Int)}{k K a:Int}
  (d:RunAt A w b n D p.length (.slice y p.length m) B s L k K a) (H:Inv p s) (M:LkOk s) {t:Nat} (f:t<p.length):
  Calls Tryz.prog 36 #[.pointer (some ⟨b,0,none⟩),.int .i64 t] w fun e w'=>e= .returned (.bool (jE p s t))/\w.grownBy w' none:=by
 have hn:=jz l;have hin:=H t f;obtain⟨g,o,rfl,rv,x,J,v,rfl,hc⟩:=CN E f;by_cases z:s.next t=((iO p t).length:Int)
 ·refine(ww b n p.length m p.length g o t _ v J (s.next t) w f (by omega) (kX (kd l f)) (by omega) (d.cell 0).1 (d.cell 1).1 (ip d.frame _ _ x) (d.at_ f).1).mono ?_;rintro e w' ⟨rfl,q⟩;exact⟨by simp [jE,jR,z],q⟩
 ·obtain⟨c,u⟩:∃ c:Nat,s.next t=c:=⟨(s.next t).toNat,by omega⟩;have i:c<(iO p t).length:=by omega
  obtain⟨h,I,rfl,x1,x2,x3,C⟩:=hc c i;have r:=l8 l f (k:=(c:Int)) (by simpa using i);have N:ju p t (s.next t)=(iO p t)[c]:=by rw [u,mz (by simpa using i)];simp
  have G:ju p t (c:Int)=(iO p t)[c]:=by rw [mz (by simpa using i)];simp
  rw [G]at r;have j:=ip d.frame;have say:=oV r;refine(Dk b n p.length m p.length g o t _ v h I c (iO p t)[c] (sR s (iO p t)[c].a.toNat) w f (by omega) (kX (kd l f)) i (by omega) (by omega) (d.cell 0).1 (d.cell 1).1 (j _ _ x) (by rw [(d.at_ f).1,u]) (j _ _ x1) (j _ _ x2) (j _ _ x3) (j _ _ C) (Array.getElem?_eq_some_iff.1 d.main).1 (fun e=>d.own (by omega))).mono ?_;rintro e w' ⟨rfl,q⟩;refine⟨?_,q⟩;have F:jR p s t=false:=by simpa [jR]using z
  rw [M.own,jE,F,N];simp
theorem Fu{m w:World}{v:Option Addr}{i:Nat}{p:List (List Ins)}(n:iU p=true)(G:ProgAt m (.agg #[.slice v p.length i]) p){b r u:Nat}{z:Value}{s:St}{l:List (Int × Int)}{k x a:Int}
  (A:RunAt m w b r u p.length (.slice v p.length i) z s l k x a) (I:Inv p s) {t:Nat} (f:t<p.length) (K:jR p s t=false) (C:l.length<1048576):
  Calls Tryz.prog 37 #[.pointer (some ⟨b,0,none⟩),.int .i64 t] w fun e w'=>∃ st',e= .returned (.bool (jP p s t).1)/\
   RunAt m w' b r u p.length (.slice v p.length i) st' (jP p s t).2 (l++[((t:Int),s.next t)]) k x a:=by
 have hn:=jz n;have hin:=I t f;obtain⟨g,o,rfl,rv,H,ca,F,rfl,hc⟩:=CN G f;have hd':¬s.next t=((iO p t).length:Int):=by simpa [jR]using K
 obtain⟨c,q⟩:∃ c:Nat,s.next t=c:=⟨(s.next t).toNat,by omega⟩;have j:c<(iO p t).length:=by omega
 obtain⟨h,J,rfl,x1,x2,x3,E⟩:=hc c j;have y:=l8 n f (k:=(c:Int)) (by simpa using j);have B:ju p t (c:Int)=(iO p t)[c]:=by rw [mz (by simpa using j)];simp
 rw [B]at y;have d:=ip A.frame;have D:jP p s t=act t (iO p t)[c] (s.setNext t (c+1)):=by unfold jP;rw [q,B]
 rw [D,q];exact Eu m w b r u p.length i g o t _ F h J c z s l k x a (iO p t)[c] (by omega) f (kX (kd n f)) j C A q (d _ _ H) (d _ _ x1) (d _ _ x2) (d _ _ x3) (d _ _ E) y _ rfl _ rfl
end
end Go.Proofs.YtklenjmfalljgabGreatDoor
