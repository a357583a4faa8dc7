/- The texts Rdc Rdd Rde Rdf Rdg Wrt2. -/
import Derived.Test.YtklenjmfalljgabGreatDoorM02
import Derived.Test.YtklenjmfalljgabGreatDoorM17
import Derived.Test.YtklenjmfalljgabGreatDoorM18
import Derived.Deep.DeepMust
import Derived.Deep.RegionHeld3
namespace Go.Proofs.YtklenjmfalljgabGreatDoor
set_option maxRecDepth 100000
set_option maxHeartbeats 8000000
section
open Go.RowKit
attribute [local go_sem] Go.World.cell?_alloc_some
theorem Ft(l:List Nat):∀ (a c x:Nat) (r:List Nat),c<2 ^ a->rdN a c l=some (x,r)->x<18446744073709551616:=by
 induction l with
 | nil=>intro a c x r _ h;cases h
 | cons b l ih=>
  intro a c x r e h;rw [rdN]at h;split at h
  ·rename_i h1
   have d:=sx c b a e h1.2 h1.1;split at h
   ·split at h
    ·simp only [Option.some.injEq,Prod.mk.injEq]at h;rw [<-h.1];exact d.1
    ·cases h
   ·exact ih _ _ _ _ d.2 h
  ·cases h
theorem nA(W w:World)(b k:Nat)(s:ByteArray)(h:RdS W w b s k)(q:s.size<=9223372036854775806):
  Calls Tryz.prog 175 #[pt b] w (Rd W b s (fun _ x v=>v= .int .i64 x) (js ((byt s).drop k))):=by
 have t:=il (xB W w b k s h q);have o:pt b= .pointer (some ⟨b,0,none⟩):=rfl;rw [o]at*;clear h;go_enter Tryz.func175,Tryz.ntmps175
 go_wp2_with fail
 refine t.out.mono ?_;rintro e w1 (⟨a,rfl,p⟩ | ⟨n,r,v,k1,a,rfl,rfl,f,d⟩)
 ·have c:Hid (js ((byt s).drop k)=none):=by unfold Hid js;rw [a]
  clear a;go_wp2_with fail
  exact⟨rfl,Or.inl ⟨c.out,rfl,p⟩⟩
 ·have i:=il f;have l:=il d;by_cases j:n<=9223372036854775807
  ·have c:Hid (js ((byt s).drop k)=some ((n:Int),r)):=by unfold Hid js;rw [a];simp only;rw [if_pos j]
   have q1:(n:Int)<=9223372036854775807:=by omega
   clear a f d;go_wp2_with (go_at_call 141;refine(j4 _).mono ?_;rintro e m ⟨⟨v7,rfl⟩,rfl⟩)
   go_ret;exact Or.inr ⟨(n:Int),r,_,k1,c.out,rfl,rfl,i.out,l.out⟩
  ·have c:Hid (js ((byt s).drop k)=none):=by unfold Hid js;rw [a];simp only;rw [if_neg j]
   have qd:decide ((n:Int)<=9223372036854775807)=false:=by simp;omega
   clear a f d;go_wp2_with (go_at_call 141;refine(jL _).mono ?_;rintro e m ⟨rfl,rfl⟩)
   exact⟨rfl,Or.inl ⟨c.out,rfl,i.out.base⟩⟩
theorem Dn(n:Nat)(hn:n<18446744073709551616)(h:n % 2=1):wrap64 (bits .xor .u64 IntKind.u64.max ((n:Int) / 2))=zag n:=by
 have b:IntKind.u64.max=((18446744073709551615:Nat):Int):=rfl;have e:((n:Int) / 2)=((n / 2:Nat):Int):=by omega
 rw [e,b,u64_xor_nat _ _ (by decide) (by omega)];have:=wR 64 (n / 2) (by omega);have a:(2:Nat) ^ 64 - 1=18446744073709551615:=by decide
 rw [a]at this;rw [this];unfold zag;rw [if_pos h];simp only [wrap64];omega
theorem B3(W w:World)(b k:Nat)(s:ByteArray)(h:RdS W w b s k)(z:s.size<=9223372036854775806):
  Calls Tryz.prog 193 #[pt b] w (Rd W b s (fun _ x v=>v= .int .i64 x) (kT ((byt s).drop k))):=by
 have A:=il (xB W w b k s h z);have q:pt b= .pointer (some ⟨b,0,none⟩):=rfl;rw [q]at*;clear h;go_enter Tryz.func193,Tryz.ntmps193
 go_wp2_with fail
 refine A.out.mono ?_;rintro e w1 (⟨a,rfl,y⟩ | ⟨n,r,v,k1,a,rfl,rfl,o,i⟩)
 ·have c:Hid (kT ((byt s).drop k)=none):=by unfold Hid kT;rw [a]
  clear a;go_wp2_with fail
  exact⟨rfl,Or.inl ⟨c.out,rfl,y⟩⟩
 ·have j:=il o;have f:=il i;have m:=Ft _ 0 0 n r (by simp) a;have c:Hid (kT ((byt s).drop k)=some (zag n,r)):=by unfold Hid kT;rw [a]
  clear a o i;have l:bits .and .u64 (n:Int) 1=((n % 2:Nat):Int):=by
   have:=u64_and_nat n 1 m (by decide);rw [nat_mask1]at this;exact this
  by_cases d:n % 2=1
  ·rw [d]at l;have p:=Dn n m d;go_wp2_with fail
   go_ret;exact Or.inr ⟨zag n,r,_,k1,c.out,rfl,by first | rfl | (rw [<-p];rfl),j.out,f.out⟩
  ·have t:n % 2=0:=by omega
   rw [t]at l;have u:Hid (zag n=((n / 2:Nat):Int)):=by unfold Hid zag;rw [if_neg d]
   go_wp2_with fail
   go_ret;exact Or.inr ⟨zag n,r,_,k1,c.out,rfl,by rw [u.out];rfl,j.out,f.out⟩
theorem uP(W w:World)(b k:Nat)(s:ByteArray)(h:RdS W w b s k)(t:s.size<=9223372036854775806)(m:Int):
  Calls Tryz.prog 172 #[pt b,.int .i64 m] w (Rd W b s (fun _ x v=>v= .int .i64 x) (kO m ((byt s).drop k))):=by
 have u:=il (nA W w b k s h t);have p:pt b= .pointer (some ⟨b,0,none⟩):=rfl;rw [p]at*;clear h;go_enter Tryz.func172,Tryz.ntmps172
 go_wp2_with fail
 refine u.out.mono ?_;rintro e w1 (⟨a,rfl,q⟩ | ⟨n,r,v,k1,a,rfl,rfl,f,d⟩)
 ·have c:Hid (kO m ((byt s).drop k)=none):=by unfold Hid kO;rw [a]
  clear a;go_wp2_with fail
  exact⟨rfl,Or.inl ⟨c.out,rfl,q⟩⟩
 ·have i:=il f;have l:=il d;by_cases j:n<=m
  ·have c:Hid (kO m ((byt s).drop k)=some (n,r)):=by unfold Hid kO;rw [a];simp only;rw [if_pos j]
   clear a f d;go_wp2_with (go_at_call 141;refine(j4 _).mono ?_;rintro e o ⟨⟨v7,rfl⟩,rfl⟩)
   go_ret;exact Or.inr ⟨n,r,_,k1,c.out,rfl,rfl,i.out,l.out⟩
  ·have c:Hid (kO m ((byt s).drop k)=none):=by unfold Hid kO;rw [a];simp only;rw [if_neg j]
   have qd:decide (n<=m)=false:=by simp;omega
   clear a f d;go_wp2_with (go_at_call 141;refine(jL _).mono ?_;rintro e o ⟨rfl,rfl⟩)
   exact⟨rfl,Or.inl ⟨c.out,rfl,i.out.base⟩⟩
structure InS(W w:World)(b:Nat)(s:ByteArray)(k T c d:Nat)(vs us:Array Value):Prop where
 rd:RdS W w b s k
 var:w.heap[c]?=some (.cells vs T (0,0))
 res:w.heap[d]?=some (.cells us T (0,0))
 cb:c≠b
 db:d≠b
 cd:c≠d
 lc:W.heap.size<=c
 ld:W.heap.size<=d
theorem InS.call{W w w':World}{b k k' T c d:Nat}{s:ByteArray}{vs us:Array Value}(h:InS W w b s k T c d vs us)(h':RdS w w' b s k'):InS W w' b s k' T c d vs us:=
 ⟨h.rd.trans h',by rw [h'.base.block c (Array.getElem?_eq_some_iff.1 h.var).1 (by simpa using h.cb)];exact h.var,
  by rw [h'.base.block d (Array.getElem?_eq_some_iff.1 h.res).1 (by simpa using h.db)];exact h.res,h.cb,h.db,h.cd,h.lc,h.ld⟩
theorem InS.cell{W w:World}{b k T c d:Nat}{s:ByteArray}{a e:Array Value}(h:InS W w b s k T c d a e)(o:Nat):w.cell? ⟨c,o,none⟩=a[o]?:=by
 have:=h.var;simp [World.cell?,this]
theorem InS.free{W w:World}{b k T c d:Nat}{s:ByteArray}{e a:Array Value}(h:InS W w b s k T c d e a)(o:Nat):w.frozen? ⟨c,o,none⟩=false:=by
 have:=h.var;simp [World.frozen?,this]
theorem InS.rcell{W w:World}{b k T c d:Nat}{s:ByteArray}{e a:Array Value}(h:InS W w b s k T c d e a)(o:Nat):w.cell? ⟨d,o,none⟩=a[o]?:=by
 have:=h.res;simp [World.cell?,this]
theorem InS.rfree{W w:World}{b k T c d:Nat}{s:ByteArray}{e a:Array Value}(h:InS W w b s k T c d e a)(o:Nat):w.frozen? ⟨d,o,none⟩=false:=by
 have:=h.res;simp [World.frozen?,this]
theorem InS.set{W w:World}{b k T c d:Nat}{s:ByteArray}{e a:Array Value}(h:InS W w b s k T c d e a)(o:Nat)(v:Value):InS W (w.setCell ⟨c,o,none⟩ v) b s k T c d (e.setIfInBounds o v) a:=by
 refine⟨⟨?_,iG h.rd.base h.lc,h.rd.le⟩,?_,?_,h.cb,h.db,h.cd,h.lc,h.ld⟩
 ·rw [heap_setCell_other _ _ _ _ (Ne.symm h.cb)];exact h.rd.blk
 ·rw [heap_setCell_same _ c o _ _ _ h.var]
 ·rw [heap_setCell_other _ _ _ _ (Ne.symm h.cd)];exact h.res
theorem InS.rset{W w:World}{b k T c d:Nat}{s:ByteArray}{e a:Array Value}(h:InS W w b s k T c d e a)(o:Nat)(v:Value):InS W (w.setCell ⟨d,o,none⟩ v) b s k T c d e (a.setIfInBounds o v):=by
 refine⟨⟨?_,iG h.rd.base h.ld,h.rd.le⟩,?_,?_,h.cb,h.db,h.cd,h.lc,h.ld⟩
 ·rw [heap_setCell_other _ _ _ _ (Ne.symm h.db)];exact h.rd.blk
 ·rw [heap_setCell_other _ _ _ _ h.cd];exact h.var
 ·rw [heap_setCell_same _ d o _ _ _ h.res]
theorem InS.start{W w:World}{b k T:Nat}{s:ByteArray}(h:RdS W w b s k)(a c:Array Value):InS W ((w.alloc (.cells a T)).alloc (.cells c T)) b s k T (w.heap.size+1) w.heap.size c a:=by
 have hb:=h.lt;have d:=h.base.size;refine⟨h.grown (ir (ir (iu _ _))),?_,?_,by omega,by omega,by omega,by omega,d⟩
 ·have:=heap_alloc_new (w.alloc (.cells a T)) (.cells c T);simpa using this
 ·rw [Below.heap_alloc _ _ _ (by simp)];exact heap_alloc_new _ _
def Ge(i:Ins):Value:= .agg #[.int .i64 i.op,.int .i64 i.a,.int .i64 i.b,.int .i64 i.n]
theorem F8(W w:World)(b k:Nat)(s:ByteArray)(h:RdS W w b s k)(A:s.size<=9223372036854775806):
  Calls Tryz.prog 186 #[pt b] w (Rd W b s (fun _ x v=>v=Ge x) (lZ ((byt s).drop k))):=by
 have L:=il h;have K:pt b= .pointer (some ⟨b,0,none⟩):=rfl;rw [K]at*;clear h;go_enter Tryz.func186,Tryz.ntmps186
 go_wp2_with fail
 have t:=InS.start (T:=65) L.out #[.int .i64 0,.int .i64 0,.int .i64 0,.int .i64 0] #[.int .i64 0,.int .i64 0,.int .i64 0,.int .i64 0];generalize (w.alloc (.cells #[.int .i64 0,.int .i64 0,.int .i64 0,.int .i64 0] 65)).alloc (.cells #[.int .i64 0,.int .i64 0,.int .i64 0,.int .i64 0] 65)=w1 at t ⊢;refine(nA w1 w1 b k s t.rd.self A).mono ?_;rintro e x1 (⟨d,rfl,l⟩ | ⟨o,y,v,k1,d,rfl,rfl,j,rfl⟩)
 ·have m:Hid (lZ ((byt s).drop k)=none):=by unfold Hid lZ;rw [d]
  have p:=il (ip t.rd.base l);clear d l t;go_wp2_with fail
  exact⟨rfl,Or.inl ⟨m.out,rfl,p.out⟩⟩
 have z:=il d;have I:=t.call j;have f:=il I;have c1:x1.cell? ⟨w.heap.size+1,0,none⟩=some (.int .i64 0):=by simpa using I.cell 0
 have f1:=I.free 0;clear t I j d;go_wp2_with fail
 have q:=f.out.set 0 (.int .i64 o);generalize x1.setCell ⟨w.heap.size+1,0,none⟩ (.int .i64 o)=y1 at q ⊢;clear f c1 f1;refine(nA y1 y1 b k1 s q.rd.self A).mono ?_;rintro e x2 (⟨d,rfl,l⟩ | ⟨a,y,v,k2,d,rfl,rfl,j,rfl⟩)
 ·have m:Hid (lZ ((byt s).drop k)=none):=by unfold Hid lZ;rw [z.out];simp only;rw [d]
  have p:=il (ip q.rd.base l);clear d l q;go_wp2_with fail
  exact⟨rfl,Or.inl ⟨m.out,rfl,p.out⟩⟩
 have B:=il d;have I:=q.call j;have f:=il I;have c1:x2.cell? ⟨w.heap.size+1,1,none⟩=some (.int .i64 0):=by simpa using I.cell 1
 have f1:=I.free 1;clear q I j d;go_wp2_with fail
 have u:=f.out.set 1 (.int .i64 a);generalize x2.setCell ⟨w.heap.size+1,1,none⟩ (.int .i64 a)=y2 at u ⊢;clear f c1 f1;refine(nA y2 y2 b k2 s u.rd.self A).mono ?_;rintro e x3 (⟨d,rfl,l⟩ | ⟨c,y,v,Y,d,rfl,rfl,j,rfl⟩)
 ·have m:Hid (lZ ((byt s).drop k)=none):=by unfold Hid lZ;rw [z.out];simp only;rw [B.out];simp only;rw [d]
  have p:=il (ip u.rd.base l);clear d l u;go_wp2_with fail
  exact⟨rfl,Or.inl ⟨m.out,rfl,p.out⟩⟩
 have C:=il d;have I:=u.call j;have f:=il I;have c1:x3.cell? ⟨w.heap.size+1,2,none⟩=some (.int .i64 0):=by simpa using I.cell 2
 have f1:=I.free 2;clear u I j d;go_wp2_with fail
 have r:=f.out.set 2 (.int .i64 c);generalize x3.setCell ⟨w.heap.size+1,2,none⟩ (.int .i64 c)=y3 at r ⊢;clear f c1 f1;refine(B3 y3 y3 b Y s r.rd.self A).mono ?_;rintro e i (⟨d,rfl,l⟩ | ⟨n,y,v,G,d,rfl,rfl,j,rfl⟩)
 ·have m:Hid (lZ ((byt s).drop k)=none):=by unfold Hid lZ;rw [z.out];simp only;rw [B.out];simp only;rw [C.out];simp only;rw [d]
  have p:=il (ip r.rd.base l);clear d l r;go_wp2_with fail
  exact⟨rfl,Or.inl ⟨m.out,rfl,p.out⟩⟩
 have N:=il d;have I:=r.call j;have f:=il I;have c1:i.cell? ⟨w.heap.size+1,3,none⟩=some (.int .i64 0):=by simpa using I.cell 3
 have f1:=I.free 3;clear r I j d;have I:=f.out.set 3 (.int .i64 n);have O:(i.setCell ⟨w.heap.size+1,3,none⟩ (.int .i64 n)).cell? ⟨w.heap.size+1,0,none⟩=some (.int .i64 o):=by simpa using I.cell 0
 have E:i.frozen? ⟨w.heap.size,0,none⟩=false:=f.out.rfree 0;have R:(i.setCell ⟨w.heap.size+1,3,none⟩ (.int .i64 n)).cell? ⟨w.heap.size,0,none⟩=some (.int .i64 0):=by simpa using I.rcell 0
 have U:(i.setCell ⟨w.heap.size+1,3,none⟩ (.int .i64 n)).cell? ⟨w.heap.size+1,1,none⟩=some (.int .i64 a):=by simpa using I.cell 1
 have g1:i.frozen? ⟨w.heap.size,1,none⟩=false:=f.out.rfree 1;have y:(i.setCell ⟨w.heap.size+1,3,none⟩ (.int .i64 n)).cell? ⟨w.heap.size,1,none⟩=some (.int .i64 0):=by simpa using I.rcell 1
 have X:(i.setCell ⟨w.heap.size+1,3,none⟩ (.int .i64 n)).cell? ⟨w.heap.size+1,2,none⟩=some (.int .i64 c):=by simpa using I.cell 2
 have g2:i.frozen? ⟨w.heap.size,2,none⟩=false:=f.out.rfree 2;have P:(i.setCell ⟨w.heap.size+1,3,none⟩ (.int .i64 n)).cell? ⟨w.heap.size,2,none⟩=some (.int .i64 0):=by simpa using I.rcell 2
 have F:(i.setCell ⟨w.heap.size+1,3,none⟩ (.int .i64 n)).cell? ⟨w.heap.size+1,3,none⟩=some (.int .i64 n):=by simpa using I.cell 3
 have H:i.frozen? ⟨w.heap.size,3,none⟩=false:=f.out.rfree 3;have V:(i.setCell ⟨w.heap.size+1,3,none⟩ (.int .i64 n)).cell? ⟨w.heap.size,3,none⟩=some (.int .i64 0):=by simpa using I.rcell 3
 have D:=il I;clear I;go_wp2_with fail
 have J:=((((D.out.rset 0 (.int .i64 o)).rset 1 (.int .i64 a)).rset 2 (.int .i64 c)).rset 3 (.int .i64 n));clear c1 f1 f D O E R U g1 y X g2 P F H V;generalize (((((i.setCell ⟨w.heap.size+1,3,none⟩ (.int .i64 n)).setCell ⟨w.heap.size,0,none⟩ (.int .i64 o)).setCell ⟨w.heap.size,1,none⟩ (.int .i64 a)).setCell ⟨w.heap.size,2,none⟩ (.int .i64 c)).setCell ⟨w.heap.size,3,none⟩ (.int .i64 n))=wz at J ⊢;have Q:wz.cell? ⟨w.heap.size,0,none⟩=some (.int .i64 o):=by simpa using J.rcell 0
 have M:wz.cell? ⟨w.heap.size,1,none⟩=some (.int .i64 a):=by simpa using J.rcell 1
 have S:wz.cell? ⟨w.heap.size,2,none⟩=some (.int .i64 c):=by simpa using J.rcell 2
 have Z:wz.cell? ⟨w.heap.size,3,none⟩=some (.int .i64 n):=by simpa using J.rcell 3
 refine bodyPost_ret (v:= .agg #[.int .i64 o,.int .i64 a,.int .i64 c,.int .i64 n]) ?_ rfl ?_
 ·simp [results,Tryz.results186,go_sem,Q,M,S,Z]
 ·refine Or.inr ⟨⟨o,a,c,n⟩,_,_,G,?_,rfl,rfl,J.rd,rfl⟩;unfold lZ;rw [z.out];simp only;rw [B.out];simp only;rw [C.out];simp only;rw [N.out]
def E5(v:Int × Int × Int):Value:= .agg #[.int .i64 v.1,.int .i64 v.2.1,.int .i64 v.2.2]
theorem Ga(W w:World)(b k:Nat)(s:ByteArray)(h:RdS W w b s k)(u:s.size<=9223372036854775806):
  Calls Tryz.prog 139 #[pt b] w (Rd W b s (fun _ x v=>v=E5 x) (mX ((byt s).drop k))):=by
 have D:=il h;have C:pt b= .pointer (some ⟨b,0,none⟩):=rfl;rw [C]at*;clear h;go_enter Tryz.func139,Tryz.ntmps139
 go_wp2_with fail
 have m:=InS.start (T:=26) D.out #[.int .i64 0,.int .i64 0,.int .i64 0] #[.int .i64 0,.int .i64 0,.int .i64 0];generalize (w.alloc (.cells #[.int .i64 0,.int .i64 0,.int .i64 0] 26)).alloc (.cells #[.int .i64 0,.int .i64 0,.int .i64 0] 26)=w1 at m ⊢;refine(nA w1 w1 b k s m.rd.self u).mono ?_;rintro e x1 (⟨d,rfl,j⟩ | ⟨o,r,v,k1,d,rfl,rfl,i,rfl⟩)
 ·have p:Hid (mX ((byt s).drop k)=none):=by unfold Hid mX;rw [d]
  have q:=il (ip m.rd.base j);clear d j m;go_wp2_with fail
  exact⟨rfl,Or.inl ⟨p.out,rfl,q.out⟩⟩
 have t:=il d;have I:=m.call i;have f:=il I;have c1:x1.cell? ⟨w.heap.size+1,0,none⟩=some (.int .i64 0):=by simpa using I.cell 0
 have f1:=I.free 0;clear m I i d;go_wp2_with fail
 have l:=f.out.set 0 (.int .i64 o);generalize x1.setCell ⟨w.heap.size+1,0,none⟩ (.int .i64 o)=y1 at l ⊢;clear f c1 f1;refine(nA y1 y1 b k1 s l.rd.self u).mono ?_;rintro e x2 (⟨d,rfl,j⟩ | ⟨a,r,v,k2,d,rfl,rfl,i,rfl⟩)
 ·have p:Hid (mX ((byt s).drop k)=none):=by unfold Hid mX;rw [t.out];simp only;rw [d]
  have q:=il (ip l.rd.base j);clear d j l;go_wp2_with fail
  exact⟨rfl,Or.inl ⟨p.out,rfl,q.out⟩⟩
 have z:=il d;have I:=l.call i;have f:=il I;have c1:x2.cell? ⟨w.heap.size+1,1,none⟩=some (.int .i64 0):=by simpa using I.cell 1
 have f1:=I.free 1;clear l I i d;go_wp2_with fail
 have n:=f.out.set 1 (.int .i64 a);generalize x2.setCell ⟨w.heap.size+1,1,none⟩ (.int .i64 a)=y2 at n ⊢;clear f c1 f1;refine(nA y2 y2 b k2 s n.rd.self u).mono ?_;rintro e x3 (⟨d,rfl,j⟩ | ⟨c,r,v,O,d,rfl,rfl,i,rfl⟩)
 ·have p:Hid (mX ((byt s).drop k)=none):=by unfold Hid mX;rw [t.out];simp only;rw [z.out];simp only;rw [d]
  have q:=il (ip n.rd.base j);clear d j n;go_wp2_with fail
  exact⟨rfl,Or.inl ⟨p.out,rfl,q.out⟩⟩
 have B:=il d;have I:=n.call i;have f:=il I;have c1:x3.cell? ⟨w.heap.size+1,2,none⟩=some (.int .i64 0):=by simpa using I.cell 2
 have f1:=I.free 2;clear n I i d;have I:=f.out.set 2 (.int .i64 c);have F:(x3.setCell ⟨w.heap.size+1,2,none⟩ (.int .i64 c)).cell? ⟨w.heap.size+1,0,none⟩=some (.int .i64 o):=by simpa using I.cell 0
 have A:x3.frozen? ⟨w.heap.size,0,none⟩=false:=f.out.rfree 0;have K:(x3.setCell ⟨w.heap.size+1,2,none⟩ (.int .i64 c)).cell? ⟨w.heap.size,0,none⟩=some (.int .i64 0):=by simpa using I.rcell 0
 have M:(x3.setCell ⟨w.heap.size+1,2,none⟩ (.int .i64 c)).cell? ⟨w.heap.size+1,1,none⟩=some (.int .i64 a):=by simpa using I.cell 1
 have g1:x3.frozen? ⟨w.heap.size,1,none⟩=false:=f.out.rfree 1;have r:(x3.setCell ⟨w.heap.size+1,2,none⟩ (.int .i64 c)).cell? ⟨w.heap.size,1,none⟩=some (.int .i64 0):=by simpa using I.rcell 1
 have N:(x3.setCell ⟨w.heap.size+1,2,none⟩ (.int .i64 c)).cell? ⟨w.heap.size+1,2,none⟩=some (.int .i64 c):=by simpa using I.cell 2
 have g2:x3.frozen? ⟨w.heap.size,2,none⟩=false:=f.out.rfree 2;have G:(x3.setCell ⟨w.heap.size+1,2,none⟩ (.int .i64 c)).cell? ⟨w.heap.size,2,none⟩=some (.int .i64 0):=by simpa using I.rcell 2
 have y:=il I;clear I;go_wp2_with fail
 have J:=(((y.out.rset 0 (.int .i64 o)).rset 1 (.int .i64 a)).rset 2 (.int .i64 c));clear c1 f1 f y F A K M g1 r N g2 G;generalize ((((x3.setCell ⟨w.heap.size+1,2,none⟩ (.int .i64 c)).setCell ⟨w.heap.size,0,none⟩ (.int .i64 o)).setCell ⟨w.heap.size,1,none⟩ (.int .i64 a)).setCell ⟨w.heap.size,2,none⟩ (.int .i64 c))=wz at J ⊢;have H:wz.cell? ⟨w.heap.size,0,none⟩=some (.int .i64 o):=by simpa using J.rcell 0
 have E:wz.cell? ⟨w.heap.size,1,none⟩=some (.int .i64 a):=by simpa using J.rcell 1
 have L:wz.cell? ⟨w.heap.size,2,none⟩=some (.int .i64 c):=by simpa using J.rcell 2
 refine bodyPost_ret (v:= .agg #[.int .i64 o,.int .i64 a,.int .i64 c]) ?_ rfl ?_
 ·simp [results,Tryz.results139,go_sem,H,E,L]
 ·refine Or.inr ⟨(o,a,c),_,_,O,?_,rfl,rfl,J.rd,rfl⟩;unfold mX;rw [t.out];simp only;rw [z.out];simp only;rw [B.out]
def oX(room:Int)(l:List Nat):Option ((Int × Int) × List Nat):=match js l with
 | none=>none
 | some (t,r)=>match kO room r with
  | none=>none
  | some (c,r')=>if 0<c then some ((t,c),r') else none
def F2(x:Int × Int):Value:= .agg #[.int .i64 x.1,.int .i64 x.2]
theorem F9(W w:World)(b k:Nat)(s:ByteArray)(l:Int)(h:RdS W w b s k)(y:s.size<=9223372036854775806):
  Calls Tryz.prog 174 #[pt b,.int .i64 l] w (Rd W b s (fun _ x v=>v=F2 x) (oX l ((byt s).drop k))):=by
 have C:=il h;have B:pt b= .pointer (some ⟨b,0,none⟩):=rfl;rw [B]at*;clear h;go_enter Tryz.func174,Tryz.ntmps174
 go_wp2_with fail
 have i:=InS.start (T:=187) C.out #[.int .i64 0,.int .i64 0] #[.int .i64 0,.int .i64 0];generalize (w.alloc (.cells #[.int .i64 0,.int .i64 0] 187)).alloc (.cells #[.int .i64 0,.int .i64 0] 187)=w1 at i ⊢;refine(nA w1 w1 b k s i.rd.self y).mono ?_;rintro e x1 (⟨a,rfl,m⟩ | ⟨t,q,v,k1,a,rfl,rfl,j,rfl⟩)
 ·have p:Hid (oX l ((byt s).drop k)=none):=by unfold Hid oX;rw [a]
  have r:=il (ip i.rd.base m);clear a m i;go_wp2_with fail
  exact⟨rfl,Or.inl ⟨p.out,rfl,r.out⟩⟩
 have n:=il a;have I:=i.call j;have d:=il I;have c1:x1.cell? ⟨w.heap.size+1,0,none⟩=some (.int .i64 0):=by simpa using I.cell 0
 have f1:=I.free 0;clear i I j a;go_wp2_with fail
 have f:=d.out.set 0 (.int .i64 t);generalize x1.setCell ⟨w.heap.size+1,0,none⟩ (.int .i64 t)=y1 at f ⊢;clear d c1 f1;refine(uP y1 y1 b k1 s f.rd.self y l).mono ?_;rintro e x2 (⟨a,rfl,m⟩ | ⟨c,q,v,k2,a,rfl,rfl,j,rfl⟩)
 ·have p:Hid (oX l ((byt s).drop k)=none):=by unfold Hid oX;rw [n.out];simp only;rw [a]
  have r:=il (ip f.rd.base m);clear a m f;go_wp2_with fail
  exact⟨rfl,Or.inl ⟨p.out,rfl,r.out⟩⟩
 have u:=il a;have I:=f.call j;have d:=il I;have c1:x2.cell? ⟨w.heap.size+1,1,none⟩=some (.int .i64 0):=by simpa using I.cell 1
 have f1:=I.free 1;clear f I j a;have I:=d.out.set 1 (.int .i64 c);have E:(x2.setCell ⟨w.heap.size+1,1,none⟩ (.int .i64 c)).cell? ⟨w.heap.size+1,0,none⟩=some (.int .i64 t):=by simpa using I.cell 0
 have H:(x2.setCell ⟨w.heap.size+1,1,none⟩ (.int .i64 c)).cell? ⟨w.heap.size+1,1,none⟩=some (.int .i64 c):=by simpa using I.cell 1
 have z:x2.frozen? ⟨w.heap.size,0,none⟩=false:=d.out.rfree 0;have g1:x2.frozen? ⟨w.heap.size,1,none⟩=false:=d.out.rfree 1;have G:(x2.setCell ⟨w.heap.size+1,1,none⟩ (.int .i64 c)).cell? ⟨w.heap.size,0,none⟩=some (.int .i64 0):=by simpa using I.rcell 0
 have q:(x2.setCell ⟨w.heap.size+1,1,none⟩ (.int .i64 c)).cell? ⟨w.heap.size,1,none⟩=some (.int .i64 0):=by simpa using I.rcell 1
 have o:=il I;clear I;by_cases hc:0<c
 ·go_wp2_with (go_at_call 141;refine(j4 _).mono ?_;rintro e A ⟨⟨v7,rfl⟩,rfl⟩)
  have J:=(o.out.rset 0 (.int .i64 t)).rset 1 (.int .i64 c);clear c1 f1 d o E H z g1 G q;generalize (((x2.setCell ⟨w.heap.size+1,1,none⟩ (.int .i64 c)).setCell ⟨w.heap.size,0,none⟩ (.int .i64 t)).setCell ⟨w.heap.size,1,none⟩ (.int .i64 c))=wz at J ⊢;have F:wz.cell? ⟨w.heap.size,0,none⟩=some (.int .i64 t):=by simpa using J.rcell 0
  have D:wz.cell? ⟨w.heap.size,1,none⟩=some (.int .i64 c):=by simpa using J.rcell 1
  refine bodyPost_ret (v:= .agg #[.int .i64 t,.int .i64 c]) ?_ rfl ?_
  ·simp [results,Tryz.results174,go_sem,F,D]
  ·refine Or.inr ⟨(t,c),_,_,k2,?_,rfl,rfl,J.rd,rfl⟩;unfold oX;rw [n.out];simp only;rw [u.out];simp only;rw [if_pos hc]
 ·have qd:decide (0<c)=false:=by simp;omega
  go_wp2_with (go_at_call 141;refine(jL _).mono ?_;rintro e A ⟨rfl,rfl⟩)
  refine⟨rfl,Or.inl ⟨?_,rfl,o.out.rd.base⟩⟩;unfold oX;rw [n.out];simp only;rw [u.out];simp only;rw [if_neg (by omega)]
def oy{α:Type}(c:List α)(res:Option (List α × List Nat)):Option (List α × List Nat):=match res with
 | some (xs,r)=>some (c++xs,r)
 | none=>none
theorem uw{α:Type}(a:Option (List α × List Nat)):oy [] a=a:=by
 unfold oy;cases a with
 | none=>rfl
 | some x=>rfl
theorem sS{α:Type}(P:List Nat->Option (α × List Nat))(c:List α)(l:List Nat):oy c (jX P 0 l)=some (c,l):=by simp [oy,jX]
theorem s7{α:Type}{P:List Nat->Option (α × List Nat)}{l r:List Nat}{x:α}(h:P l=some (x,r))(c:List α)(m:Nat):oy c (jX P (m+1) l)=oy (c++[x]) (jX P m r):=by
 rw [jX,h];simp only;cases jX P m r with
 | none=>rfl
 | some y=>simp [oy]
theorem tw{α:Type}{P:List Nat->Option (α × List Nat)}{l:List Nat}(h:P l=none)(c:List α)(m:Nat):oy c (jX P (m+1) l)=none:=by rw [jX,h];rfl
theorem vl{w w':World}{base:Nat}{e:TypeId}{size:Nat}{v:Value}{n b:Nat}{xs:List Value}(h:w.ownsRow base e size v n xs)(hg:w.grownBy w' (some b))(hb:b<base):w'.ownsRow base e size v n xs:=
 iE h hg (fun k e=>by simp only [Option.some.injEq]at e;omega)
theorem oT{l r:List Nat}{x:Int}(h:js l=some (x,r)):0<=x:=by
 unfold js at h;split at h
 ·split at h
  ·simp only [Option.some.injEq,Prod.mk.injEq]at h;omega
  ·cases h
 ·cases h
theorem na{b x:Int}{l r:List Nat}(h:kO b l=some (x,r)):0<=x/\x<=b:=by
 unfold kO at h;split at h
 ·rename_i hw
  split at h
  ·simp only [Option.some.injEq,Prod.mk.injEq]at h;have:=oT hw;omega
  ·cases h
 ·cases h
theorem BK(W w:World)(b k:Nat)(s:ByteArray)(h:RdS W w b s k)(L:s.size<=9223372036854775806):
  Calls Tryz.prog 173 #[pt b] w (Rd W b s (fun w' c v=>c.length<=16/\CodeRow w.heap.size w'.heap.size w' v c) (jG ((byt s).drop k))):=by
 obtain⟨i0,Y,ai,S,ac⟩:=info_parts vX;have Q:=il (uP w w b k s h.self L 16);have A:=il h;have ae:=h.lt;have aa:pt b= .pointer (some ⟨b,0,none⟩):=rfl;rw [aa]at*;clear h;go_enter Tryz.func173,Tryz.ntmps173
 go_wp2_with fail
 refine Q.out.mono ?_;rintro e w1 (⟨d,rfl,p⟩ | ⟨n,r1,v,k1,d,rfl,rfl,f,rfl⟩)
 ·have G:Hid (jG ((byt s).drop k)=none):=by unfold Hid jG;rw [d]
  have I:=il (ip A.out.base p);clear d p;go_wp2_with fail
  exact⟨rfl,Or.inl ⟨G.out,rfl,I.out⟩⟩
 obtain⟨R,h16⟩:=na d;obtain⟨m,rfl⟩:=Int.eq_ofNat_of_zero_le R;have G:Hid (jG ((byt s).drop k)=jX lZ m ((byt s).drop k1)):=by unfold Hid jG;rw [d];rfl
 have X:=il f;clear d f R Q;go_wp2_with fail
 go_loopw [3,6] (fun lv i w'=>∃ (j:Nat) (c:List Ins) (l:Nat),j<=m/\i= .int .i64 j/\Hid (c.length=j)/\Hid (RdS w w' b s l)/\Hid (w'.ownsRow w.heap.size 65 4 lv c.length (jk c))/\Hid (oy c (jX lZ (m - j) ((byt s).drop l))=jG ((byt s).drop k))) (fun _ i _=>m - (intOf i).toNat)
 case atStart=>exact⟨0,[],k1,Nat.zero_le _,rfl,il rfl,X,il ⟨rfl,Or.inl ⟨rfl,rfl⟩⟩,il (by rw [G.out,uw];rfl)⟩
 case round=>
  obtain⟨j,c,l,hj,rfl,E,o,F,z⟩:=hrel;obtain⟨r,C⟩:∃ r,r=wr:=⟨_,rfl⟩;subst C;have C:w.heap.size<=r.heap.size:=o.out.base.size;by_cases hjm:j<m
  ·have Z:(j:Int)<m:=by omega
   have P:=il (F8 r r b l s o.out.self L);have y:m - j=(m - (j+1))+1:=by omega
   go_wp2_with fail
   refine P.out.mono ?_;rintro e w6 (⟨d,rfl,p⟩ | ⟨x,r1,v,k2,d,rfl,rfl,f,rfl⟩)
   ·have D:Hid (jG ((byt s).drop k)=none):=by unfold Hid;rw [<-z.out,y,tw d]
    have I:=il (ip A.out.base (ip o.out.base p));clear d p y;go_wp2_with fail
    exact⟨rfl,Or.inl ⟨D.out,rfl,I.out⟩⟩
   have T:Hid (oy (c++[x]) (jX lZ (m - (j+1)) ((byt s).drop k2))=jG ((byt s).drop k)):=by unfold Hid;rw [<-z.out,y,s7 d]
   have U:=il f;have u:=il (vl F.out f.base ae);have hw6:w.heap.size<=w6.heap.size:=Nat.le_trans C f.base.size;obtain⟨x1,x2,x3,rfl⟩:=iy u.out;have ak:=iC u.out;subst ak;have hcl:c.length<=16:=by have:=E.out;omega
   have V:c.length+1<=maxLen:=by unfold maxLen;omega
   clear d f y P;unfold Ge;go_wp2_with (at_builtin;go_must (refine wpList_append_lies _ rfl _ _ _ rfl w.heap.size 65 i0 _ 4 32 Tryz.underlying66 Y ai S ac rfl (by omega) (.slice x1 c.length x3) c.length (jk c) rfl (iK u.out) ⟨w6.heap.size,0,none⟩ 1 1 (vA x) rfl rfl (World.news_of_block (cs:= #[.int .i64 x.op,.int .i64 x.a,.int .i64 x.b,.int .i64 x.n]) (t:=65) (fr:=(0,0)) (heap_alloc_new w6 _)) (BV x) (by omega) V (by omega) (by simp;omega) (w6.heap.size+1) (by simp) ?_);intro g6 af J N B ad aj)
   have M:Hid (RdS w J b s k2/\J.ownsRow w.heap.size 65 4 (.slice (some ⟨g6,0,none⟩) (c.length+1) af) (c++[x]).length (jk (c++[x]))):=by
    have O:=iB u.out;have H:=(o.out.trans U.out);refine⟨⟨?_,?_,H.le⟩,?_⟩
    ·rw [B.block b (by simp;omega) (fun e=>by have:=O b e.symm;omega),Below.heap_alloc _ _ _ (by omega)];exact H.blk
    ·exact jH (ir H.base) B (fun q e=>O q e)
    ·rw [pw];simpa using N
   clear N B ad aj;go_wp2_with fail
   go_roundw
   case rel=>exact⟨j+1,c++[x],k2,by omega,by first | rfl | go_num,il (by simpa using E.out),il M.out.1,il M.out.2,T⟩
   case measure=>simp [intOf];omega
  ·have Z:¬(j:Int)<m:=by omega
   have K:m - j=0:=by omega
   have D:Hid (jG ((byt s).drop k)=some (c,(byt s).drop l)):=by unfold Hid;rw [<-z.out,K,sS]
   have ab:Hid (c.length<=16):=by unfold Hid;have:=E.out;omega
   clear K;go_wp2_with fail
   go_ret;exact Or.inr ⟨c,_,_,l,D.out,rfl,⟨ab.out,F.out,uR F.out⟩,A.out.trans o.out,rfl⟩
theorem AX(W w:World)(b k:Nat)(s:ByteArray)(h:RdS W w b s k)(hs:s.size<=9223372036854775806):
  Calls Tryz.prog 137 #[pt b] w (Rd W b s (fun w' p v=>p.length<=4/\∃ tv,v= .agg #[tv]/\ThrAt (w.heap.size+2) w'.heap.size w' tv p) (kL ((byt s).drop k))):=by
 obtain⟨i1,aE,aX,aC,aJ⟩:=info_parts A1;have M:=il h;have hbw:=h.lt;have aR:pt b= .pointer (some ⟨b,0,none⟩):=rfl;rw [aR]at*;clear h;go_enter Tryz.func137,Tryz.ntmps137
 go_wp2_with fail
 have D:=InS.start (T:=37) M.out.self #[.slice none 0 0] #[.slice none 0 0];generalize ah:(w.alloc (.cells #[.slice none 0 0] 37)).alloc (.cells #[.slice none 0 0] 37)=w1 at D ⊢;have aO:w.heap.size+2<=w1.heap.size:=by rw [<-ah];simp
 clear ah;refine(uP w1 w1 b k s D.rd.self hs 4).mono ?_;rintro e w2 (⟨f,rfl,F⟩ | ⟨n,r1,v,k1,f,rfl,rfl,z,rfl⟩)
 ·have Z:Hid (kL ((byt s).drop k)=none):=by unfold Hid kL;rw [f]
  have HG:=il (ip M.out.base (ip D.rd.base F));clear f F D;go_wp2_with fail
  exact⟨rfl,Or.inl ⟨Z.out,rfl,HG.out⟩⟩
 obtain⟨h0,h4⟩:=na f;obtain⟨m,rfl⟩:=Int.eq_ofNat_of_zero_le h0;have Z:Hid (kL ((byt s).drop k)=jX jG m ((byt s).drop k1)):=by unfold Hid kL;rw [f];rfl
 have HI:=il (D.call z);have aG:w.heap.size+2<=w2.heap.size:=Nat.le_trans aO z.base.size;clear f z h0 D;go_wp2_with fail
 go_loopw [6] (fun i w'=>∃ (j:Nat) (p:List (List Ins)) (tv:Value) (B:Nat),j<=m/\i= .int .i64 j/\Hid (p.length=j)/\Hid (InS w w' b s B 37 (w.heap.size+1) w.heap.size #[tv] #[.slice none 0 0])/\Hid (ThrAt (w.heap.size+2) w'.heap.size w' tv p)/\w.heap.size+2<=w'.heap.size/\Hid (oy p (jX jG (m - j) ((byt s).drop B))=kL ((byt s).drop k))) (fun i _=>m - (intOf i).toNat)
 case atStart=>exact⟨0,[],.slice none 0 0,k1,Nat.zero_le _,rfl,il rfl,HI,il ⟨[],⟨rfl,Or.inl ⟨rfl,rfl⟩⟩,fun h e=>(by cases e),fun j hj=>(by simp at hj),Apt.nil⟩,aG,il (by rw [Z.out,uw];rfl)⟩
 case round=>
  obtain⟨j,p,tv,B,hj,rfl,X,l,C,an,S⟩:=hrel;obtain⟨d,av⟩:∃ d,d=wr:=⟨_,rfl⟩;rw [<-av]at l C an ⊢;clear av;by_cases hjm:j<m
  ·have q1:(j:Int)<m:=by omega
   have Q:m - j=(m - (j+1))+1:=by omega
   have HT:=il (BK d.drew d.drew b B s (l.out.rd.grown (iz (iu _ _))).self hs);have V:d.cell? ⟨w.heap.size+1,0,none⟩=some tv:=by simpa using l.out.cell 0
   go_wp2_with fail
   refine iA (fun u=>u.cell? ⟨w.heap.size+1,0,none⟩=some tv) 7 (by kernel_rfl) (by kernel_rfl) ?_ ?_
   ·simp [go_sem,V]
   intro hHeld;refine ij 0 ?v0 rfl (by kernel_rfl) (fun _ _ _ h=>h) (by rfl) ?y0 (by assumption) ?_
   case y0=>(intro u hu;go_simp;try rfl)
   simp only [Act.put,List.setIfInBounds_toArray];refine ij 1 ?v1 rfl (by kernel_rfl) (fun _ _ _ h=>h) (by rfl) ?y1 (by assumption) ?_
   case y1=>(intro u hu;go_simp;try rfl)
   simp only [Act.put];refine ij 2 ?v2 rfl (by kernel_rfl) (fun _ _ _ h=>h) (by rfl) ?y2 (by assumption) ?_
   case y2=>(intro u hu;go_simp;try rfl)
   simp only [Act.put];refine iw (i:=3) rfl (by kernel_rfl) (by kernel_rfl) (by rfl) ?_;intro K3 aw;have ay:=il aw;clear aw;go_simp;refine HT.out.mono ?_;rintro e w6 (⟨f,rfl,F⟩ | ⟨x,r1,v,k2,f,rfl,N,z,rfl⟩)
   ·have ac:Hid (kL ((byt s).drop k)=none):=by unfold Hid;rw [<-S.out,Q,tw f]
    have HG:=il (ip M.out.base (ip l.out.rd.base (ip (iz (iu _ _)) F)));clear f F Q;exact⟨rfl,Or.inl ⟨ac.out,rfl,HG.out⟩⟩
   have aB:Hid (oy (p++[x]) (jX jG (m - (j+1)) ((byt s).drop k2))=kL ((byt s).drop k)):=by unfold Hid;rw [<-S.out,Q,s7 f]
   have ax:w.heap.size+2<=d.drew.heap.size:=an;have U:d.grownBy w6 (some b):=ip (iz (iu _ _)) z.base;have hw6:w.heap.size+2<=w6.heap.size:=Nat.le_trans ax z.base.size;have ae:=il (l.out.call (RdS.trans (l.out.rd.self.grown (iz (iu _ _))) z));have K:Hid (ThrAt (w.heap.size+2) d.heap.size w6 tv p):=C.out.step U (fun q e=>by simp only [Option.some.injEq]at e;omega);have aV:Hid (d.heap.size<=w6.heap.size):=U.size;have aP:Hid (∀ q,v.ownBlock=some q->d.heap.size<=q):=fun q e=>iB N.2.1 q e
   have R:Hid (CodeRow (w.heap.size+2) w6.heap.size w6 v x):=⟨iR N.2.1 ax,N.2.2⟩;obtain⟨v1,v2,v3,rfl⟩:=iy R.out.1;obtain⟨a,y,c,rfl⟩:=iy K.out.choose_spec.1;obtain⟨rows,E⟩:∃ rows,Hid (w6.ownsRow (w.heap.size+2) 66 1 (.slice a y c) p.length rows):=⟨_,K.out.choose_spec.1⟩;have aW:=iC E.out;subst aW;have hpl:p.length<=4:=by have:=X.out;omega
   have al:w6.cell? ⟨w.heap.size+1,0,none⟩=some (.slice a p.length c):=by simpa using ae.out.cell 0
   clear f z U Q HT N C l;refine ay.out _ _ al ?_;clear ay;try simp only [Act.put,List.setIfInBounds_toArray]
   refine iw (i:=4) rfl (by kernel_rfl) (by kernel_rfl) (by rfl) ?_;intro K4 ag;have aj:=il ag;clear ag;go_simp;have G:w6.grownBy (w6.alloc (.cells #[.slice v1 v2 v3] 66)) none:=ir (iu _ _);refine aj.out _ _ (iq G _ _ al) ?_;clear aj;have aQ:p.length+1<=maxLen:=by unfold maxLen;omega
   have aH:(p.length+1)*24<=140737488355328:=by omega
   refine iw (i:=5) rfl (by kernel_rfl) (by kernel_rfl) (by rfl) ?_;intro K5 af;have aq:=il af;clear af;refine wp_append_lies _ (.tmp 9) (.tmp 12) 35 (by rfl) (w.heap.size+2) 66 i1 _ 1 24 Tryz.underlying35 aE aX aC aJ rfl (by omega) (.slice a p.length c) p.length rows (by rfl) (iK E.out) ⟨w6.heap.size,0,none⟩ 1 1 [.slice v1 v2 v3] (by rfl) (by rfl) (World.news_of_block (cs:= #[.slice v1 v2 v3]) (t:=66) (fr:=(0,0)) (heap_alloc_new w6 _)) (by simp [Value.oneCell']) (by omega) aQ aH (by simp;omega) (w6.heap.size+1) (by simp) ?_;intro g2 A r Y H aM aL;have ap:∀ q,(Value.slice a p.length c).ownBlock=some q->w.heap.size+2<=q:=fun q e=>iB E.out q e
   have L:∀ q,q<w.heap.size+2->r.heap[q]?=w6.heap[q]?:=fun q hq=>by
    rw [H.block q (by simp;omega) (fun e=>by have:=ap q e.symm;omega),G.block q (by omega) (by simp)]
   have P:Hid (InS w r b s k2 37 (w.heap.size+1) w.heap.size #[.slice a p.length c] #[.slice none 0 0]):=by
    have I:=ae.out;exact⟨⟨by rw [L _ (by omega)];exact I.rd.blk,jH (ip I.rd.base (lU G)) H (fun q e=>by have:=ap q e;omega),I.rd.le⟩,by rw [L _ (by omega)];exact I.var,by rw [L _ (by omega)];exact I.res,I.cb,I.db,I.cd,I.lc,I.ld⟩
   have aY:r.cell? ⟨w.heap.size+1,0,none⟩=some (.slice a p.length c):=by simpa using P.out.cell 0
   have hsz7:w6.heap.size+1<=r.heap.size:=by have:=H.size;simpa using this
   have ak:Hid (ThrAt (w.heap.size+2) r.heap.size r (.slice (some ⟨g2,0,none⟩) (p.length+1) A) (p++[x])):=
    ThrAt.snoc K.out aV.out aP.out E.out R.out G H Y (by omega) (uR Y)
   clear Y H aM aL L G K E R ae;refine aq.out _ _ aY ?_;clear aq;try simp only [Act.put,List.setIfInBounds_toArray]
   refine ij 6 ?v6 rfl (by kernel_rfl) (fun _ _ _ h=>h) (by rfl) ?y6 (by assumption) ?_
   case y6=>(intro u hu;go_simp;try rfl)
   simp only [Act.put];refine iI rfl (by kernel_rfl) (by kernel_rfl) (by rfl) ?_;have s7f:r.frozen? ⟨w.heap.size+1,0,none⟩=false:=P.out.free 0;have aN:=il (P.out.set 0 (.slice (some ⟨g2,0,none⟩) (p.length+1) A));have O:Hid (ThrAt (w.heap.size+2) (r.setCell ⟨w.heap.size+1,0,none⟩ (.slice (some ⟨g2,0,none⟩) (p.length+1) A)).heap.size (r.setCell ⟨w.heap.size+1,0,none⟩ (.slice (some ⟨g2,0,none⟩) (p.length+1) A)) (.slice (some ⟨g2,0,none⟩) (p.length+1) A) (p++[x])):=by
    have:=ak.out.step (iW (w:=r) (b:=w.heap.size+1) (o:=0) (v:= .slice (some ⟨g2,0,none⟩) (p.length+1) A)) (fun q e=>by simp only [Option.some.injEq]at e;omega);exact this.mono (by simp)
   have az:w.heap.size+2<=(r.setCell ⟨w.heap.size+1,0,none⟩ (.slice (some ⟨g2,0,none⟩) (p.length+1) A)).heap.size:=by simp;omega
   clear P ak;go_simp;go_wp2
   go_roundw
   case rel=>exact⟨j+1,p++[x],_,k2,by omega,by first | rfl | go_num,il (by simpa using X.out),aN,O,az,aB⟩
   case measure=>simp [intOf];omega
  ·have q1:¬(j:Int)<m:=by omega
   have ej:m - j=0:=by omega
   have ac:Hid (kL ((byt s).drop k)=some (p,(byt s).drop B)):=by unfold Hid;rw [<-S.out,ej,sS]
   have aF:Hid (p.length<=4):=by unfold Hid;have:=X.out;omega
   obtain⟨a,y,c,rfl⟩:=iy C.out.choose_spec.1;have V:d.cell? ⟨w.heap.size+1,0,none⟩=some (.slice a y c):=by simpa using l.out.cell 0
   have cr:d.cell? ⟨w.heap.size,0,none⟩=some (.slice none 0 0):=by simpa using l.out.rcell 0
   have fr:=l.out.rfree 0;clear ej;go_wp2_with fail
   have J:=l.out.rset 0 (.slice a y c);have O:ThrAt (w.heap.size+2) (d.setCell ⟨w.heap.size,0,none⟩ (.slice a y c)).heap.size (d.setCell ⟨w.heap.size,0,none⟩ (.slice a y c)) (.slice a y c) p:=by
    have:=C.out.step (iW (w:=d) (b:=w.heap.size) (o:=0) (v:= .slice a y c)) (fun q e=>by simp only [Option.some.injEq]at e;omega);exact this.mono (by simp)
   clear V cr fr l C;generalize d.setCell ⟨w.heap.size,0,none⟩ (.slice a y c)=wz at J O ⊢;have e0:wz.cell? ⟨w.heap.size,0,none⟩=some (.slice a y c):=by simpa using J.rcell 0
   refine bodyPost_ret (v:= .agg #[.slice a y c]) ?_ rfl ?_
   ·simp [results,Tryz.results137,go_sem,e0]
   ·exact Or.inr ⟨p,_,_,B,ac.out,rfl,⟨aF.out,_,rfl,O⟩,M.out.trans J.rd,rfl⟩
theorem sn(m:Nat)(a:List Int)(l:List Nat):lf (m+1) a l=match oX (500 - a.length) l with
  | none=>none
  | some ((t,c),r)=>if a.getLast?≠some t then lf m (a++List.replicate c.toNat t) r else none:=by
 rw [lf,oX];cases js l with
 | none=>rfl
 | some x=>
  obtain⟨t,r⟩:=x;simp only;cases kO (500 - a.length) r with
  | none=>rfl
  | some y=>
   obtain⟨c,r'⟩:=y;simp only;by_cases hc:0<c
   ·simp [hc]
   ·simp [hc]
theorem xu{a:Int}{l r:List Nat}{t c:Int}(h:oX a l=some ((t,c),r)):0<=t/\t<=9223372036854775807/\0<c/\c<=a:=by
 unfold oX at h;split at h
 ·cases h
 ·rename_i t' r' hw
  split at h
  ·cases h
  ·rename_i c' r'' hm
   split at h
   ·simp only [Option.some.injEq,Prod.mk.injEq]at h;obtain⟨⟨rfl,rfl⟩,rfl⟩:=h;have d:=oT hw;have e:=na hm;have b:t'<=9223372036854775807:=by
     unfold js at hw;split at hw
     ·split at hw
      ·simp only [Option.some.injEq,Prod.mk.injEq]at hw;omega
      ·cases hw
     ·cases hw
    exact⟨d,b,by assumption,e.2⟩
   ·cases h
structure Box(p:Prop):Prop where
 out:p
section
variable {P : Program} {ops : Array Oper} {w : World} {Q : Act -> Prop} {a : Act} {o : Oper} {rest : List Oper}
theorem BC(b:Region.wanted o (yielded ops a.tmps)=false)(h:Box (wpStill P ops w Q rest (a.put o.dst undef))):Box (wpStill P ops w Q (o::rest) a):=by
 refine⟨?_⟩;unfold wpStill;rw [if_neg (by rw [b];simp)];exact h.out
theorem mO(b:Region.wanted o (yielded ops a.tmps)=true)(h:∀ K:Act->Prop,(∀ a,Box (wpStill P ops w Q rest a)->K a)->o.still P a w K):Box (wpStill P ops w Q (o::rest) a):=by
 refine⟨?_⟩;unfold wpStill;rw [if_pos b];exact h _ (fun _ h=>h.out)
theorem vu(h:Q a):Box (wpStill P ops w Q [] a):=⟨h⟩
theorem pG{id:Nat}{Q:Exit->Act->World->Prop}{a:Act}{w:World}{l:List Oper}(n:Nat)(hm:P.follows .mixedOrders=true)(hB:Region.lexTailB .any l.toArray n=true)
  (h:Box (wpStill P l.toArray w.drew (fun a'=>wpList P l.toArray Q (l.drop n) a' w.drew) (l.take n) a)):(Code.region id l.toArray true).wp P Q a w:=wp_region_still_tail n hm hB h.out
end
theorem yV(W w:World)(b k:Nat)(s:ByteArray)(h:RdS W w b s k)(hs:s.size<=9223372036854775806):
  Calls Tryz.prog 138 #[pt b] w (Rd W b s (fun w' l v=>l.length<=500/\w'.ownsRow w.heap.size 3 1 v l.length (iM l)) (jV ((byt s).drop k))):=by
 have HM:=il (uP w w b k s h.self hs 500);have M:=il h;have aD:=h.lt;have aB:pt b= .pointer (some ⟨b,0,none⟩):=rfl;rw [aB]at*;clear h;go_enter Tryz.func138,Tryz.ntmps138
 go_wp2_with fail
 refine HM.out.mono ?_;rintro e w1 (⟨d,rfl,H⟩ | ⟨n,r1,v,k1,d,rfl,rfl,o,rfl⟩)
 ·have Q:Hid (jV ((byt s).drop k)=none):=by unfold Hid jV;rw [d]
  have T:=il (ip M.out.base H);clear d H;go_wp2_with fail
  exact⟨rfl,Or.inl ⟨Q.out,rfl,T.out⟩⟩
 obtain⟨h0,h500⟩:=na d;obtain⟨m,rfl⟩:=Int.eq_ofNat_of_zero_le h0;have Q:Hid (jV ((byt s).drop k)=lf m [] ((byt s).drop k1)):=by unfold Hid jV;rw [d];rfl
 have HS:=il o;clear d o h0 HM;go_wp2_with fail
 go_loopw [3,8] (fun lv i w'=>∃ (j:Nat) (l:List Int) (u:Nat),j<=m/\i= .int .i64 j/\l.length<=500/\Hid (j=0↔l=[])/\Hid (RdS w w' b s u)/\Hid (w'.ownsRow w.heap.size 3 1 lv l.length (iM l))/\Hid (lf (m - j) l ((byt s).drop u)=jV ((byt s).drop k))) (fun _ i _=>m - (intOf i).toNat)
 case atStart=>exact⟨0,[],k1,Nat.zero_le _,rfl,Nat.zero_le _,il ⟨fun _=>rfl,fun _=>rfl⟩,HS,il ⟨rfl,Or.inl ⟨rfl,rfl⟩⟩,il (by rw [Q.out];rfl)⟩
 case round=>
  obtain⟨j,l,u,hj,rfl,au,F,q,z,L⟩:=hrel;obtain⟨J,am⟩:∃ J,J=wr:=⟨_,rfl⟩;rw [<-am]at q z ⊢;clear am;have aC:w.heap.size<=J.heap.size:=q.out.base.size;obtain⟨V,s2,S,rfl⟩:=iy z.out;have aG:=iC z.out;subst aG;by_cases hjm:j<m
  ·have q1:(j:Int)<m:=by omega
   have O:m - j=(m - (j+1))+1:=by omega
   have HT:=il (F9 J J b u s (500 - (l.length:Int)) q.out.self hs);go_wp2_with fail
   refine HT.out.mono ?_;rintro e w6 (⟨d,rfl,H⟩ | ⟨x,r1,v,k2,d,rfl,rfl,o,rfl⟩)
   ·have X:Hid (jV ((byt s).drop k)=none):=by unfold Hid;rw [<-L.out,O,sn,d]
    have T:=il (ip M.out.base (ip q.out.base H));clear d H O;go_wp2_with fail
    exact⟨rfl,Or.inl ⟨X.out,rfl,T.out⟩⟩
   obtain⟨t,c⟩:=x;obtain⟨t0,t1,c0,c1⟩:=xu d;have r:Hid (jV ((byt s).drop k)=if l.getLast?≠some t then lf (m - (j+1)) (l++List.replicate c.toNat t) ((byt s).drop k2) else none):=by unfold Hid;rw [<-L.out,O,sn,d]
   have ac:=il (q.out.trans o);have Z:=il (vl z.out o.base aD);have hw6:w.heap.size<=w6.heap.size:=Nat.le_trans aC o.base.size;clear d o O HT L q z;obtain⟨a,rfl⟩:=Int.eq_ofNat_of_zero_le (show 0<=c by omega);have az:a<=501:=by omega
   unfold F2;go_wp2_with fail
   have A:Hid (RdS w (w6.alloc (.cells #[.int .i64 t,.int .i64 (a:Int)] 187)) b s k2):=ac.out.grown (ir (iu _ _));have G:Hid ((w6.alloc (.cells #[.int .i64 t,.int .i64 (a:Int)] 187)).ownsRow w.heap.size 3 1 (.slice V l.length S) l.length (iM l)):=iK Z.out;have a0:(w6.alloc (.cells #[.int .i64 t,.int .i64 (a:Int)] 187)).cell? ⟨w6.heap.size,0,none⟩=some (.int .i64 t):=by
    have:=heap_alloc_new w6 (.cells #[.int .i64 t,.int .i64 (a:Int)] 187);simp only [World.cell?,this];rfl
   have a1:(w6.alloc (.cells #[.int .i64 t,.int .i64 (a:Int)] 187)).cell? ⟨w6.heap.size,1,none⟩=some (.int .i64 (a:Int)):=by
    have:=heap_alloc_new w6 (.cells #[.int .i64 t,.int .i64 (a:Int)] 187);simp only [World.cell?,this];rfl
   generalize w6.alloc (.cells #[.int .i64 t,.int .i64 (a:Int)] 187)=wA at A G a0 a1 ⊢;have ah:=il (xq w wA.drew (some b) (.slice V l.length S) l t a (iE G.out (iz (iu _ none)) (fun _ e=>by cases e)) (iz A.out.base) az (by omega));have ao:∀ (p:World) (sv:Value),p.ownsRow w.heap.size 3 1 sv (l++List.replicate a t).length (iM (l++List.replicate a t))->w.grownBy p (some b)->wA.drew.grownBy p (Value.slice V l.length S).ownBlock->RdS w p b s k2:=by
    intro p sv h1 h2 h3;refine⟨?_,h2,A.out.le⟩;have aF:=iB G.out;rw [h3.block b (by have:=A.out.lt;exact this) (fun e=>by have:=aF b e.symm;omega)];exact A.out.blk
   have an:=il ao;have ab:(l++List.replicate a t).length<=500:=by simp;omega
   have ad:=il ab;have ag:Hid (j+1=0↔l++List.replicate a t=[]):=by
    unfold Hid;refine⟨fun e=>by omega,fun e=>?_⟩;have:=congrArg List.length e;simp at this;omega
   clear ao ab ac Z;by_cases R:j=0
   ·have qz:((j:Int)==0)=true:=by simp;omega
    have ai:l=[]:=F.out.1 R;have D:Hid (lf (m - (j+1)) (l++List.replicate a t) ((byt s).drop k2)=jV ((byt s).drop k)):=by
     unfold Hid;rw [r.out,if_pos (by rw [ai];simp)];rfl
    clear ai R r F;refine pG 13 (by kernel_rfl) (by kernel_rfl) ?_;simp only [List.take_succ_cons,List.take_zero,List.drop_succ_cons,List.drop_zero];iterate 3 (refine mO (by rfl) (fun K hK=>?_);go_simp;refine hK _ ?_;clear hK K)
    iterate 9 (refine BC (by rfl) ?_;simp only [Act.put,List.setIfInBounds_toArray,List.set_cons_succ,List.set_cons_zero])
    refine mO (by rfl) (fun K hK=>?_);go_simp;refine hK _ ?_;clear hK K
    refine vu ?_;go_wp2_with (first | (go_at_call 141;refine(j4 _).mono ?_;rintro e Y ⟨⟨v7,rfl⟩,rfl⟩) | (go_at_call 102;refine ah.out.mono ?_;rintro e p ⟨sv,rfl,f,E,I,⟨z1,z2,z3,rfl⟩⟩))
    have U:=il f;have P:=il (an.out _ _ f E I);clear f E I;go_wp2_with fail
    go_roundw
    case rel=>exact⟨j+1,l++List.replicate a t,k2,by omega,by first | rfl | go_num,ad.out,ag,P,U,D⟩
    case measure=>simp [intOf];omega
   ·have qz:((j:Int)==0)=false:=by simp;omega
    have C:l≠[]:=fun e=>R (F.out.2 e)
    have hlp:0<l.length:=List.length_pos_iff.2 C;obtain⟨g,cap,eg,_,_⟩:=G.out.form (by omega);simp only [Value.slice.injEq]at eg;obtain⟨rfl,_,rfl⟩:=eg;have hcell:wA.cell? ⟨g,l.length - 1,none⟩=some (.int .i64 (l.getLast C)):=by
     rw [G.out.cellAt _ (by omega)];have:l.length - 1<l.length:=by omega
     simp [iM,List.getLast_eq_getElem]
    have N:Hid (l.getLast?=some (l.getLast C)):=List.getLast?_eq_some_getLast C;generalize l.getLast C=y at*;have q3:(0:Int)<=(l.length:Int) - 1:=by omega
    have q7:(1:Int)<=(l.length:Int):=by omega
    have q4:(l.length:Int) - 1<l.length:=by omega
    have q5:((l.length:Int) - 1).toNat=l.length - 1:=by omega
    have q6:IntKind.i64.wrap ((l.length:Int) - 1)=(l.length:Int) - 1:=by rw [IntKind.wrap_i64];omega
    clear C;by_cases B:t=y
    ·have qn:(t !=y)=false:=by simp [B]
     have D:Hid (jV ((byt s).drop k)=none):=by
      unfold Hid;rw [r.out,N.out,if_neg (by simp [B])]
     clear B r F N;refine pG 13 (by kernel_rfl) (by kernel_rfl) ?_;simp only [List.take_succ_cons,List.take_zero,List.drop_succ_cons,List.drop_zero];iterate 3 (refine mO (by rfl) (fun K hK=>?_);go_simp;refine hK _ ?_;clear hK K)
     iterate 9 (refine mO (by rfl) (fun K hK=>?_);go_simp;refine hK _ ?_;clear hK K)
     refine mO (by rfl) (fun K hK=>?_);go_simp;refine hK _ ?_;clear hK K
     refine vu ?_;go_wp2_with (go_at_call 141;refine(jL _).mono ?_;rintro e Y ⟨rfl,rfl⟩)
     exact⟨rfl,Or.inl ⟨D.out,rfl,ip M.out.base (iz A.out.base)⟩⟩
    ·have qn:(t !=y)=true:=by simp [B]
     have D:Hid (lf (m - (j+1)) (l++List.replicate a t) ((byt s).drop k2)=jV ((byt s).drop k)):=by
      unfold Hid;rw [r.out,N.out,if_pos (by simp;exact fun e=>B e.symm)];rfl
     clear B r F N;refine pG 13 (by kernel_rfl) (by kernel_rfl) ?_;simp only [List.take_succ_cons,List.take_zero,List.drop_succ_cons,List.drop_zero];iterate 3 (refine mO (by rfl) (fun K hK=>?_);go_simp;refine hK _ ?_;clear hK K)
     iterate 9 (refine mO (by rfl) (fun K hK=>?_);go_simp;refine hK _ ?_;clear hK K)
     refine mO (by rfl) (fun K hK=>?_);go_simp;refine hK _ ?_;clear hK K
     refine vu ?_;go_wp2_with (first | (go_at_call 141;refine(j4 _).mono ?_;rintro e Y ⟨⟨v7,rfl⟩,rfl⟩) | (go_at_call 102;refine ah.out.mono ?_;rintro e p ⟨sv,rfl,f,E,I,⟨z1,z2,z3,rfl⟩⟩))
     have U:=il f;have P:=il (an.out _ _ f E I);clear f E I;go_wp2_with fail
     go_roundw
     case rel=>exact⟨j+1,l++List.replicate a t,k2,by omega,by first | rfl | go_num,ad.out,ag,P,U,D⟩
     case measure=>simp [intOf];omega
  ·have q1:¬(j:Int)<m:=by omega
   have ej:m - j=0:=by omega
   have X:Hid (jV ((byt s).drop k)=some (l,(byt s).drop u)):=by unfold Hid;rw [<-L.out,ej,lf]
   clear ej;go_wp2_with fail
   go_ret;exact Or.inr ⟨l,_,_,u,X.out,rfl,⟨au,z.out⟩,M.out.trans q.out,rfl⟩
theorem Et(c:Nat)(hc:c<4294967296):bits .and .u32 (c:Int) 1=((c % 2:Nat):Int):=by
 have:=u32_and_nat c 1 hc (by decide);rw [nat_mask1]at this;exact this
theorem Dz(c:Nat)(hc:c<4294967296):bits .xor .u32 (c:Int) 3988292384=((c ^^^ 3988292384:Nat):Int):=u32_xor_nat c 3988292384 hc (by decide)
theorem Eo(c:Nat)(hc:c<4294967296)(w:World):Calls Tryz.prog 170 #[.int .u32 c] w fun e w'=>e= .returned (.int .u32 (shN c))/\w'=w:=by
 have b:=Et c hc;have f:=Dz (c / 2) (by omega);by_cases h:c % 2=1
 ·have a:Hid (shN c=(c / 2) ^^^ 3988292384):=by unfold Hid shN;rw [if_pos h]
  rw [h]at b;go_enter Tryz.func170,Tryz.ntmps170
  go_wp2_with fail
  go_ret;refine⟨?_,rfl⟩;have e:((c:Int) / 2)=((c / 2:Nat):Int):=by omega
  rw [a.out,e,f];rfl
 ·have a:Hid (shN c=c / 2):=by unfold Hid shN;rw [if_neg h]
  have d:c % 2=0:=by omega
  rw [d]at b;go_enter Tryz.func170,Tryz.ntmps170
  go_wp2_with fail
  go_ret;refine⟨?_,rfl⟩;rw [a.out];have e:((c:Int) / 2)=((c / 2:Nat):Int):=by omega
  rw [e];rfl
theorem uz(s:ByteArray)(w:World)(hs:s.size<=9223372036854775806):Calls Tryz.prog 135 #[.string s] w fun e w'=>e= .returned (.int .u32 (lq (byt s)))/\ju w' w:=by
 go_enter Tryz.func135,Tryz.ntmps135
 go_wp2_with fail
 go_loopw [3,7] (fun cv i w'=>∃ (k:Nat) (c:Nat),k<=s.size/\cv= .int .u32 c/\i= .int .i64 k/\c<4294967296/\Hid (c=rQ 4294967295 ((byt s).take k))/\Hid (ju w' w)) (fun _ i _=>s.size - (intOf i).toNat)
 case atStart=>exact⟨0,4294967295,Nat.zero_le _,rfl,rfl,by decide,il rfl,il (jr _)⟩
 case round=>
  obtain⟨k,c,hk,rfl,rfl,hc,l,h⟩:=hrel;obtain⟨b,C⟩:∃ b,b=wr:=⟨_,rfl⟩;subst C;by_cases t:k<s.size
  ·have y:(k:Int)<s.size:=by omega
   have hb:=s[k].toNat_lt;have u:=u32_xor_nat c s[k].toNat hc (by omega);have D:c ^^^ s[k].toNat<4294967296:=Nat.xor_lt_two_pow (n:=32) hc (by omega);have HX:Hid (rQ 4294967295 ((byt s).take (k+1))=shK 8 (c ^^^ s[k].toNat)):=by
    unfold Hid;have r:k<(byt s).length:=by rw [iT];exact t
    have o:=mt s k t;rw [List.getElem?_eq_getElem r]at o;rw [<-List.take_append_getElem r,ry,<-l.out,Option.some.inj o];rfl
   generalize c ^^^ s[k].toNat=d at*;clear l;have A:=h;clear h;go_wp2_with fail
   go_loopw [3,16] (fun cv i w'=>∃ (j:Nat) (a:Nat),j<=8/\cv= .int .u32 a/\i= .int .i64 j/\a<4294967296/\Hid (a=shK j d)/\Hid (w'=b)) (fun _ i _=>8 - (intOf i).toNat)
   case atStart=>exact⟨0,d,Nat.zero_le _,rfl,rfl,D,il rfl,il rfl⟩
   case round=>
    obtain⟨j,a,hj,rfl,rfl,f,p,q⟩:=hrel;rw [q.out];clear q;by_cases hj8:j<8
    ·have B:(j:Int)<8:=by omega
     have F:Hid (shN a=shK (j+1) d):=by
      unfold Hid;rw [p.out,zE];rfl
     have z:=il (BO f);have E:=il (Eo a f b);go_wp2_with (go_at_call 170;refine E.out.mono ?_;rintro e w6 ⟨rfl,rfl⟩)
     go_roundw
     case rel=>exact⟨j+1,shN a,by omega,rfl,by first | rfl | (congr 1),z.out,F,by first | exact il rfl | exact il trivial⟩
     case measure=>simp [intOf];omega
    ·have B:¬(j:Int)<8:=by omega
     have v:j=8:=by omega
     subst v;go_wp2_with fail
     go_roundw
     case rel=>exact⟨k+1,a,by omega,rfl,by first | rfl | (congr 1),f,il (by rw [HX.out];exact p.out),A⟩
     case measure=>simp [intOf];omega
  ·have y:¬(k:Int)<s.size:=by omega
   have u:=u32_xor_nat 4294967295 c (by decide) hc;have m:k=s.size:=by omega
   have x:Hid (lq (byt s)=4294967295 ^^^ c):=by
    unfold Hid lq;rw [l.out,m,<-iT,List.take_length]
   clear m;go_wp2_with fail
   go_ret;refine⟨?_,h.out⟩;rw [x.out,<-u];rfl
end
end Go.Proofs.YtklenjmfalljgabGreatDoor
