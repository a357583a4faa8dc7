/- The texts Rdc Rdd Rde Rdf Rdg Wrt2. -/
import Derived.Test.YtklenjmfalljgabGreatDoorM02
import Derived.Test.YtklenjmfalljgabGreatDoorM17
import Derived.Test.YtklenjmfalljgabGreatDoorM18
import Derived.Deep.DeepMust
import Derived.Deep.RegionHeld3
namespace Go.Proofs.YtklenjmfalljgabGreatDoor
set_option maxRecDepth 100000
set_option maxHeartbeats 8000000
section
open Go.RowKit
attribute [local go_sem] Go.World.cell?_alloc_some
theorem BP(l:List Nat):∀ (c a x:Nat) (r:List Nat),a<2 ^ c->rdN c a l=some (x,r)->x<18446744073709551616:=by
 induction l with
 | nil=>intro c a x r _ h;cases h
 | cons b l ih=>
  intro c a x r e h;rw [rdN]at h;split at h
  ·rename_i h1
   have d:=oD a b c e h1.2 h1.1;split at h
   ·split at h
    ·simp only [Option.some.injEq,Prod.mk.injEq]at h;rw [<-h.1];exact d.1
    ·cases h
   ·exact ih _ _ _ _ d.2 h
  ·cases h
theorem kP(W w:World)(b k:Nat)(s:ByteArray)(h:RdS W w b s k)(q:s.size<=9223372036854775806):
  Calls Tryz.prog 175 #[pt b] w (Rd W b s (fun _ x v=>v= .int .i64 x) (rdWhole ((byt s).drop k))):=by
 have m:=ij (sH W w b k s h q);have p:pt b= .pointer (some ⟨b,0,none⟩):=rfl;rw [p]at*;clear h;go_enter Tryz.func175,Tryz.ntmps175
 go_wp2_with fail
 refine m.out.mono ?_;rintro e w1 (⟨a,rfl,o⟩ | ⟨n,r,v,k1,a,rfl,rfl,d,f⟩)
 ·have c:Hid (rdWhole ((byt s).drop k)=none):=by unfold Hid rdWhole;rw [a]
  clear a;go_wp2_with fail
  exact⟨rfl,Or.inl ⟨c.out,rfl,o⟩⟩
 ·have i:=ij d;have l:=ij f;by_cases j:n<=9223372036854775807
  ·have c:Hid (rdWhole ((byt s).drop k)=some ((n:Int),r)):=by unfold Hid rdWhole;rw [a];simp only;rw [if_pos j]
   have q1:(n:Int)<=9223372036854775807:=by omega
   clear a d f;go_wp2_with (go_at_call 141;refine(jd _).mono ?_;rintro e t ⟨⟨v7,rfl⟩,rfl⟩)
   go_ret;exact Or.inr ⟨(n:Int),r,_,k1,c.out,rfl,rfl,i.out,l.out⟩
  ·have c:Hid (rdWhole ((byt s).drop k)=none):=by unfold Hid rdWhole;rw [a];simp only;rw [if_neg j]
   have qd:decide ((n:Int)<=9223372036854775807)=false:=by simp;omega
   clear a d f;go_wp2_with (go_at_call 141;refine(i7 _).mono ?_;rintro e t ⟨rfl,rfl⟩)
   exact⟨rfl,Or.inl ⟨c.out,rfl,i.out.base⟩⟩
theorem Bo(n:Nat)(hn:n<18446744073709551616)(h:n % 2=1):wrap64 (bits .xor .u64 IntKind.u64.max ((n:Int) / 2))=zag n:=by
 have b:IntKind.u64.max=((18446744073709551615:Nat):Int):=rfl;have e:((n:Int) / 2)=((n / 2:Nat):Int):=by omega
 rw [e,b,u64_xor_nat _ _ (by decide) (by omega)];have:=sE 64 (n / 2) (by omega);have a:(2:Nat) ^ 64 - 1=18446744073709551615:=by decide
 rw [a]at this;rw [this];unfold zag;rw [if_pos h];simp only [wrap64];omega
theorem zj(W w:World)(b k:Nat)(s:ByteArray)(h:RdS W w b s k)(z:s.size<=9223372036854775806):
  Calls Tryz.prog 193 #[pt b] w (Rd W b s (fun _ x v=>v= .int .i64 x) (rdSigned ((byt s).drop k))):=by
 have p:=ij (sH W w b k s h z);have y:pt b= .pointer (some ⟨b,0,none⟩):=rfl;rw [y]at*;clear h;go_enter Tryz.func193,Tryz.ntmps193
 go_wp2_with fail
 refine p.out.mono ?_;rintro e w1 (⟨a,rfl,u⟩ | ⟨n,r,v,k1,a,rfl,rfl,j,m⟩)
 ·have c:Hid (rdSigned ((byt s).drop k)=none):=by unfold Hid rdSigned;rw [a]
  clear a;go_wp2_with fail
  exact⟨rfl,Or.inl ⟨c.out,rfl,u⟩⟩
 ·have i:=ij j;have f:=ij m;have o:=BP _ 0 0 n r (by simp) a;have c:Hid (rdSigned ((byt s).drop k)=some (zag n,r)):=by unfold Hid rdSigned;rw [a]
  clear a j m;have l:bits .and .u64 (n:Int) 1=((n % 2:Nat):Int):=by
   have:=u64_and_nat n 1 o (by decide);rw [nat_mask1]at this;exact this
  by_cases d:n % 2=1
  ·rw [d]at l;have A:=Bo n o d;go_wp2_with fail
   go_ret;exact Or.inr ⟨zag n,r,_,k1,c.out,rfl,by first | rfl | (rw [<-A];rfl),i.out,f.out⟩
  ·have t:n % 2=0:=by omega
   rw [t]at l;have q:Hid (zag n=((n / 2:Nat):Int)):=by unfold Hid zag;rw [if_neg d]
   go_wp2_with fail
   go_ret;exact Or.inr ⟨zag n,r,_,k1,c.out,rfl,by rw [q.out];rfl,i.out,f.out⟩
theorem ru(W w:World)(b k:Nat)(s:ByteArray)(h:RdS W w b s k)(t:s.size<=9223372036854775806)(m:Int):
  Calls Tryz.prog 172 #[pt b,.int .i64 m] w (Rd W b s (fun _ x v=>v= .int .i64 x) (rdMost m ((byt s).drop k))):=by
 have o:=ij (kP W w b k s h t);have q:pt b= .pointer (some ⟨b,0,none⟩):=rfl;rw [q]at*;clear h;go_enter Tryz.func172,Tryz.ntmps172
 go_wp2_with fail
 refine o.out.mono ?_;rintro e w1 (⟨a,rfl,p⟩ | ⟨n,r,v,k1,a,rfl,rfl,d,f⟩)
 ·have c:Hid (rdMost m ((byt s).drop k)=none):=by unfold Hid rdMost;rw [a]
  clear a;go_wp2_with fail
  exact⟨rfl,Or.inl ⟨c.out,rfl,p⟩⟩
 ·have i:=ij d;have l:=ij f;by_cases j:n<=m
  ·have c:Hid (rdMost m ((byt s).drop k)=some (n,r)):=by unfold Hid rdMost;rw [a];simp only;rw [if_pos j]
   clear a d f;go_wp2_with (go_at_call 141;refine(jd _).mono ?_;rintro e u ⟨⟨v7,rfl⟩,rfl⟩)
   go_ret;exact Or.inr ⟨n,r,_,k1,c.out,rfl,rfl,i.out,l.out⟩
  ·have c:Hid (rdMost m ((byt s).drop k)=none):=by unfold Hid rdMost;rw [a];simp only;rw [if_neg j]
   have qd:decide (n<=m)=false:=by simp;omega
   clear a d f;go_wp2_with (go_at_call 141;refine(i7 _).mono ?_;rintro e u ⟨rfl,rfl⟩)
   exact⟨rfl,Or.inl ⟨c.out,rfl,i.out.base⟩⟩
structure InS(W w:World)(b:Nat)(s:ByteArray)(k T c d:Nat)(vs us:Array Value):Prop where
 rd:RdS W w b s k
 var:w.heap[c]?=some (.cells vs T (0,0))
 res:w.heap[d]?=some (.cells us T (0,0))
 cb:c≠b
 db:d≠b
 cd:c≠d
 lc:W.heap.size<=c
 ld:W.heap.size<=d
theorem InS.call{W w w':World}{b k k' T c d:Nat}{s:ByteArray}{vs us:Array Value}(h:InS W w b s k T c d vs us)(h':RdS w w' b s k'):InS W w' b s k' T c d vs us:=
 ⟨h.rd.trans h',by rw [h'.base.block c (Array.getElem?_eq_some_iff.1 h.var).1 (by simpa using h.cb)];exact h.var,
  by rw [h'.base.block d (Array.getElem?_eq_some_iff.1 h.res).1 (by simpa using h.db)];exact h.res,h.cb,h.db,h.cd,h.lc,h.ld⟩
theorem InS.cell{W w:World}{b k T c d:Nat}{s:ByteArray}{a e:Array Value}(h:InS W w b s k T c d a e)(o:Nat):w.cell? ⟨c,o,none⟩=a[o]?:=by
 have:=h.var;simp [World.cell?,this]
theorem InS.free{W w:World}{b k T c d:Nat}{s:ByteArray}{e a:Array Value}(h:InS W w b s k T c d e a)(o:Nat):w.frozen? ⟨c,o,none⟩=false:=by
 have:=h.var;simp [World.frozen?,this]
theorem InS.rcell{W w:World}{b k T c d:Nat}{s:ByteArray}{e a:Array Value}(h:InS W w b s k T c d e a)(o:Nat):w.cell? ⟨d,o,none⟩=a[o]?:=by
 have:=h.res;simp [World.cell?,this]
theorem InS.rfree{W w:World}{b k T c d:Nat}{s:ByteArray}{e a:Array Value}(h:InS W w b s k T c d e a)(o:Nat):w.frozen? ⟨d,o,none⟩=false:=by
 have:=h.res;simp [World.frozen?,this]
theorem InS.set{W w:World}{b k T c d:Nat}{s:ByteArray}{e a:Array Value}(h:InS W w b s k T c d e a)(o:Nat)(v:Value):InS W (w.setCell ⟨c,o,none⟩ v) b s k T c d (e.setIfInBounds o v) a:=by
 refine⟨⟨?_,iD h.rd.base h.lc,h.rd.le⟩,?_,?_,h.cb,h.db,h.cd,h.lc,h.ld⟩
 ·rw [heap_setCell_other _ _ _ _ (Ne.symm h.cb)];exact h.rd.blk
 ·rw [heap_setCell_same _ c o _ _ _ h.var]
 ·rw [heap_setCell_other _ _ _ _ (Ne.symm h.cd)];exact h.res
theorem InS.rset{W w:World}{b k T c d:Nat}{s:ByteArray}{e a:Array Value}(h:InS W w b s k T c d e a)(o:Nat)(v:Value):InS W (w.setCell ⟨d,o,none⟩ v) b s k T c d e (a.setIfInBounds o v):=by
 refine⟨⟨?_,iD h.rd.base h.ld,h.rd.le⟩,?_,?_,h.cb,h.db,h.cd,h.lc,h.ld⟩
 ·rw [heap_setCell_other _ _ _ _ (Ne.symm h.db)];exact h.rd.blk
 ·rw [heap_setCell_other _ _ _ _ h.cd];exact h.var
 ·rw [heap_setCell_same _ d o _ _ _ h.res]
theorem InS.start{W w:World}{b k T:Nat}{s:ByteArray}(h:RdS W w b s k)(a c:Array Value):InS W ((w.alloc (.cells a T)).alloc (.cells c T)) b s k T (w.heap.size+1) w.heap.size c a:=by
 have hb:=h.lt;have d:=h.base.size;refine⟨h.grown (iq (iq (ir _ _))),?_,?_,by omega,by omega,by omega,by omega,d⟩
 ·have:=heap_alloc_new (w.alloc (.cells a T)) (.cells c T);simpa using this
 ·rw [Below.heap_alloc _ _ _ (by simp)];exact heap_alloc_new _ _
def insA(i:Ins):Value:= .agg #[.int .i64 i.op,.int .i64 i.a,.int .i64 i.b,.int .i64 i.n]
theorem Cd(W w:World)(b k:Nat)(s:ByteArray)(h:RdS W w b s k)(A:s.size<=9223372036854775806):
  Calls Tryz.prog 186 #[pt b] w (Rd W b s (fun _ x v=>v=insA x) (rdIns ((byt s).drop k))):=by
 have E:=ij h;have S:pt b= .pointer (some ⟨b,0,none⟩):=rfl;rw [S]at*;clear h;go_enter Tryz.func186,Tryz.ntmps186
 go_wp2_with fail
 have q:=InS.start (T:=65) E.out #[.int .i64 0,.int .i64 0,.int .i64 0,.int .i64 0] #[.int .i64 0,.int .i64 0,.int .i64 0,.int .i64 0];generalize (w.alloc (.cells #[.int .i64 0,.int .i64 0,.int .i64 0,.int .i64 0] 65)).alloc (.cells #[.int .i64 0,.int .i64 0,.int .i64 0,.int .i64 0] 65)=w1 at q ⊢;refine(kP w1 w1 b k s q.rd.self A).mono ?_;rintro e x1 (⟨d,rfl,l⟩ | ⟨o,y,v,k1,d,rfl,rfl,j,rfl⟩)
 ·have p:Hid (rdIns ((byt s).drop k)=none):=by unfold Hid rdIns;rw [d]
  have m:=ij (il q.rd.base l);clear d l q;go_wp2_with fail
  exact⟨rfl,Or.inl ⟨p.out,rfl,m.out⟩⟩
 have z:=ij d;have I:=q.call j;have f:=ij I;have c1:x1.cell? ⟨w.heap.size+1,0,none⟩=some (.int .i64 0):=by simpa using I.cell 0
 have f1:=I.free 0;clear q I j d;go_wp2_with fail
 have r:=f.out.set 0 (.int .i64 o);generalize x1.setCell ⟨w.heap.size+1,0,none⟩ (.int .i64 o)=y1 at r ⊢;clear f c1 f1;refine(kP y1 y1 b k1 s r.rd.self A).mono ?_;rintro e x2 (⟨d,rfl,l⟩ | ⟨a,y,v,k2,d,rfl,rfl,j,rfl⟩)
 ·have p:Hid (rdIns ((byt s).drop k)=none):=by unfold Hid rdIns;rw [z.out];simp only;rw [d]
  have m:=ij (il r.rd.base l);clear d l r;go_wp2_with fail
  exact⟨rfl,Or.inl ⟨p.out,rfl,m.out⟩⟩
 have B:=ij d;have I:=r.call j;have f:=ij I;have c1:x2.cell? ⟨w.heap.size+1,1,none⟩=some (.int .i64 0):=by simpa using I.cell 1
 have f1:=I.free 1;clear r I j d;go_wp2_with fail
 have t:=f.out.set 1 (.int .i64 a);generalize x2.setCell ⟨w.heap.size+1,1,none⟩ (.int .i64 a)=y2 at t ⊢;clear f c1 f1;refine(kP y2 y2 b k2 s t.rd.self A).mono ?_;rintro e x3 (⟨d,rfl,l⟩ | ⟨c,y,v,U,d,rfl,rfl,j,rfl⟩)
 ·have p:Hid (rdIns ((byt s).drop k)=none):=by unfold Hid rdIns;rw [z.out];simp only;rw [B.out];simp only;rw [d]
  have m:=ij (il t.rd.base l);clear d l t;go_wp2_with fail
  exact⟨rfl,Or.inl ⟨p.out,rfl,m.out⟩⟩
 have D:=ij d;have I:=t.call j;have f:=ij I;have c1:x3.cell? ⟨w.heap.size+1,2,none⟩=some (.int .i64 0):=by simpa using I.cell 2
 have f1:=I.free 2;clear t I j d;go_wp2_with fail
 have u:=f.out.set 2 (.int .i64 c);generalize x3.setCell ⟨w.heap.size+1,2,none⟩ (.int .i64 c)=y3 at u ⊢;clear f c1 f1;refine(zj y3 y3 b U s u.rd.self A).mono ?_;rintro e i (⟨d,rfl,l⟩ | ⟨n,y,v,V,d,rfl,rfl,j,rfl⟩)
 ·have p:Hid (rdIns ((byt s).drop k)=none):=by unfold Hid rdIns;rw [z.out];simp only;rw [B.out];simp only;rw [D.out];simp only;rw [d]
  have m:=ij (il u.rd.base l);clear d l u;go_wp2_with fail
  exact⟨rfl,Or.inl ⟨p.out,rfl,m.out⟩⟩
 have F:=ij d;have I:=u.call j;have f:=ij I;have c1:i.cell? ⟨w.heap.size+1,3,none⟩=some (.int .i64 0):=by simpa using I.cell 3
 have f1:=I.free 3;clear u I j d;have I:=f.out.set 3 (.int .i64 n);have G:(i.setCell ⟨w.heap.size+1,3,none⟩ (.int .i64 n)).cell? ⟨w.heap.size+1,0,none⟩=some (.int .i64 o):=by simpa using I.cell 0
 have Q:i.frozen? ⟨w.heap.size,0,none⟩=false:=f.out.rfree 0;have X:(i.setCell ⟨w.heap.size+1,3,none⟩ (.int .i64 n)).cell? ⟨w.heap.size,0,none⟩=some (.int .i64 0):=by simpa using I.rcell 0
 have H:(i.setCell ⟨w.heap.size+1,3,none⟩ (.int .i64 n)).cell? ⟨w.heap.size+1,1,none⟩=some (.int .i64 a):=by simpa using I.cell 1
 have g1:i.frozen? ⟨w.heap.size,1,none⟩=false:=f.out.rfree 1;have y:(i.setCell ⟨w.heap.size+1,3,none⟩ (.int .i64 n)).cell? ⟨w.heap.size,1,none⟩=some (.int .i64 0):=by simpa using I.rcell 1
 have K:(i.setCell ⟨w.heap.size+1,3,none⟩ (.int .i64 n)).cell? ⟨w.heap.size+1,2,none⟩=some (.int .i64 c):=by simpa using I.cell 2
 have g2:i.frozen? ⟨w.heap.size,2,none⟩=false:=f.out.rfree 2;have Y:(i.setCell ⟨w.heap.size+1,3,none⟩ (.int .i64 n)).cell? ⟨w.heap.size,2,none⟩=some (.int .i64 0):=by simpa using I.rcell 2
 have L:(i.setCell ⟨w.heap.size+1,3,none⟩ (.int .i64 n)).cell? ⟨w.heap.size+1,3,none⟩=some (.int .i64 n):=by simpa using I.cell 3
 have R:i.frozen? ⟨w.heap.size,3,none⟩=false:=f.out.rfree 3;have Z:(i.setCell ⟨w.heap.size+1,3,none⟩ (.int .i64 n)).cell? ⟨w.heap.size,3,none⟩=some (.int .i64 0):=by simpa using I.rcell 3
 have C:=ij I;clear I;go_wp2_with fail
 have J:=((((C.out.rset 0 (.int .i64 o)).rset 1 (.int .i64 a)).rset 2 (.int .i64 c)).rset 3 (.int .i64 n));clear c1 f1 f C G Q X H g1 y K g2 Y L R Z;generalize (((((i.setCell ⟨w.heap.size+1,3,none⟩ (.int .i64 n)).setCell ⟨w.heap.size,0,none⟩ (.int .i64 o)).setCell ⟨w.heap.size,1,none⟩ (.int .i64 a)).setCell ⟨w.heap.size,2,none⟩ (.int .i64 c)).setCell ⟨w.heap.size,3,none⟩ (.int .i64 n))=wz at J ⊢;have M:wz.cell? ⟨w.heap.size,0,none⟩=some (.int .i64 o):=by simpa using J.rcell 0
 have N:wz.cell? ⟨w.heap.size,1,none⟩=some (.int .i64 a):=by simpa using J.rcell 1
 have O:wz.cell? ⟨w.heap.size,2,none⟩=some (.int .i64 c):=by simpa using J.rcell 2
 have P:wz.cell? ⟨w.heap.size,3,none⟩=some (.int .i64 n):=by simpa using J.rcell 3
 refine bodyPost_ret (v:= .agg #[.int .i64 o,.int .i64 a,.int .i64 c,.int .i64 n]) ?_ rfl ?_
 ·simp [results,Tryz.results186,go_sem,M,N,O,P]
 ·refine Or.inr ⟨⟨o,a,c,n⟩,_,_,V,?_,rfl,rfl,J.rd,rfl⟩;unfold rdIns;rw [z.out];simp only;rw [B.out];simp only;rw [D.out];simp only;rw [F.out]
def verA(v:Int × Int × Int):Value:= .agg #[.int .i64 v.1,.int .i64 v.2.1,.int .i64 v.2.2]
theorem Cj(W w:World)(b k:Nat)(s:ByteArray)(h:RdS W w b s k)(u:s.size<=9223372036854775806):
  Calls Tryz.prog 139 #[pt b] w (Rd W b s (fun _ x v=>v=verA x) (rdVer ((byt s).drop k))):=by
 have A:=ij h;have L:pt b= .pointer (some ⟨b,0,none⟩):=rfl;rw [L]at*;clear h;go_enter Tryz.func139,Tryz.ntmps139
 go_wp2_with fail
 have l:=InS.start (T:=26) A.out #[.int .i64 0,.int .i64 0,.int .i64 0] #[.int .i64 0,.int .i64 0,.int .i64 0];generalize (w.alloc (.cells #[.int .i64 0,.int .i64 0,.int .i64 0] 26)).alloc (.cells #[.int .i64 0,.int .i64 0,.int .i64 0] 26)=w1 at l ⊢;refine(kP w1 w1 b k s l.rd.self u).mono ?_;rintro e x1 (⟨d,rfl,j⟩ | ⟨o,r,v,k1,d,rfl,rfl,i,rfl⟩)
 ·have q:Hid (rdVer ((byt s).drop k)=none):=by unfold Hid rdVer;rw [d]
  have p:=ij (il l.rd.base j);clear d j l;go_wp2_with fail
  exact⟨rfl,Or.inl ⟨q.out,rfl,p.out⟩⟩
 have t:=ij d;have I:=l.call i;have f:=ij I;have c1:x1.cell? ⟨w.heap.size+1,0,none⟩=some (.int .i64 0):=by simpa using I.cell 0
 have f1:=I.free 0;clear l I i d;go_wp2_with fail
 have m:=f.out.set 0 (.int .i64 o);generalize x1.setCell ⟨w.heap.size+1,0,none⟩ (.int .i64 o)=y1 at m ⊢;clear f c1 f1;refine(kP y1 y1 b k1 s m.rd.self u).mono ?_;rintro e x2 (⟨d,rfl,j⟩ | ⟨a,r,v,k2,d,rfl,rfl,i,rfl⟩)
 ·have q:Hid (rdVer ((byt s).drop k)=none):=by unfold Hid rdVer;rw [t.out];simp only;rw [d]
  have p:=ij (il m.rd.base j);clear d j m;go_wp2_with fail
  exact⟨rfl,Or.inl ⟨q.out,rfl,p.out⟩⟩
 have z:=ij d;have I:=m.call i;have f:=ij I;have c1:x2.cell? ⟨w.heap.size+1,1,none⟩=some (.int .i64 0):=by simpa using I.cell 1
 have f1:=I.free 1;clear m I i d;go_wp2_with fail
 have n:=f.out.set 1 (.int .i64 a);generalize x2.setCell ⟨w.heap.size+1,1,none⟩ (.int .i64 a)=y2 at n ⊢;clear f c1 f1;refine(kP y2 y2 b k2 s n.rd.self u).mono ?_;rintro e x3 (⟨d,rfl,j⟩ | ⟨c,r,v,M,d,rfl,rfl,i,rfl⟩)
 ·have q:Hid (rdVer ((byt s).drop k)=none):=by unfold Hid rdVer;rw [t.out];simp only;rw [z.out];simp only;rw [d]
  have p:=ij (il n.rd.base j);clear d j n;go_wp2_with fail
  exact⟨rfl,Or.inl ⟨q.out,rfl,p.out⟩⟩
 have B:=ij d;have I:=n.call i;have f:=ij I;have c1:x3.cell? ⟨w.heap.size+1,2,none⟩=some (.int .i64 0):=by simpa using I.cell 2
 have f1:=I.free 2;clear n I i d;have I:=f.out.set 2 (.int .i64 c);have C:(x3.setCell ⟨w.heap.size+1,2,none⟩ (.int .i64 c)).cell? ⟨w.heap.size+1,0,none⟩=some (.int .i64 o):=by simpa using I.cell 0
 have K:x3.frozen? ⟨w.heap.size,0,none⟩=false:=f.out.rfree 0;have N:(x3.setCell ⟨w.heap.size+1,2,none⟩ (.int .i64 c)).cell? ⟨w.heap.size,0,none⟩=some (.int .i64 0):=by simpa using I.rcell 0
 have D:(x3.setCell ⟨w.heap.size+1,2,none⟩ (.int .i64 c)).cell? ⟨w.heap.size+1,1,none⟩=some (.int .i64 a):=by simpa using I.cell 1
 have g1:x3.frozen? ⟨w.heap.size,1,none⟩=false:=f.out.rfree 1;have r:(x3.setCell ⟨w.heap.size+1,2,none⟩ (.int .i64 c)).cell? ⟨w.heap.size,1,none⟩=some (.int .i64 0):=by simpa using I.rcell 1
 have E:(x3.setCell ⟨w.heap.size+1,2,none⟩ (.int .i64 c)).cell? ⟨w.heap.size+1,2,none⟩=some (.int .i64 c):=by simpa using I.cell 2
 have g2:x3.frozen? ⟨w.heap.size,2,none⟩=false:=f.out.rfree 2;have O:(x3.setCell ⟨w.heap.size+1,2,none⟩ (.int .i64 c)).cell? ⟨w.heap.size,2,none⟩=some (.int .i64 0):=by simpa using I.rcell 2
 have y:=ij I;clear I;go_wp2_with fail
 have J:=(((y.out.rset 0 (.int .i64 o)).rset 1 (.int .i64 a)).rset 2 (.int .i64 c));clear c1 f1 f y C K N D g1 r E g2 O;generalize ((((x3.setCell ⟨w.heap.size+1,2,none⟩ (.int .i64 c)).setCell ⟨w.heap.size,0,none⟩ (.int .i64 o)).setCell ⟨w.heap.size,1,none⟩ (.int .i64 a)).setCell ⟨w.heap.size,2,none⟩ (.int .i64 c))=wz at J ⊢;have F:wz.cell? ⟨w.heap.size,0,none⟩=some (.int .i64 o):=by simpa using J.rcell 0
 have G:wz.cell? ⟨w.heap.size,1,none⟩=some (.int .i64 a):=by simpa using J.rcell 1
 have H:wz.cell? ⟨w.heap.size,2,none⟩=some (.int .i64 c):=by simpa using J.rcell 2
 refine bodyPost_ret (v:= .agg #[.int .i64 o,.int .i64 a,.int .i64 c]) ?_ rfl ?_
 ·simp [results,Tryz.results139,go_sem,F,G,H]
 ·refine Or.inr ⟨(o,a,c),_,_,M,?_,rfl,rfl,J.rd,rfl⟩;unfold rdVer;rw [t.out];simp only;rw [z.out];simp only;rw [B.out]
def rdRun(room:Int)(l:List Nat):Option ((Int × Int) × List Nat):=match rdWhole l with
 | none=>none
 | some (t,r)=>match rdMost room r with
  | none=>none
  | some (c,r')=>if 0<c then some ((t,c),r') else none
def runA(x:Int × Int):Value:= .agg #[.int .i64 x.1,.int .i64 x.2]
theorem Ch(W w:World)(b k:Nat)(s:ByteArray)(m:Int)(h:RdS W w b s k)(y:s.size<=9223372036854775806):
  Calls Tryz.prog 174 #[pt b,.int .i64 m] w (Rd W b s (fun _ x v=>v=runA x) (rdRun m ((byt s).drop k))):=by
 have z:=ij h;have F:pt b= .pointer (some ⟨b,0,none⟩):=rfl;rw [F]at*;clear h;go_enter Tryz.func174,Tryz.ntmps174
 go_wp2_with fail
 have f:=InS.start (T:=187) z.out #[.int .i64 0,.int .i64 0] #[.int .i64 0,.int .i64 0];generalize (w.alloc (.cells #[.int .i64 0,.int .i64 0] 187)).alloc (.cells #[.int .i64 0,.int .i64 0] 187)=w1 at f ⊢;refine(kP w1 w1 b k s f.rd.self y).mono ?_;rintro e x1 (⟨a,rfl,l⟩ | ⟨t,r,v,k1,a,rfl,rfl,j,rfl⟩)
 ·have p:Hid (rdRun m ((byt s).drop k)=none):=by unfold Hid rdRun;rw [a]
  have n:=ij (il f.rd.base l);clear a l f;go_wp2_with fail
  exact⟨rfl,Or.inl ⟨p.out,rfl,n.out⟩⟩
 have q:=ij a;have I:=f.call j;have d:=ij I;have c1:x1.cell? ⟨w.heap.size+1,0,none⟩=some (.int .i64 0):=by simpa using I.cell 0
 have f1:=I.free 0;clear f I j a;go_wp2_with fail
 have i:=d.out.set 0 (.int .i64 t);generalize x1.setCell ⟨w.heap.size+1,0,none⟩ (.int .i64 t)=y1 at i ⊢;clear d c1 f1;refine(ru y1 y1 b k1 s i.rd.self y m).mono ?_;rintro e x2 (⟨a,rfl,l⟩ | ⟨c,r,v,k2,a,rfl,rfl,j,rfl⟩)
 ·have p:Hid (rdRun m ((byt s).drop k)=none):=by unfold Hid rdRun;rw [q.out];simp only;rw [a]
  have n:=ij (il i.rd.base l);clear a l i;go_wp2_with fail
  exact⟨rfl,Or.inl ⟨p.out,rfl,n.out⟩⟩
 have u:=ij a;have I:=i.call j;have d:=ij I;have c1:x2.cell? ⟨w.heap.size+1,1,none⟩=some (.int .i64 0):=by simpa using I.cell 1
 have f1:=I.free 1;clear i I j a;have I:=d.out.set 1 (.int .i64 c);have A:(x2.setCell ⟨w.heap.size+1,1,none⟩ (.int .i64 c)).cell? ⟨w.heap.size+1,0,none⟩=some (.int .i64 t):=by simpa using I.cell 0
 have B:(x2.setCell ⟨w.heap.size+1,1,none⟩ (.int .i64 c)).cell? ⟨w.heap.size+1,1,none⟩=some (.int .i64 c):=by simpa using I.cell 1
 have E:x2.frozen? ⟨w.heap.size,0,none⟩=false:=d.out.rfree 0;have g1:x2.frozen? ⟨w.heap.size,1,none⟩=false:=d.out.rfree 1;have G:(x2.setCell ⟨w.heap.size+1,1,none⟩ (.int .i64 c)).cell? ⟨w.heap.size,0,none⟩=some (.int .i64 0):=by simpa using I.rcell 0
 have r:(x2.setCell ⟨w.heap.size+1,1,none⟩ (.int .i64 c)).cell? ⟨w.heap.size,1,none⟩=some (.int .i64 0):=by simpa using I.rcell 1
 have o:=ij I;clear I;by_cases hc:0<c
 ·go_wp2_with (go_at_call 141;refine(jd _).mono ?_;rintro e H ⟨⟨v7,rfl⟩,rfl⟩)
  have J:=(o.out.rset 0 (.int .i64 t)).rset 1 (.int .i64 c);clear c1 f1 d o A B E g1 G r;generalize (((x2.setCell ⟨w.heap.size+1,1,none⟩ (.int .i64 c)).setCell ⟨w.heap.size,0,none⟩ (.int .i64 t)).setCell ⟨w.heap.size,1,none⟩ (.int .i64 c))=wz at J ⊢;have C:wz.cell? ⟨w.heap.size,0,none⟩=some (.int .i64 t):=by simpa using J.rcell 0
  have D:wz.cell? ⟨w.heap.size,1,none⟩=some (.int .i64 c):=by simpa using J.rcell 1
  refine bodyPost_ret (v:= .agg #[.int .i64 t,.int .i64 c]) ?_ rfl ?_
  ·simp [results,Tryz.results174,go_sem,C,D]
  ·refine Or.inr ⟨(t,c),_,_,k2,?_,rfl,rfl,J.rd,rfl⟩;unfold rdRun;rw [q.out];simp only;rw [u.out];simp only;rw [if_pos hc]
 ·have qd:decide (0<c)=false:=by simp;omega
  go_wp2_with (go_at_call 141;refine(i7 _).mono ?_;rintro e H ⟨rfl,rfl⟩)
  refine⟨rfl,Or.inl ⟨?_,rfl,o.out.rd.base⟩⟩;unfold rdRun;rw [q.out];simp only;rw [u.out];simp only;rw [if_neg (by omega)]
def conts{α:Type}(c:List α)(res:Option (List α × List Nat)):Option (List α × List Nat):=match res with
 | some (xs,r)=>some (c++xs,r)
 | none=>none
theorem pS{α:Type}(a:Option (List α × List Nat)):conts [] a=a:=by
 unfold conts;cases a with
 | none=>rfl
 | some x=>rfl
theorem oA{α:Type}(P:List Nat->Option (α × List Nat))(c:List α)(l:List Nat):conts c (rdMany P 0 l)=some (c,l):=by simp [conts,rdMany]
theorem oz{α:Type}{P:List Nat->Option (α × List Nat)}{l r:List Nat}{x:α}(h:P l=some (x,r))(c:List α)(m:Nat):conts c (rdMany P (m+1) l)=conts (c++[x]) (rdMany P m r):=by
 rw [rdMany,h];simp only;cases rdMany P m r with
 | none=>rfl
 | some y=>simp [conts]
theorem oy{α:Type}{P:List Nat->Option (α × List Nat)}{l:List Nat}(h:P l=none)(c:List α)(m:Nat):conts c (rdMany P (m+1) l)=none:=by rw [rdMany,h];rfl
theorem rz{w w':World}{base:Nat}{e:TypeId}{size:Nat}{v:Value}{n b:Nat}{xs:List Value}(h:w.ownsRow base e size v n xs)(hg:w.grownBy w' (some b))(hb:b<base):w'.ownsRow base e size v n xs:=
 iC h hg (fun k e=>by simp only [Option.some.injEq]at e;omega)
theorem lH{l r:List Nat}{x:Int}(h:rdWhole l=some (x,r)):0<=x:=by
 unfold rdWhole at h;split at h
 ·split at h
  ·simp only [Option.some.injEq,Prod.mk.injEq]at h;omega
  ·cases h
 ·cases h
theorem kw{b x:Int}{l r:List Nat}(h:rdMost b l=some (x,r)):0<=x/\x<=b:=by
 unfold rdMost at h;split at h
 ·rename_i hw
  split at h
  ·simp only [Option.some.injEq,Prod.mk.injEq]at h;have:=lH hw;omega
  ·cases h
 ·cases h
theorem zu(W w:World)(b k:Nat)(s:ByteArray)(h:RdS W w b s k)(Q:s.size<=9223372036854775806):
  Calls Tryz.prog 173 #[pt b] w (Rd W b s (fun w' c v=>c.length<=16/\CodeRow w.heap.size w'.heap.size w' v c) (rdThread ((byt s).drop k))):=by
 obtain⟨i0,ab,af,ag,ah⟩:=info_parts su;have K:=ij (ru w w b k s h.self Q 16);have C:=ij h;have aa:=h.lt;have ad:pt b= .pointer (some ⟨b,0,none⟩):=rfl;rw [ad]at*;clear h;go_enter Tryz.func173,Tryz.ntmps173
 go_wp2_with fail
 refine K.out.mono ?_;rintro e w1 (⟨d,rfl,p⟩ | ⟨n,r1,v,k1,d,rfl,rfl,f,rfl⟩)
 ·have E:Hid (rdThread ((byt s).drop k)=none):=by unfold Hid rdThread;rw [d]
  have B:=ij (il C.out.base p);clear d p;go_wp2_with fail
  exact⟨rfl,Or.inl ⟨E.out,rfl,B.out⟩⟩
 obtain⟨N,h16⟩:=kw d;obtain⟨m,rfl⟩:=Int.eq_ofNat_of_zero_le N;have E:Hid (rdThread ((byt s).drop k)=rdMany rdIns m ((byt s).drop k1)):=by unfold Hid rdThread;rw [d];rfl
 have T:=ij f;clear d f N K;go_wp2_with fail
 go_loopw [3,6] (fun lv i w'=>∃ (j:Nat) (c:List Ins) (l:Nat),j<=m/\i= .int .i64 j/\Hid (c.length=j)/\Hid (RdS w w' b s l)/\Hid (w'.ownsRow w.heap.size 65 4 lv c.length (insCells c))/\Hid (conts c (rdMany rdIns (m - j) ((byt s).drop l))=rdThread ((byt s).drop k))) (fun _ i _=>m - (intOf i).toNat)
 case atStart=>exact⟨0,[],k1,Nat.zero_le _,rfl,ij rfl,T,ij ⟨rfl,Or.inl ⟨rfl,rfl⟩⟩,ij (by rw [E.out,pS];rfl)⟩
 case round=>
  obtain⟨j,c,l,hj,rfl,z,o,D,A⟩:=hrel;obtain⟨r,I⟩:∃ r,r=wr:=⟨_,rfl⟩;subst I;have I:w.heap.size<=r.heap.size:=o.out.base.size;by_cases hjm:j<m
  ·have q1:(j:Int)<m:=by omega
   have J:=ij (Cd r r b l s o.out.self Q);have y:m - j=(m - (j+1))+1:=by omega
   go_wp2_with fail
   refine J.out.mono ?_;rintro e w6 (⟨d,rfl,p⟩ | ⟨x,r1,v,k2,d,rfl,rfl,f,rfl⟩)
   ·have F:Hid (rdThread ((byt s).drop k)=none):=by unfold Hid;rw [<-A.out,y,oy d]
    have B:=ij (il C.out.base (il o.out.base p));clear d p y;go_wp2_with fail
    exact⟨rfl,Or.inl ⟨F.out,rfl,B.out⟩⟩
   have S:Hid (conts (c++[x]) (rdMany rdIns (m - (j+1)) ((byt s).drop k2))=rdThread ((byt s).drop k)):=by unfold Hid;rw [<-A.out,y,oz d]
   have U:=ij f;have u:=ij (rz D.out f.base aa);have hw6:w.heap.size<=w6.heap.size:=Nat.le_trans I f.base.size;obtain⟨x1,x2,x3,rfl⟩:=iw u.out;have ae:=iB u.out;subst ae;have hcl:c.length<=16:=by have:=z.out;omega
   have Y:c.length+1<=maxLen:=by unfold maxLen;omega
   clear d f y J;unfold insA;go_wp2_with (at_builtin;go_must (refine wpList_append_lies _ rfl _ _ _ rfl w.heap.size 65 i0 _ 4 32 Tryz.underlying66 ab af ag ah rfl (by omega) (.slice x1 c.length x3) c.length (insCells c) rfl (iG u.out) ⟨w6.heap.size,0,none⟩ 1 1 (insV x) rfl rfl (World.news_of_block (cs:= #[.int .i64 x.op,.int .i64 x.a,.int .i64 x.b,.int .i64 x.n]) (t:=65) (fr:=(0,0)) (heap_alloc_new w6 _)) (yp x) (by omega) Y (by omega) (by simp;omega) (w6.heap.size+1) (by simp) ?_);intro g6 V R P H Z ac)
   have L:Hid (RdS w R b s k2/\R.ownsRow w.heap.size 65 4 (.slice (some ⟨g6,0,none⟩) (c.length+1) V) (c++[x]).length (insCells (c++[x]))):=by
    have O:=iA u.out;have G:=(o.out.trans U.out);refine⟨⟨?_,?_,G.le⟩,?_⟩
    ·rw [H.block b (by simp;omega) (fun e=>by have:=O b e.symm;omega),Below.heap_alloc _ _ _ (by omega)];exact G.blk
    ·exact iZ (iq G.base) H (fun q e=>O q e)
    ·rw [ma];simpa using P
   clear P H Z ac;go_wp2_with fail
   go_roundw
   case rel=>exact⟨j+1,c++[x],k2,by omega,by first | rfl | go_num,ij (by simpa using z.out),ij L.out.1,ij L.out.2,S⟩
   case measure=>simp [intOf];omega
  ·have q1:¬(j:Int)<m:=by omega
   have M:m - j=0:=by omega
   have F:Hid (rdThread ((byt s).drop k)=some (c,(byt s).drop l)):=by unfold Hid;rw [<-A.out,M,oA]
   have X:Hid (c.length<=16):=by unfold Hid;have:=z.out;omega
   clear M;go_wp2_with fail
   go_ret;exact Or.inr ⟨c,_,_,l,F.out,rfl,⟨X.out,D.out,rx D.out⟩,C.out.trans o.out,rfl⟩
theorem wJ(W w:World)(b k:Nat)(s:ByteArray)(h:RdS W w b s k)(hs:s.size<=9223372036854775806):
  Calls Tryz.prog 137 #[pt b] w (Rd W b s (fun w' p v=>p.length<=4/\∃ tv,v= .agg #[tv]/\ThrAt (w.heap.size+2) w'.heap.size w' tv p) (rdProg ((byt s).drop k))):=by
 obtain⟨i1,aL,aQ,aR,aS⟩:=info_parts wh;have K:=ij h;have hbw:=h.lt;have aN:pt b= .pointer (some ⟨b,0,none⟩):=rfl;rw [aN]at*;clear h;go_enter Tryz.func137,Tryz.ntmps137
 go_wp2_with fail
 have C:=InS.start (T:=37) K.out.self #[.slice none 0 0] #[.slice none 0 0];generalize aw:(w.alloc (.cells #[.slice none 0 0] 37)).alloc (.cells #[.slice none 0 0] 37)=w1 at C ⊢;have aT:w.heap.size+2<=w1.heap.size:=by rw [<-aw];simp
 clear aw;refine(ru w1 w1 b k s C.rd.self hs 4).mono ?_;rintro e w2 (⟨l,rfl,F⟩ | ⟨n,r1,v,k1,l,rfl,rfl,z,rfl⟩)
 ·have Y:Hid (rdProg ((byt s).drop k)=none):=by unfold Hid rdProg;rw [l]
  have V:=ij (il K.out.base (il C.rd.base F));clear l F C;go_wp2_with fail
  exact⟨rfl,Or.inl ⟨Y.out,rfl,V.out⟩⟩
 obtain⟨h0,h4⟩:=kw l;obtain⟨m,rfl⟩:=Int.eq_ofNat_of_zero_le h0;have Y:Hid (rdProg ((byt s).drop k)=rdMany rdThread m ((byt s).drop k1)):=by unfold Hid rdProg;rw [l];rfl
 have HI:=ij (C.call z);have aU:w.heap.size+2<=w2.heap.size:=Nat.le_trans aT z.base.size;clear l z h0 C;go_wp2_with fail
 go_loopw [6] (fun i w'=>∃ (j:Nat) (p:List (List Ins)) (tv:Value) (D:Nat),j<=m/\i= .int .i64 j/\Hid (p.length=j)/\Hid (InS w w' b s D 37 (w.heap.size+1) w.heap.size #[tv] #[.slice none 0 0])/\Hid (ThrAt (w.heap.size+2) w'.heap.size w' tv p)/\w.heap.size+2<=w'.heap.size/\Hid (conts p (rdMany rdThread (m - j) ((byt s).drop D))=rdProg ((byt s).drop k))) (fun i _=>m - (intOf i).toNat)
 case atStart=>exact⟨0,[],.slice none 0 0,k1,Nat.zero_le _,rfl,ij rfl,HI,ij ⟨[],⟨rfl,Or.inl ⟨rfl,rfl⟩⟩,fun h e=>(by cases e),fun j hj=>(by simp at hj),Apt.nil⟩,aU,ij (by rw [Y.out,pS];rfl)⟩
 case round=>
  obtain⟨j,p,tv,D,hj,rfl,R,f,B,ax,U⟩:=hrel;obtain⟨d,ay⟩:∃ d,d=wr:=⟨_,rfl⟩;rw [<-ay]at f B ax ⊢;clear ay;by_cases hjm:j<m
  ·have q1:(j:Int)<m:=by omega
   have O:m - j=(m - (j+1))+1:=by omega
   have HT:=ij (zu d.drew d.drew b D s (f.out.rd.grown (iy (ir _ _))).self hs);have cq:d.cell? ⟨w.heap.size+1,0,none⟩=some tv:=by simpa using f.out.cell 0
   go_wp2_with fail
   refine iz (fun u=>u.cell? ⟨w.heap.size+1,0,none⟩=some tv) 7 (by kernel_rfl) (by kernel_rfl) ?_ ?_
   ·simp [go_sem,cq]
   intro hHeld;refine ie 0 ?v0 rfl (by kernel_rfl) (fun _ _ _ h=>h) (by rfl) ?y0 (by assumption) ?_
   case y0=>(intro u hu;go_simp;try rfl)
   simp only [Act.put,List.setIfInBounds_toArray];refine ie 1 ?v1 rfl (by kernel_rfl) (fun _ _ _ h=>h) (by rfl) ?y1 (by assumption) ?_
   case y1=>(intro u hu;go_simp;try rfl)
   simp only [Act.put];refine ie 2 ?v2 rfl (by kernel_rfl) (fun _ _ _ h=>h) (by rfl) ?y2 (by assumption) ?_
   case y2=>(intro u hu;go_simp;try rfl)
   simp only [Act.put];refine iu (i:=3) rfl (by kernel_rfl) (by kernel_rfl) (by rfl) ?_;intro K3 am;have af:=ij am;clear am;go_simp;refine HT.out.mono ?_;rintro e w6 (⟨l,rfl,F⟩ | ⟨x,r1,v,k2,l,rfl,Q,z,rfl⟩)
   ·have Z:Hid (rdProg ((byt s).drop k)=none):=by unfold Hid;rw [<-U.out,O,oy l]
    have V:=ij (il K.out.base (il f.out.rd.base (il (iy (ir _ _)) F)));clear l F O;exact⟨rfl,Or.inl ⟨Z.out,rfl,V.out⟩⟩
   have aA:Hid (conts (p++[x]) (rdMany rdThread (m - (j+1)) ((byt s).drop k2))=rdProg ((byt s).drop k)):=by unfold Hid;rw [<-U.out,O,oz l]
   have aq:w.heap.size+2<=d.drew.heap.size:=ax;have ab:d.grownBy w6 (some b):=il (iy (ir _ _)) z.base;have hw6:w.heap.size+2<=w6.heap.size:=Nat.le_trans aq z.base.size;have X:=ij (f.out.call (RdS.trans (f.out.rd.self.grown (iy (ir _ _))) z));have M:Hid (ThrAt (w.heap.size+2) d.heap.size w6 tv p):=B.out.step ab (fun q e=>by simp only [Option.some.injEq]at e;omega);have az:Hid (d.heap.size<=w6.heap.size):=ab.size;have aD:Hid (∀ q,v.ownBlock=some q->d.heap.size<=q):=fun q e=>iA Q.2.1 q e
   have S:Hid (CodeRow (w.heap.size+2) w6.heap.size w6 v x):=⟨iK Q.2.1 aq,Q.2.2⟩;obtain⟨v1,v2,v3,rfl⟩:=iw S.out.1;obtain⟨a,r,c,rfl⟩:=iw M.out.choose_spec.1;obtain⟨rows,E⟩:∃ rows,Hid (w6.ownsRow (w.heap.size+2) 66 1 (.slice a r c) p.length rows):=⟨_,M.out.choose_spec.1⟩;have aO:=iB E.out;subst aO;have hpl:p.length<=4:=by have:=R.out;omega
   have ap:w6.cell? ⟨w.heap.size+1,0,none⟩=some (.slice a p.length c):=by simpa using X.out.cell 0
   clear l z ab O HT Q B f;refine af.out _ _ ap ?_;clear af;try simp only [Act.put,List.setIfInBounds_toArray]
   refine iu (i:=4) rfl (by kernel_rfl) (by kernel_rfl) (by rfl) ?_;intro K4 an;have ag:=ij an;clear an;go_simp;have G:w6.grownBy (w6.alloc (.cells #[.slice v1 v2 v3] 66)) none:=iq (ir _ _);refine ag.out _ _ (ip G _ _ ap) ?_;clear ag;have aH:p.length+1<=maxLen:=by unfold maxLen;omega
   have aK:(p.length+1)*24<=140737488355328:=by omega
   refine iu (i:=5) rfl (by kernel_rfl) (by kernel_rfl) (by rfl) ?_;intro K5 ao;have ah:=ij ao;clear ao;refine wp_append_lies _ (.tmp 9) (.tmp 12) 35 (by rfl) (w.heap.size+2) 66 i1 _ 1 24 Tryz.underlying35 aL aQ aR aS rfl (by omega) (.slice a p.length c) p.length rows (by rfl) (iG E.out) ⟨w6.heap.size,0,none⟩ 1 1 [.slice v1 v2 v3] (by rfl) (by rfl) (World.news_of_block (cs:= #[.slice v1 v2 v3]) (t:=66) (fr:=(0,0)) (heap_alloc_new w6 _)) (by simp [Value.oneCell']) (by omega) aH aK (by simp;omega) (w6.heap.size+1) (by simp) ?_;intro g2 A y ac H aJ aM;have au:∀ q,(Value.slice a p.length c).ownBlock=some q->w.heap.size+2<=q:=fun q e=>iA E.out q e
   have P:∀ q,q<w.heap.size+2->y.heap[q]?=w6.heap[q]?:=fun q hq=>by
    rw [H.block q (by simp;omega) (fun e=>by have:=au q e.symm;omega),G.block q (by omega) (by simp)]
   have L:Hid (InS w y b s k2 37 (w.heap.size+1) w.heap.size #[.slice a p.length c] #[.slice none 0 0]):=by
    have I:=X.out;exact⟨⟨by rw [P _ (by omega)];exact I.rd.blk,iZ (il I.rd.base (jN G)) H (fun q e=>by have:=au q e;omega),I.rd.le⟩,by rw [P _ (by omega)];exact I.var,by rw [P _ (by omega)];exact I.res,I.cb,I.db,I.cd,I.lc,I.ld⟩
   have aI:y.cell? ⟨w.heap.size+1,0,none⟩=some (.slice a p.length c):=by simpa using L.out.cell 0
   have hsz7:w6.heap.size+1<=y.heap.size:=by have:=H.size;simpa using this
   have aj:Hid (ThrAt (w.heap.size+2) y.heap.size y (.slice (some ⟨g2,0,none⟩) (p.length+1) A) (p++[x])):=
    ThrAt.snoc M.out az.out aD.out E.out S.out G H ac (by omega) (rx ac)
   clear ac H aJ aM P G M E S X;refine ah.out _ _ aI ?_;clear ah;try simp only [Act.put,List.setIfInBounds_toArray]
   refine ie 6 ?v6 rfl (by kernel_rfl) (fun _ _ _ h=>h) (by rfl) ?y6 (by assumption) ?_
   case y6=>(intro u hu;go_simp;try rfl)
   simp only [Act.put];refine iF rfl (by kernel_rfl) (by kernel_rfl) (by rfl) ?_;have s7f:y.frozen? ⟨w.heap.size+1,0,none⟩=false:=L.out.free 0;have aC:=ij (L.out.set 0 (.slice (some ⟨g2,0,none⟩) (p.length+1) A));have N:Hid (ThrAt (w.heap.size+2) (y.setCell ⟨w.heap.size+1,0,none⟩ (.slice (some ⟨g2,0,none⟩) (p.length+1) A)).heap.size (y.setCell ⟨w.heap.size+1,0,none⟩ (.slice (some ⟨g2,0,none⟩) (p.length+1) A)) (.slice (some ⟨g2,0,none⟩) (p.length+1) A) (p++[x])):=by
    have:=aj.out.step (iM (w:=y) (b:=w.heap.size+1) (o:=0) (v:= .slice (some ⟨g2,0,none⟩) (p.length+1) A)) (fun q e=>by simp only [Option.some.injEq]at e;omega);exact this.mono (by simp)
   have aP:w.heap.size+2<=(y.setCell ⟨w.heap.size+1,0,none⟩ (.slice (some ⟨g2,0,none⟩) (p.length+1) A)).heap.size:=by simp;omega
   clear L aj;go_simp;go_wp2
   go_roundw
   case rel=>exact⟨j+1,p++[x],_,k2,by omega,by first | rfl | go_num,ij (by simpa using R.out),aC,N,aP,aA⟩
   case measure=>simp [intOf];omega
  ·have q1:¬(j:Int)<m:=by omega
   have ej:m - j=0:=by omega
   have Z:Hid (rdProg ((byt s).drop k)=some (p,(byt s).drop D)):=by unfold Hid;rw [<-U.out,ej,oA]
   have aG:Hid (p.length<=4):=by unfold Hid;have:=R.out;omega
   obtain⟨a,r,c,rfl⟩:=iw B.out.choose_spec.1;have cq:d.cell? ⟨w.heap.size+1,0,none⟩=some (.slice a r c):=by simpa using f.out.cell 0
   have cr:d.cell? ⟨w.heap.size,0,none⟩=some (.slice none 0 0):=by simpa using f.out.rcell 0
   have fr:=f.out.rfree 0;clear ej;go_wp2_with fail
   have J:=f.out.rset 0 (.slice a r c);have N:ThrAt (w.heap.size+2) (d.setCell ⟨w.heap.size,0,none⟩ (.slice a r c)).heap.size (d.setCell ⟨w.heap.size,0,none⟩ (.slice a r c)) (.slice a r c) p:=by
    have:=B.out.step (iM (w:=d) (b:=w.heap.size) (o:=0) (v:= .slice a r c)) (fun q e=>by simp only [Option.some.injEq]at e;omega);exact this.mono (by simp)
   clear cq cr fr f B;generalize d.setCell ⟨w.heap.size,0,none⟩ (.slice a r c)=wz at J N ⊢;have e0:wz.cell? ⟨w.heap.size,0,none⟩=some (.slice a r c):=by simpa using J.rcell 0
   refine bodyPost_ret (v:= .agg #[.slice a r c]) ?_ rfl ?_
   ·simp [results,Tryz.results137,go_sem,e0]
   ·exact Or.inr ⟨p,_,_,D,Z.out,rfl,⟨aG.out,_,rfl,N⟩,K.out.trans J.rd,rfl⟩
theorem oW(m:Nat)(a:List Int)(l:List Nat):rdRuns (m+1) a l=match rdRun (500 - a.length) l with
  | none=>none
  | some ((t,c),r)=>if a.getLast?≠some t then rdRuns m (a++List.replicate c.toNat t) r else none:=by
 rw [rdRuns,rdRun];cases rdWhole l with
 | none=>rfl
 | some x=>
  obtain⟨t,r⟩:=x;simp only;cases rdMost (500 - a.length) r with
  | none=>rfl
  | some y=>
   obtain⟨c,r'⟩:=y;simp only;by_cases hc:0<c
   ·simp [hc]
   ·simp [hc]
theorem sP{a:Int}{l r:List Nat}{t c:Int}(h:rdRun a l=some ((t,c),r)):0<=t/\t<=9223372036854775807/\0<c/\c<=a:=by
 unfold rdRun at h;split at h
 ·cases h
 ·rename_i t' r' hw
  split at h
  ·cases h
  ·rename_i c' r'' hm
   split at h
   ·simp only [Option.some.injEq,Prod.mk.injEq]at h;obtain⟨⟨rfl,rfl⟩,rfl⟩:=h;have b:=lH hw;have d:=kw hm;have e:t'<=9223372036854775807:=by
     unfold rdWhole at hw;split at hw
     ·split at hw
      ·simp only [Option.some.injEq,Prod.mk.injEq]at hw;omega
      ·cases hw
     ·cases hw
    exact⟨b,e,by assumption,d.2⟩
   ·cases h
structure Box(p:Prop):Prop where
 out:p
section
variable {P : Program} {ops : Array Oper} {w : World} {Q : Act -> Prop} {a : Act} {o : Oper} {rest : List Oper}
theorem xy(b:Region.wanted o (yielded ops a.tmps)=false)(h:Box (wpStill P ops w Q rest (a.put o.dst undef))):Box (wpStill P ops w Q (o::rest) a):=by
 refine⟨?_⟩;unfold wpStill;rw [if_neg (by rw [b];simp)];exact h.out
theorem kj(b:Region.wanted o (yielded ops a.tmps)=true)(h:∀ K:Act->Prop,(∀ a,Box (wpStill P ops w Q rest a)->K a)->o.still P a w K):Box (wpStill P ops w Q (o::rest) a):=by
 refine⟨?_⟩;unfold wpStill;rw [if_pos b];exact h _ (fun _ h=>h.out)
theorem qH(h:Q a):Box (wpStill P ops w Q [] a):=⟨h⟩
theorem me{id:Nat}{Q:Exit->Act->World->Prop}{a:Act}{w:World}{l:List Oper}(n:Nat)(hm:P.follows .mixedOrders=true)(hB:Region.lexTailB .any l.toArray n=true)
  (h:Box (wpStill P l.toArray w.drew (fun a'=>wpList P l.toArray Q (l.drop n) a' w.drew) (l.take n) a)):(Code.region id l.toArray true).wp P Q a w:=wp_region_still_tail n hm hB h.out
end
theorem ux(W w:World)(b k:Nat)(s:ByteArray)(h:RdS W w b s k)(hs:s.size<=9223372036854775806):
  Calls Tryz.prog 138 #[pt b] w (Rd W b s (fun w' l v=>l.length<=500/\w'.ownsRow w.heap.size 3 1 v l.length (ints l)) (rdSched ((byt s).drop k))):=by
 have HM:=ij (ru w w b k s h.self hs 500);have M:=ij h;have aw:=h.lt;have aA:pt b= .pointer (some ⟨b,0,none⟩):=rfl;rw [aA]at*;clear h;go_enter Tryz.func138,Tryz.ntmps138
 go_wp2_with fail
 refine HM.out.mono ?_;rintro e w1 (⟨d,rfl,G⟩ | ⟨n,r1,v,k1,d,rfl,rfl,o,rfl⟩)
 ·have Q:Hid (rdSched ((byt s).drop k)=none):=by unfold Hid rdSched;rw [d]
  have P:=ij (il M.out.base G);clear d G;go_wp2_with fail
  exact⟨rfl,Or.inl ⟨Q.out,rfl,P.out⟩⟩
 obtain⟨h0,h500⟩:=kw d;obtain⟨m,rfl⟩:=Int.eq_ofNat_of_zero_le h0;have Q:Hid (rdSched ((byt s).drop k)=rdRuns m [] ((byt s).drop k1)):=by unfold Hid rdSched;rw [d];rfl
 have HS:=ij o;clear d o h0 HM;go_wp2_with fail
 go_loopw [3,8] (fun lv i w'=>∃ (j:Nat) (l:List Int) (C:Nat),j<=m/\i= .int .i64 j/\l.length<=500/\Hid (j=0↔l=[])/\Hid (RdS w w' b s C)/\Hid (w'.ownsRow w.heap.size 3 1 lv l.length (ints l))/\Hid (rdRuns (m - j) l ((byt s).drop C)=rdSched ((byt s).drop k))) (fun _ i _=>m - (intOf i).toNat)
 case atStart=>exact⟨0,[],k1,Nat.zero_le _,rfl,Nat.zero_le _,ij ⟨fun _=>rfl,fun _=>rfl⟩,HS,ij ⟨rfl,Or.inl ⟨rfl,rfl⟩⟩,ij (by rw [Q.out];rfl)⟩
 case round=>
  obtain⟨j,l,C,hj,rfl,ay,D,f,u,L⟩:=hrel;obtain⟨J,an⟩:∃ J,J=wr:=⟨_,rfl⟩;rw [<-an]at f u ⊢;clear an;have aC:w.heap.size<=J.heap.size:=f.out.base.size;obtain⟨V,s2,X,rfl⟩:=iw u.out;have aB:=iB u.out;subst aB;by_cases hjm:j<m
  ·have q1:(j:Int)<m:=by omega
   have O:m - j=(m - (j+1))+1:=by omega
   have HT:=ij (Ch J J b C s (500 - (l.length:Int)) f.out.self hs);go_wp2_with fail
   refine HT.out.mono ?_;rintro e w6 (⟨d,rfl,G⟩ | ⟨x,r1,v,k2,d,rfl,rfl,o,rfl⟩)
   ·have R:Hid (rdSched ((byt s).drop k)=none):=by unfold Hid;rw [<-L.out,O,oW,d]
    have P:=ij (il M.out.base (il f.out.base G));clear d G O;go_wp2_with fail
    exact⟨rfl,Or.inl ⟨R.out,rfl,P.out⟩⟩
   obtain⟨t,c⟩:=x;obtain⟨t0,t1,c0,c1⟩:=sP d;have r:Hid (rdSched ((byt s).drop k)=if l.getLast?≠some t then rdRuns (m - (j+1)) (l++List.replicate c.toNat t) ((byt s).drop k2) else none):=by unfold Hid;rw [<-L.out,O,oW,d]
   have af:=ij (f.out.trans o);have ae:=ij (rz u.out o.base aw);have hw6:w.heap.size<=w6.heap.size:=Nat.le_trans aC o.base.size;clear d o O HT L f u;obtain⟨a,rfl⟩:=Int.eq_ofNat_of_zero_le (show 0<=c by omega);have ax:a<=501:=by omega
   unfold runA;go_wp2_with fail
   have z:Hid (RdS w (w6.alloc (.cells #[.int .i64 t,.int .i64 (a:Int)] 187)) b s k2):=af.out.grown (iq (ir _ _));have F:Hid ((w6.alloc (.cells #[.int .i64 t,.int .i64 (a:Int)] 187)).ownsRow w.heap.size 3 1 (.slice V l.length X) l.length (ints l)):=iG ae.out;have a0:(w6.alloc (.cells #[.int .i64 t,.int .i64 (a:Int)] 187)).cell? ⟨w6.heap.size,0,none⟩=some (.int .i64 t):=by
    have:=heap_alloc_new w6 (.cells #[.int .i64 t,.int .i64 (a:Int)] 187);simp only [World.cell?,this];rfl
   have a1:(w6.alloc (.cells #[.int .i64 t,.int .i64 (a:Int)] 187)).cell? ⟨w6.heap.size,1,none⟩=some (.int .i64 (a:Int)):=by
    have:=heap_alloc_new w6 (.cells #[.int .i64 t,.int .i64 (a:Int)] 187);simp only [World.cell?,this];rfl
   generalize w6.alloc (.cells #[.int .i64 t,.int .i64 (a:Int)] 187)=wA at z F a0 a1 ⊢;have Y:=ij (rP w wA.drew (some b) (.slice V l.length X) l t a (iC F.out (iy (ir _ none)) (fun _ e=>by cases e)) (iy z.out.base) ax (by omega));have ab:∀ (q:World) (sv:Value),q.ownsRow w.heap.size 3 1 sv (l++List.replicate a t).length (ints (l++List.replicate a t))->w.grownBy q (some b)->wA.drew.grownBy q (Value.slice V l.length X).ownBlock->RdS w q b s k2:=by
    intro q sv h1 h2 h3;refine⟨?_,h2,z.out.le⟩;have az:=iA F.out;rw [h3.block b (by have:=z.out.lt;exact this) (fun e=>by have:=az b e.symm;omega)];exact z.out.blk
   have ad:=ij ab;have al:(l++List.replicate a t).length<=500:=by simp;omega
   have Z:=ij al;have ac:Hid (j+1=0↔l++List.replicate a t=[]):=by
    unfold Hid;refine⟨fun e=>by omega,fun e=>?_⟩;have:=congrArg List.length e;simp at this;omega
   clear ab al af ae;by_cases U:j=0
   ·have qz:((j:Int)==0)=true:=by simp;omega
    have ak:l=[]:=D.out.1 U;have E:Hid (rdRuns (m - (j+1)) (l++List.replicate a t) ((byt s).drop k2)=rdSched ((byt s).drop k)):=by
     unfold Hid;rw [r.out,if_pos (by rw [ak];simp)];rfl
    clear ak U r D;refine me 13 (by kernel_rfl) (by kernel_rfl) ?_;simp only [List.take_succ_cons,List.take_zero,List.drop_succ_cons,List.drop_zero];iterate 3 (refine kj (by rfl) (fun K hK=>?_);go_simp;refine hK _ ?_;clear hK K)
    iterate 9 (refine xy (by rfl) ?_;simp only [Act.put,List.setIfInBounds_toArray,List.set_cons_succ,List.set_cons_zero])
    refine kj (by rfl) (fun K hK=>?_);go_simp;refine hK _ ?_;clear hK K
    refine qH ?_;go_wp2_with (first | (go_at_call 141;refine(jd _).mono ?_;rintro e w7 ⟨⟨v7,rfl⟩,rfl⟩) | (go_at_call 102;refine Y.out.mono ?_;rintro e q ⟨sv,rfl,p,H,I,⟨z1,z2,z3,rfl⟩⟩))
    have S:=ij p;have T:=ij (ad.out _ _ p H I);clear p H I;go_wp2_with fail
    go_roundw
    case rel=>exact⟨j+1,l++List.replicate a t,k2,by omega,by first | rfl | go_num,Z.out,ac,T,S,E⟩
    case measure=>simp [intOf];omega
   ·have qz:((j:Int)==0)=false:=by simp;omega
    have A:l≠[]:=fun e=>U (D.out.2 e)
    have hlp:0<l.length:=List.length_pos_iff.2 A;obtain⟨g,cap,eg,_,_⟩:=F.out.form (by omega);simp only [Value.slice.injEq]at eg;obtain⟨rfl,_,rfl⟩:=eg;have hcell:wA.cell? ⟨g,l.length - 1,none⟩=some (.int .i64 (l.getLast A)):=by
     rw [F.out.cellAt _ (by omega)];have:l.length - 1<l.length:=by omega
     simp [ints,List.getLast_eq_getElem]
    have N:Hid (l.getLast?=some (l.getLast A)):=List.getLast?_eq_some_getLast A;generalize l.getLast A=y at*;have q3:(0:Int)<=(l.length:Int) - 1:=by omega
    have q7:(1:Int)<=(l.length:Int):=by omega
    have q4:(l.length:Int) - 1<l.length:=by omega
    have q5:((l.length:Int) - 1).toNat=l.length - 1:=by omega
    have q6:IntKind.i64.wrap ((l.length:Int) - 1)=(l.length:Int) - 1:=by rw [IntKind.wrap_i64];omega
    clear A;by_cases B:t=y
    ·have qn:(t !=y)=false:=by simp [B]
     have E:Hid (rdSched ((byt s).drop k)=none):=by
      unfold Hid;rw [r.out,N.out,if_neg (by simp [B])]
     clear B r D N;refine me 13 (by kernel_rfl) (by kernel_rfl) ?_;simp only [List.take_succ_cons,List.take_zero,List.drop_succ_cons,List.drop_zero];iterate 3 (refine kj (by rfl) (fun K hK=>?_);go_simp;refine hK _ ?_;clear hK K)
     iterate 9 (refine kj (by rfl) (fun K hK=>?_);go_simp;refine hK _ ?_;clear hK K)
     refine kj (by rfl) (fun K hK=>?_);go_simp;refine hK _ ?_;clear hK K
     refine qH ?_;go_wp2_with (go_at_call 141;refine(i7 _).mono ?_;rintro e w7 ⟨rfl,rfl⟩)
     exact⟨rfl,Or.inl ⟨E.out,rfl,il M.out.base (iy z.out.base)⟩⟩
    ·have qn:(t !=y)=true:=by simp [B]
     have E:Hid (rdRuns (m - (j+1)) (l++List.replicate a t) ((byt s).drop k2)=rdSched ((byt s).drop k)):=by
      unfold Hid;rw [r.out,N.out,if_pos (by simp;exact fun e=>B e.symm)];rfl
     clear B r D N;refine me 13 (by kernel_rfl) (by kernel_rfl) ?_;simp only [List.take_succ_cons,List.take_zero,List.drop_succ_cons,List.drop_zero];iterate 3 (refine kj (by rfl) (fun K hK=>?_);go_simp;refine hK _ ?_;clear hK K)
     iterate 9 (refine kj (by rfl) (fun K hK=>?_);go_simp;refine hK _ ?_;clear hK K)
     refine kj (by rfl) (fun K hK=>?_);go_simp;refine hK _ ?_;clear hK K
     refine qH ?_;go_wp2_with (first | (go_at_call 141;refine(jd _).mono ?_;rintro e w7 ⟨⟨v7,rfl⟩,rfl⟩) | (go_at_call 102;refine Y.out.mono ?_;rintro e q ⟨sv,rfl,p,H,I,⟨z1,z2,z3,rfl⟩⟩))
     have S:=ij p;have T:=ij (ad.out _ _ p H I);clear p H I;go_wp2_with fail
     go_roundw
     case rel=>exact⟨j+1,l++List.replicate a t,k2,by omega,by first | rfl | go_num,Z.out,ac,T,S,E⟩
     case measure=>simp [intOf];omega
  ·have q1:¬(j:Int)<m:=by omega
   have ej:m - j=0:=by omega
   have R:Hid (rdSched ((byt s).drop k)=some (l,(byt s).drop C)):=by unfold Hid;rw [<-L.out,ej,rdRuns]
   clear ej;go_wp2_with fail
   go_ret;exact Or.inr ⟨l,_,_,C,R.out,rfl,⟨ay,u.out⟩,M.out.trans f.out,rfl⟩
theorem zL(c:Nat)(hc:c<4294967296):bits .and .u32 (c:Int) 1=((c % 2:Nat):Int):=by
 have:=u32_and_nat c 1 hc (by decide);rw [nat_mask1]at this;exact this
theorem Bl(c:Nat)(hc:c<4294967296):bits .xor .u32 (c:Int) 3988292384=((c ^^^ 3988292384:Nat):Int):=u32_xor_nat c 3988292384 hc (by decide)
theorem A5(c:Nat)(hc:c<4294967296)(w:World):Calls Tryz.prog 170 #[.int .u32 c] w fun e w'=>e= .returned (.int .u32 (shN c))/\w'=w:=by
 have b:=zL c hc;have f:=Bl (c / 2) (by omega);by_cases h:c % 2=1
 ·have a:Hid (shN c=(c / 2) ^^^ 3988292384):=by unfold Hid shN;rw [if_pos h]
  rw [h]at b;go_enter Tryz.func170,Tryz.ntmps170
  go_wp2_with fail
  go_ret;refine⟨?_,rfl⟩;have e:((c:Int) / 2)=((c / 2:Nat):Int):=by omega
  rw [a.out,e,f];rfl
 ·have a:Hid (shN c=c / 2):=by unfold Hid shN;rw [if_neg h]
  have d:c % 2=0:=by omega
  rw [d]at b;go_enter Tryz.func170,Tryz.ntmps170
  go_wp2_with fail
  go_ret;refine⟨?_,rfl⟩;rw [a.out];have e:((c:Int) / 2)=((c / 2:Nat):Int):=by omega
  rw [e];rfl
theorem pP(s:ByteArray)(w:World)(hs:s.size<=9223372036854775806):Calls Tryz.prog 135 #[.string s] w fun e w'=>e= .returned (.int .u32 (crcN (byt s)))/\Like w' w:=by
 go_enter Tryz.func135,Tryz.ntmps135
 go_wp2_with fail
 go_loopw [3,7] (fun cv i w'=>∃ (k:Nat) (c:Nat),k<=s.size/\cv= .int .u32 c/\i= .int .i64 k/\c<4294967296/\Hid (c=crcF 4294967295 ((byt s).take k))/\Hid (Like w' w)) (fun _ i _=>s.size - (intOf i).toNat)
 case atStart=>exact⟨0,4294967295,Nat.zero_le _,rfl,rfl,by decide,ij rfl,ij (iT _)⟩
 case round=>
  obtain⟨k,c,hk,rfl,rfl,hc,f,h⟩:=hrel;obtain⟨b,D⟩:∃ b,b=wr:=⟨_,rfl⟩;subst D;by_cases r:k<s.size
  ·have E:(k:Int)<s.size:=by omega
   have hb:=s[k].toNat_lt;have u:=u32_xor_nat c s[k].toNat hc (by omega);have B:c ^^^ s[k].toNat<4294967296:=Nat.xor_lt_two_pow (n:=32) hc (by omega);have HX:Hid (crcF 4294967295 ((byt s).take (k+1))=shK 8 (c ^^^ s[k].toNat)):=by
    unfold Hid;have t:k<(byt s).length:=by rw [iL];exact r
    have p:=jU s k r;rw [List.getElem?_eq_getElem t]at p;rw [<-List.take_append_getElem t,nH,<-f.out,Option.some.inj p];rfl
   generalize c ^^^ s[k].toNat=d at*;clear f;have x:=h;clear h;go_wp2_with fail
   go_loopw [3,16] (fun cv i w'=>∃ (j:Nat) (a:Nat),j<=8/\cv= .int .u32 a/\i= .int .i64 j/\a<4294967296/\Hid (a=shK j d)/\Hid (w'=b)) (fun _ i _=>8 - (intOf i).toNat)
   case atStart=>exact⟨0,d,Nat.zero_le _,rfl,rfl,B,ij rfl,ij rfl⟩
   case round=>
    obtain⟨j,a,hj,rfl,rfl,l,m,o⟩:=hrel;rw [o.out];clear o;by_cases hj8:j<8
    ·have F:(j:Int)<8:=by omega
     have y:Hid (shN a=shK (j+1) d):=by
      unfold Hid;rw [m.out,ve];rfl
     have v:=ij (zi l);have A:=ij (A5 a l b);go_wp2_with (go_at_call 170;refine A.out.mono ?_;rintro e w6 ⟨rfl,rfl⟩)
     go_roundw
     case rel=>exact⟨j+1,shN a,by omega,rfl,by first | rfl | (congr 1),v.out,y,by first | exact ij rfl | exact ij trivial⟩
     case measure=>simp [intOf];omega
    ·have F:¬(j:Int)<8:=by omega
     have C:j=8:=by omega
     subst C;go_wp2_with fail
     go_roundw
     case rel=>exact⟨k+1,a,by omega,rfl,by first | rfl | (congr 1),l,ij (by rw [HX.out];exact m.out),x⟩
     case measure=>simp [intOf];omega
  ·have E:¬(k:Int)<s.size:=by omega
   have u:=u32_xor_nat 4294967295 c (by decide) hc;have q:k=s.size:=by omega
   have z:Hid (crcN (byt s)=4294967295 ^^^ c):=by
    unfold Hid crcN;rw [f.out,q,<-iL,List.take_length]
   clear q;go_wp2_with fail
   go_ret;refine⟨?_,h.out⟩;rw [z.out,<-u];rfl
end
end Go.Proofs.YtklenjmfalljgabGreatDoor
